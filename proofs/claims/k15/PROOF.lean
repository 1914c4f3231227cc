import PyProof.Rows.All
import Wide.All
import OpenK.AllK
import Wide.FinOn
import HandS.ForMost
import HandS.Wide
import HandS.RaiseMore
import HandS.Conv
import HandS.IsInst
import HandS.Small
import HandS.Deep
import HandS.Style
import HandS.Flow
import HandS.FStr
import HandS.Property
import HandS.Defaults
import HandS.ClsMeth
import HandS.CallLocal
import HandS.SortInts
import HandS.SetFor
import HandS.OwnEq
import HandS.ListItems
import KE.KDictList
import HandS.TupLe
import PyProof.InstNe
import HandS.More
import KE.KDictDisplayH
import KE.KDictZip
import KE.KTurns
import KE.GoesEnum
import HandS.Rev
import KE.LtSeq
import KE.KSortTupUse
import HandS.WideBits
import HandS.RevRange
import PySem.Challenge.RW_tokenlanes_k15_reachable_settings_counte
set_option Elab.async false
set_option autoImplicit false
set_option linter.all false
set_option maxRecDepth 100000
/-! Mx0: data that stands at values of the abstract heap, lists that one slot owns, what a frame holds. -/
namespace Mx
open PySem L2

abbrev D := PyData
abbrev AS := Addr → Prop
def AS.or (T U : AS) : AS := fun a => T a ∨ U a
def AS.one (p : Addr) : AS := fun a => a = p
def AS.emp : AS := fun _ => False

def kD : Key → D
  | .inl i => .int i
  | .inr x => .str x
/-- a key that is a tuple -/
def kT (k : List Key) : D := .tuple (k.map kD)

mutual
/-- v stands for the data d; nothing that can change on the way is in T -/
inductive At (T : AS) (H : Hp) : V → PyData → Prop
  | non : At T H .non .none
  | bl (b : Bool) : At T H (.bl b) (.bool b)
  | int (i : Int) : At T H (.int i) (.int i)
  | str (x : Str) : At T H (.str x) (.str x)
  | lst {a : Addr} {xs : List V} {ds : List PyData} : ¬ T a → H a = some (.lst xs) → AtL T H xs ds → At T H (.ref a) (.list ds)
  | tup {a : Addr} {xs : List V} {ds : List PyData} : ¬ T a → H a = some (.tup xs) → AtL T H xs ds → At T H (.ref a) (.tuple ds)
  | dic {a : Addr} {kvs : List (Key × V)} {ds : List (PyData × PyData)} : ¬ T a → H a = some (.dK kvs) → AtM T H kvs ds → At T H (.ref a) (.dict ds)
  | dit {a : Addr} {kvs : List (List Key × V)} {ds : List (PyData × PyData)} : ¬ T a → H a = some (.dT kvs) → kvs ≠ [] → AtT T H kvs ds → At T H (.ref a) (.dict ds)
inductive AtL (T : AS) (H : Hp) : List V → List PyData → Prop
  | nil : AtL T H [] []
  | cons {v : V} {vs : List V} {d : PyData} {ds : List PyData} : At T H v d → AtL T H vs ds → AtL T H (v :: vs) (d :: ds)
inductive AtM (T : AS) (H : Hp) : List (Key × V) → List (PyData × PyData) → Prop
  | nil : AtM T H [] []
  | cons {k : Key} {v : V} {vs : List (Key × V)} {d : PyData} {ds : List (PyData × PyData)} : At T H v d → AtM T H vs ds → AtM T H ((k, v) :: vs) ((kD k, d) :: ds)
inductive AtT (T : AS) (H : Hp) : List (List Key × V) → List (PyData × PyData) → Prop
  | nil : AtT T H [] []
  | cons {k : List Key} {v : V} {vs : List (List Key × V)} {d : PyData} {ds : List (PyData × PyData)} : At T H v d → AtT T H vs ds → AtT T H ((k, v) :: vs) ((kT k, d) :: ds)
end

/-- all but what is in O stands as before -/
def Keep (O : AS) (H H' : Hp) : Prop := ∀ a o, ¬ O a → H a = some o → H' a = some o
theorem Keep.refl {O : AS} {H : Hp} : Keep O H H := fun _ _ _ e => e
theorem Keep.trans {O P : AS} {H H1 H2 : Hp} (h : Keep O H H1) (k : Keep P H1 H2) (s : ∀ a, P a → O a) : Keep O H H2 := fun a o n e => k a o (fun z => n (s a z)) (h a o n e)
theorem Keep.sub {O P : AS} {H H' : Hp} (h : Keep O H H') (s : ∀ a, O a → P a) : Keep P H H' := fun a o n e => h a o (fun z => n (s a z)) e
theorem Keep.new {O : AS} {H : Hp} {p : Addr} {o : HO} (h : H p = none) : Keep O H (upd H p o) := fun a u _ e => by
  rw [upd_ne (ne_of_none e h)]; exact e
theorem Keep.set {O : AS} {H : Hp} {p : Addr} {o : HO} (h : O p) : Keep O H (upd H p o) := fun a u n e => by
  rw [upd_ne (fun (z : a = p) => n (by rw [z]; exact h))]; exact e

/-- the one transport: to a heap that keeps all but O, to a smaller set, to a set with new addresses -/
structure Move (T T' : AS) (H H' : Hp) : Prop where
  mv : ∀ a o, ¬ T a → H a = some o → H' a = some o ∧ ¬ T' a
mutual
theorem At.move {T T' : AS} {H H' : Hp} (M : Move T T' H H') : ∀ (d : PyData) (v : V), At T H v d → At T' H' v d
  | .none, _, h => by cases h; exact .non
  | .bool b, _, h => by cases h; exact .bl b
  | .int i, _, h => by cases h; exact .int i
  | .str x, _, h => by cases h; exact .str x
  | .list ds, _, h => by
    cases h with
    | lst n e l =>
      obtain ⟨e', n'⟩ := M.mv _ _ n e
      exact .lst n' e' (AtL.move M ds _ l)
  | .tuple ds, _, h => by
    cases h with
    | tup n e l =>
      obtain ⟨e', n'⟩ := M.mv _ _ n e
      exact .tup n' e' (AtL.move M ds _ l)
  | .dict ds, _, h => by
    cases h with
    | dic n e l =>
      obtain ⟨e', n'⟩ := M.mv _ _ n e
      exact .dic n' e' (AtM.move M ds _ l)
    | dit n e z l =>
      obtain ⟨e', n'⟩ := M.mv _ _ n e
      exact .dit n' e' z (AtT.move M ds _ l)
theorem AtL.move {T T' : AS} {H H' : Hp} (M : Move T T' H H') : ∀ (ds : List PyData) (vs : List V), AtL T H vs ds → AtL T' H' vs ds
  | [], _, h => by cases h; exact .nil
  | d :: ds, _, h => by
    cases h with
    | cons a b => exact .cons (At.move M d _ a) (AtL.move M ds _ b)
theorem AtM.move {T T' : AS} {H H' : Hp} (M : Move T T' H H') : ∀ (ds : List (PyData × PyData)) (vs : List (Key × V)), AtM T H vs ds → AtM T' H' vs ds
  | [], _, h => by cases h; exact .nil
  | (_, d) :: ds, _, h => by
    cases h with
    | cons a b => exact .cons (At.move M d _ a) (AtM.move M ds _ b)
theorem AtT.move {T T' : AS} {H H' : Hp} (M : Move T T' H H') : ∀ (ds : List (PyData × PyData)) (vs : List (List Key × V)), AtT T H vs ds → AtT T' H' vs ds
  | [], _, h => by cases h; exact .nil
  | (_, d) :: ds, _, h => by
    cases h with
    | cons a b => exact .cons (At.move M d _ a) (AtT.move M ds _ b)
end
theorem Move.keep {T O : AS} {H H' : Hp} (k : Keep O H H') (s : ∀ a, O a → T a) : Move T T H H' := ⟨fun a o n e => ⟨k a o (fun z => n (s a z)) e, n⟩⟩
theorem Move.sub {T T' : AS} {H : Hp} (s : ∀ a, T' a → T a) : Move T T' H H := ⟨fun a o n e => ⟨e, fun z => n (s a z)⟩⟩
theorem Move.new {T : AS} {H : Hp} {p : Addr} (h : H p = none) : Move T (T.or (.one p)) H H := ⟨fun a o n e => ⟨e, fun z => z.elim n fun q => by
  have q' : a = p := q
  rw [q', h] at e; cases e⟩⟩
theorem Move.trans {T T1 T2 : AS} {H H1 H2 : Hp} (a : Move T T1 H H1) (b : Move T1 T2 H1 H2) : Move T T2 H H2 := ⟨fun x o n e => by
  obtain ⟨e1, n1⟩ := a.mv x o n e
  exact b.mv x o n1 e1⟩

theorem AtL.length {T : AS} {H : Hp} : ∀ {vs : List V} {ds : List PyData}, AtL T H vs ds → vs.length = ds.length
  | _, [], h => by cases h; rfl
  | _, _ :: _, h => by
    cases h with
    | cons a b => simp [AtL.length b]
theorem AtL.get {T : AS} {H : Hp} : ∀ {vs : List V} {ds : List PyData} {i : Nat} {d : D}, AtL T H vs ds → ds[i]? = some d → ∃ v, vs[i]? = some v ∧ At T H v d
  | _, [], _, _, h, e => by simp at e
  | _, _ :: _, 0, _, h, e => by
    cases h with
    | cons a b =>
      simp at e
      subst e
      exact ⟨_, rfl, a⟩
  | _, _ :: _, i + 1, _, h, e => by
    cases h with
    | cons a b =>
      obtain ⟨v, q, r⟩ := AtL.get (i := i) b (by simpa using e)
      exact ⟨v, by simpa using q, r⟩
theorem AtL.append {T : AS} {H : Hp} : ∀ {vs ws : List V} {ds es : List PyData}, AtL T H vs ds → AtL T H ws es → AtL T H (vs ++ ws) (ds ++ es)
  | _, _, [], _, h, k => by cases h; exact k
  | _, _, _ :: _, _, h, k => by
    cases h with
    | cons a b => exact .cons a (AtL.append b k)
theorem AtL.set {T : AS} {H : Hp} {v : V} {d : D} (h : At T H v d) : ∀ {vs : List V} {ds : List PyData} (i : Nat), AtL T H vs ds → AtL T H (vs.set i v) (ds.set i d)
  | _, [], _, k => by cases k; exact .nil
  | _, _ :: _, 0, k => by
    cases k with
    | cons a b => exact .cons h b
  | _, _ :: _, i + 1, k => by
    cases k with
    | cons a b => exact .cons a (AtL.set h i b)
theorem AtL.take {T : AS} {H : Hp} : ∀ {vs : List V} {ds : List PyData} (n : Nat), AtL T H vs ds → AtL T H (vs.take n) (ds.take n)
  | _, _, 0, k => by simpa using .nil
  | _, [], n + 1, k => by cases k; simpa using .nil
  | _, _ :: _, n + 1, k => by
    cases k with
    | cons a b => simpa using .cons a (AtL.take n b)
theorem AtL.drop {T : AS} {H : Hp} : ∀ {vs : List V} {ds : List PyData} (n : Nat), AtL T H vs ds → AtL T H (vs.drop n) (ds.drop n)
  | _, _, 0, k => by simpa using k
  | _, [], n + 1, k => by cases k; simpa using .nil
  | _, _ :: _, n + 1, k => by
    cases k with
    | cons a b => simpa using AtL.drop n b
theorem AtL.reverse {T : AS} {H : Hp} : ∀ {vs : List V} {ds : List PyData}, AtL T H vs ds → AtL T H vs.reverse ds.reverse
  | _, [], k => by cases k; exact .nil
  | _, _ :: _, k => by
    cases k with
    | cons a b =>
      simp only [List.reverse_cons]
      exact AtL.append (AtL.reverse b) (.cons a .nil)
theorem AtL.ints {T : AS} {H : Hp} : ∀ {ns : List Int}, AtL T H (ns.map V.int) (ns.map PyData.int)
  | [] => .nil
  | n :: ns => .cons (.int n) AtL.ints

/-! ### slots, operands -/
inductive Slot where
  /-- data that does not change while it is so -/
  | dat (d : D)
  /-- a list (a dict) that this slot alone knows; loc: made in this frame -/
  | own (loc : Bool) (d : D)
  /-- a Board -/
  | brd (n : Int) (gs : List D)
  /-- the script -/
  | scr (ns : List Int)
  /-- a list of Boards -/
  | brds (l : List (Int × List D))
  /-- this very value -/
  | raw (v : V)
abbrev MEnv := List (Option Slot)
inductive Opd where
  | dat (d : D)
  /-- a new list that nobody else knows -/
  | new (d : D)
  | slot (i : Nat)
  | brd (n : Int) (gs : List D)

structure Wd where
  K : PySem.W.Frag
  /-- the class Board -/
  B : Addr
  /-- what is to stay as it is (what stood when the frame began) -/
  B0 : AS
def Wd.at (W : Wd) (B0 : AS) : Wd := ⟨W.K, W.B, B0⟩

/-- the list or dict at p -/
def Cont (T : AS) (H : Hp) (p : Addr) : D → Prop
  | .list ds => ∃ xs, H p = some (.lst xs) ∧ AtL T H xs ds
  | .dict ds => (∃ kvs, H p = some (.dK kvs) ∧ AtM T H kvs ds) ∨ ∃ kvs, H p = some (.dT kvs) ∧ kvs ≠ [] ∧ AtT T H kvs ds
  | _ => False
theorem Cont.move {T T' : AS} {H H' : Hp} {p : Addr} {d : D} (M : Move T T' H H') (hp : ∀ o, H p = some o → H' p = some o) (h : Cont T H p d) : Cont T' H' p d := by
  cases d with
  | list ds => obtain ⟨xs, e, l⟩ := h; exact ⟨xs, hp _ e, AtL.move M ds _ l⟩
  | dict ds =>
    rcases h with ⟨xs, e, l⟩ | ⟨xs, e, z, l⟩
    · exact .inl ⟨xs, hp _ e, AtM.move M ds _ l⟩
    · exact .inr ⟨xs, hp _ e, z, AtT.move M ds _ l⟩
  | none => exact h
  | bool b => exact h
  | int i => exact h
  | str x => exact h
  | tuple ds => exact h
theorem Cont.there {T : AS} {H : Hp} {p : Addr} {d : D} (h : Cont T H p d) : H p ≠ none := by
  cases d with
  | list ds => obtain ⟨xs, e, l⟩ := h; rw [e]; exact fun z => nomatch z
  | dict ds =>
    rcases h with ⟨xs, e, l⟩ | ⟨xs, e, y, l⟩
    · rw [e]; exact fun z => nomatch z
    · rw [e]; exact fun z => nomatch z
  | none => exact h.elim
  | bool b => exact h.elim
  | int i => exact h.elim
  | str x => exact h.elim
  | tuple ds => exact h.elim
theorem Cont.at {T : AS} {H : Hp} {p : Addr} {d : D} (n : ¬ T p) (h : Cont T H p d) : At T H (.ref p) d := by
  cases d with
  | list ds => obtain ⟨xs, e, l⟩ := h; exact .lst n e l
  | dict ds =>
    rcases h with ⟨xs, e, l⟩ | ⟨xs, e, z, l⟩
    · exact .dic n e l
    · exact .dit n e z l
  | none => exact h.elim
  | bool b => exact h.elim
  | int i => exact h.elim
  | str x => exact h.elim
  | tuple ds => exact h.elim

def BrdAt (B : Addr) (T : AS) (H : Hp) (v : V) (n : Int) (gs : List D) : Prop :=
  ∃ a dx g xs, v = .ref a ∧ ¬ T a ∧ ¬ T g ∧ H a = some (.ins B dx [("_lanes", .int n), ("_gates", .ref g)]) ∧ H g = some (.lst xs) ∧ AtL T H xs gs
theorem BrdAt.move {B : Addr} {T T' : AS} {H H' : Hp} {v : V} {n : Int} {gs : List D} (M : Move T T' H H') (h : BrdAt B T H v n gs) : BrdAt B T' H' v n gs := by
  obtain ⟨a, dx, g, xs, e, n1, n2, e1, e2, l⟩ := h
  obtain ⟨e1', n1'⟩ := M.mv _ _ n1 e1
  obtain ⟨e2', n2'⟩ := M.mv _ _ n2 e2
  exact ⟨a, dx, g, xs, e, n1', n2', e1', e2', AtL.move M gs _ l⟩
def BrdsAt (B : Addr) (T : AS) (H : Hp) (v : V) (l : List (Int × List D)) : Prop :=
  ∃ a xs, v = .ref a ∧ ¬ T a ∧ H a = some (.lst xs) ∧ xs.length = l.length ∧ ∀ (i : Nat) (x : V) (p : Int × List D), xs[i]? = some x → l[i]? = some p → BrdAt B T H x p.1 p.2
theorem BrdsAt.move {B : Addr} {T T' : AS} {H H' : Hp} {v : V} {l : List (Int × List D)} (M : Move T T' H H') (h : BrdsAt B T H v l) : BrdsAt B T' H' v l := by
  obtain ⟨a, xs, e, n, e1, hl, k⟩ := h
  obtain ⟨e1', n'⟩ := M.mv _ _ n e1
  exact ⟨a, xs, e, n', e1', hl, fun i x p hx hp => BrdAt.move M (k i x p hx hp)⟩
def ScrAt (K : PySem.W.Frag) (T : AS) (H : Hp) (v : V) (ns : List Int) : Prop :=
  ∃ a, v = .ref a ∧ ((¬ T a ∧ Rd H a (.lst (ns.map V.int))) ∨ ∀ H', SqL K H' a (ns.map V.int))
theorem ScrAt.move {K : PySem.W.Frag} {T T' : AS} {H H' : Hp} {v : V} {ns : List Int} (M : Move T T' H H') (h : ScrAt K T H v ns) : ScrAt K T' H' v ns := by
  obtain ⟨a, e, h⟩ := h
  refine ⟨a, e, ?_⟩
  rcases h with ⟨n, r⟩ | k
  · rcases r with r | ⟨o, r⟩
    · obtain ⟨e', n'⟩ := M.mv _ _ n r
      exact .inl ⟨n', .inl e'⟩
    · obtain ⟨e', n'⟩ := M.mv _ _ n r
      exact .inl ⟨n', .inr ⟨o, e'⟩⟩
  · exact .inr k
theorem ScrAt.sq {K : PySem.W.Frag} {T : AS} {H : Hp} {v : V} {ns : List Int} (h : ScrAt K T H v ns) : ∃ a, v = .ref a ∧ SqL K H a (ns.map V.int) := by
  obtain ⟨a, e, h⟩ := h
  rcases h with ⟨_, r⟩ | k
  · exact ⟨a, e, .inl r⟩
  · exact ⟨a, e, k H⟩
theorem ScrAt.of {K : PySem.W.Frag} {H : Hp} {a : Addr} {ns : List Int} (h : SqL K H a (ns.map V.int)) : ScrAt K AS.emp H (.ref a) ns := by
  refine ⟨a, rfl, ?_⟩
  rcases h with h | h
  · exact .inl ⟨fun z => z, h⟩
  · exact .inr fun H' => .inr h

def OwnAt (σ : L2.St) (env : MEnv) (i : Nat) (a : Addr) : Prop := (∃ (l : Bool) (d : D), env[i]? = some (some (Slot.own l d))) ∧ σ[i]? = some (some (.ref a))
/-- what the frame's own slots own -/
def Own (σ : L2.St) (env : MEnv) : AS := fun a => ∃ i, OwnAt σ env i a
abbrev Tot (T0 : AS) (σ : L2.St) (env : MEnv) : AS := T0.or (Own σ env)

def SlotOk (W : Wd) (T T0 : AS) (H : Hp) (v : V) : Slot → Prop
  | .dat d => At T H v d
  | .own l d => ∃ p, v = .ref p ∧ Cont T H p d ∧ (l = true → ¬ T0 p ∧ ¬ W.B0 p)
  | .brd n gs => BrdAt W.B T H v n gs
  | .scr ns => ScrAt W.K T H v ns
  | .brds l => BrdsAt W.B T H v l
  | .raw v0 => v = v0

/-- something that stands there, no tuple -/
def Mu (H : Hp) (a : Addr) : Prop := H a ≠ none ∧ ∀ xs, H a ≠ some (.tup xs)
theorem Mu.keep {H H' : Hp} {a : Addr} (m : Mu H a) (k : ∀ o, H a = some o → H' a = some o) : Mu H' a := by
  cases q : H a with
  | none => exact absurd q m.1
  | some o =>
    have z := k o q
    exact ⟨fun y => (by rw [z] at y; cases y), fun xs y => m.2 xs (by rw [q, ← z, y])⟩
theorem mu_upd {H : Hp} {p : Addr} {o : HO} (h : ∀ xs, o ≠ .tup xs) : Mu (upd H p o) p := ⟨(by rw [upd_same]; exact fun z => (nomatch z)), fun xs => (by rw [upd_same]; exact fun z => h xs (Option.some.inj z))⟩
theorem Cont.mu {T : AS} {H : Hp} {p : Addr} {d : D} (h : Cont T H p d) : Mu H p := by
  refine ⟨h.there, fun xs z => ?_⟩
  cases d with
  | list ds => obtain ⟨ys, e, _⟩ := h; rw [z] at e; cases e
  | dict ds =>
    rcases h with ⟨kvs, e, _⟩ | ⟨kvs, e, _⟩
    · rw [z] at e; cases e
    · rw [z] at e; cases e
  | none => exact h
  | bool b => exact h
  | int i => exact h
  | str x => exact h
  | tuple ds => exact h
structure Rel (W : Wd) (T0 : AS) (σ : L2.St) (H : Hp) (env : MEnv) : Prop where
  len : env.length = σ.length
  dom : ∀ a, T0 a → Mu H a
  bdom : ∀ a, W.B0 a → H a ≠ none
  ok : ∀ (i : Nat) (s : Slot), env[i]? = some (some s) → ∃ v : V, σ[i]? = some (some v) ∧ SlotOk W (Tot T0 σ env) T0 H v s
  inj : ∀ i j a, OwnAt σ env i a → OwnAt σ env j a → i = j

theorem Rel.ownDom {W : Wd} {T0 : AS} {σ : L2.St} {H : Hp} {env : MEnv} (R : Rel W T0 σ H env) {a : Addr} (h : Own σ env a) : Mu H a := by
  obtain ⟨i, ⟨l, d, e⟩, es⟩ := h
  obtain ⟨v, ev, k⟩ := R.ok i _ e
  obtain ⟨p, rfl, c, _⟩ := k
  rw [es] at ev
  cases ev
  exact c.mu
theorem Rel.totMu {W : Wd} {T0 : AS} {σ : L2.St} {H : Hp} {env : MEnv} (R : Rel W T0 σ H env) {a : Addr} (h : Tot T0 σ env a) : Mu H a := h.elim (R.dom a) R.ownDom
theorem Rel.totDom {W : Wd} {T0 : AS} {σ : L2.St} {H : Hp} {env : MEnv} (R : Rel W T0 σ H env) {a : Addr} (h : Tot T0 σ env a) : H a ≠ none := (R.totMu h).1
theorem Rel.fresh {W : Wd} {T0 : AS} {σ : L2.St} {H : Hp} {env : MEnv} (R : Rel W T0 σ H env) {p : Addr} (h : H p = none) : ¬ Tot T0 σ env p := fun z => R.totDom z h
/-- the heap grows, the sets stay -/
theorem Rel.grow {W : Wd} {T0 : AS} {σ : L2.St} {H H' : Hp} {env : MEnv} (R : Rel W T0 σ H env) (k : Keep AS.emp H H') : Rel W T0 σ H' env := by
  have M : Move (Tot T0 σ env) (Tot T0 σ env) H H' := Move.keep k fun _ z => z.elim
  have dm : ∀ a, H a ≠ none → H' a ≠ none := fun a t z => by
    cases q : H a with
    | none => exact t q
    | some o =>
      have := k a o (fun z => z) q
      rw [z] at this; cases this
  refine ⟨R.len, fun a t => (R.dom a t).keep fun o q => k a o (fun z => z) q, fun a t => dm a (R.bdom a t), fun i s e => ?_, R.inj⟩
  · obtain ⟨v, ev, o⟩ := R.ok i s e
    refine ⟨v, ev, ?_⟩
    cases s with
    | dat d => exact At.move M d v o
    | own l d =>
      obtain ⟨p, e1, c, n⟩ := o
      exact ⟨p, e1, c.move M (fun u q => k p u (fun z => z) q), n⟩
    | brd n gs => exact BrdAt.move M o
    | scr ns => exact ScrAt.move M o
    | brds l9 => exact BrdsAt.move M o
    | raw v0 => exact o
/-- one more outer list -/
theorem Rel.more {W : Wd} {T0 : AS} {σ : L2.St} {H : Hp} {env : MEnv} {p : Addr} (R : Rel W T0 σ H env) (h : H p = none) {H' : Hp} (k : Keep AS.emp H H') (hp : Mu H' p) : Rel W (T0.or (.one p)) σ H' env := by
  have sub : ∀ a, Tot (T0.or (.one p)) σ env a → ((Tot T0 σ env).or (.one p)) a := fun a z => by
    rcases z with (z | z) | z
    · exact .inl (.inl z)
    · exact .inr z
    · exact .inl (.inr z)
  have M : Move (Tot T0 σ env) (Tot (T0.or (.one p)) σ env) H H' := ((Move.new h).trans (Move.sub sub)).trans (Move.keep k fun _ z => z.elim)
  have dm : ∀ a, H a ≠ none → H' a ≠ none := fun a t z => by
    cases q : H a with
    | none => exact t q
    | some o =>
      have := k a o (fun z => z) q
      rw [z] at this; cases this
  refine ⟨R.len, fun a t => ?_, fun a t => dm a (R.bdom a t), fun i s e => ?_, R.inj⟩
  · rcases t with t | t
    · exact (R.dom a t).keep fun o q => k a o (fun z => z) q
    · have t' : a = p := t
      rw [t']
      exact hp
  · obtain ⟨v, ev, o⟩ := R.ok i s e
    refine ⟨v, ev, ?_⟩
    cases s with
    | dat d => exact At.move M d v o
    | own l d =>
      obtain ⟨q, e1, c, n⟩ := o
      refine ⟨q, e1, c.move M (fun u q' => k q u (fun z => z) q'), fun hl => ⟨fun z => ?_, (n hl).2⟩⟩
      rcases z with z | z
      · exact (n hl).1 z
      · have z' : q = p := z
        exact c.there (by rw [z']; exact h)
    | brd n gs => exact BrdAt.move M o
    | scr ns => exact ScrAt.move M o
    | brds l9 => exact BrdsAt.move M o
    | raw v0 => exact o
theorem Rel.less {W : Wd} {T0 U : AS} {σ : L2.St} {H : Hp} {env : MEnv} (R : Rel W U σ H env) (s : ∀ a, T0 a → U a) : Rel W T0 σ H env := by
  have M : Move (Tot U σ env) (Tot T0 σ env) H H := Move.sub fun a z => z.elim (fun q => .inl (s a q)) .inr
  refine ⟨R.len, fun a t => R.dom a (s a t), R.bdom, fun i sl e => ?_, R.inj⟩
  obtain ⟨v, ev, o⟩ := R.ok i sl e
  refine ⟨v, ev, ?_⟩
  cases sl with
  | dat d => exact At.move M d v o
  | own l d =>
    obtain ⟨p, e1, c, n⟩ := o
    exact ⟨p, e1, c.move M (fun _ q => q), fun hl => ⟨fun z => (n hl).1 (s _ z), (n hl).2⟩⟩
  | brd n gs => exact BrdAt.move M o
  | scr ns => exact ScrAt.move M o
  | brds l9 => exact BrdsAt.move M o
  | raw v0 => exact o

/-- the own slots of env' are own slots of env -/
def Osub (env env' : MEnv) : Prop := ∀ (i : Nat) (l : Bool) (d : D), env'[i]? = some (some (Slot.own l d)) → ∃ d' : D, env[i]? = some (some (Slot.own l d'))
theorem Osub.refl {env : MEnv} : Osub env env := fun _ _ d h => ⟨d, h⟩
theorem Osub.trans {a b c : MEnv} (h : Osub a b) (k : Osub b c) : Osub a c := fun i l d e => let ⟨d1, e1⟩ := k i l d e; h i l d1 e1
theorem Osub.own {env env' : MEnv} {σ : L2.St} (h : Osub env env') : ∀ a, Own σ env' a → Own σ env a := fun a ⟨i, ⟨l, d, e⟩, es⟩ => let ⟨d', e'⟩ := h i l d e; ⟨i, ⟨l, d', e'⟩, es⟩
theorem Osub.tot {env env' : MEnv} {σ : L2.St} {T0 : AS} (h : Osub env env') : ∀ a, Tot T0 σ env' a → Tot T0 σ env a := fun a z => z.elim .inl fun q => .inr (h.own a q)

/-- an operand, and what holds with the new lists set aside -/
def OpdK (W : Wd) (T0 : AS) (σ : L2.St) (H : Hp) (env : MEnv) (v : V) (R : AS → Prop) : Opd → Prop
  | .dat d => At (Tot T0 σ env) H v d ∧ R T0
  | .new d => ∃ p, v = .ref p ∧ (¬ Tot T0 σ env p ∧ ¬ W.B0 p) ∧ Cont (Tot (T0.or (.one p)) σ env) H p d ∧ R (T0.or (.one p))
  | .slot i => σ[i]? = some (some v) ∧ R T0
  | .brd n gs => BrdAt W.B (Tot T0 σ env) H v n gs ∧ R T0
/-- an operand at the set that stands behind all operands -/
def OpdF (W : Wd) (σ : L2.St) (H : Hp) (env : MEnv) (v : V) (o : Opd) (T : AS) : Prop :=
  match o with
  | .dat d => At (Tot T σ env) H v d
  | .new d => ∃ p, v = .ref p ∧ T p ∧ Cont (Tot T σ env) H p d
  | .slot i => σ[i]? = some (some v)
  | .brd n gs => BrdAt W.B (Tot T σ env) H v n gs
def OpdsK (W : Wd) (σ : L2.St) (H : Hp) (env : MEnv) : AS → List V → List Opd → (AS → Prop) → Prop
  | T0, [], [], R => R T0
  | T0, v :: vs, o :: os, R => OpdK W T0 σ H env v (fun T => OpdsK W σ H env T vs os (fun T' => OpdF W σ H env v o T' ∧ R T')) o
  | _, _, _, _ => False
theorem OpdK.imp {W : Wd} {T0 : AS} {σ : L2.St} {H : Hp} {env : MEnv} {v : V} {R R' : AS → Prop} {o : Opd} (h : OpdK W T0 σ H env v R o) (k : ∀ T, R T → R' T) : OpdK W T0 σ H env v R' o := by
  cases o with
  | dat d => exact ⟨h.1, k _ h.2⟩
  | new d => obtain ⟨p, e, n, c, r⟩ := h; exact ⟨p, e, n, c, k _ r⟩
  | slot i => exact ⟨h.1, k _ h.2⟩
  | brd n gs => exact ⟨h.1, k _ h.2⟩
theorem OpdsK.imp {W : Wd} {σ : L2.St} {H : Hp} {env : MEnv} : ∀ {os : List Opd} {vs : List V} {T0 : AS} {R R' : AS → Prop}, OpdsK W σ H env T0 vs os R → (∀ T, R T → R' T) → OpdsK W σ H env T0 vs os R'
  | [], [], _, _, _, h, k => k _ h
  | [], _ :: _, _, _, _, h, _ => h.elim
  | _ :: _, [], _, _, _, h, _ => h.elim
  | o :: os, v :: vs, T0, R, R', h, k => OpdK.imp (show OpdK W T0 σ H env v _ o from h) fun T r => OpdsK.imp r fun T' z => ⟨z.1, k T' z.2⟩
/-- an operand stays while more is evaluated -/
theorem OpdK.step {W : Wd} {T0 : AS} {σ : L2.St} {H H' : Hp} {env env' : MEnv} {v : V} {R R' : AS → Prop} {o : Opd} (h : OpdK W T0 σ H env v R o) (k : Keep (Own σ env) H H') (s : Osub env env')
    (r : ∀ T, R T → R' T) : OpdK W T0 σ H' env' v R' o := by
  have M : ∀ U, Move (Tot U σ env) (Tot U σ env') H H' := fun U => (Move.keep k fun a z => .inr z).trans (Move.sub s.tot)
  cases o with
  | dat d => exact ⟨At.move (M _) d v h.1, r _ h.2⟩
  | new d =>
    obtain ⟨p, e, n, c, q⟩ := h
    exact ⟨p, e, ⟨fun z => n.1 (s.tot _ z), n.2⟩, c.move (M _) (fun o z => k p o (fun y => n.1 (.inr y)) z), r _ q⟩
  | slot i => exact ⟨h.1, r _ h.2⟩
  | brd n gs => exact ⟨BrdAt.move (M _) h.1, r _ h.2⟩

/-! ### the denotations -/
abbrev MX := MEnv → Option (Opd × MEnv)
abbrev MA := MEnv → Option (List Opd × MEnv)
def tM (W : Wd) (m : MX) : TE := fun σ H Q => ∃ T0 env o env', Rel W T0 σ H env ∧ m env = some (o, env') ∧
  ∀ v H', Keep (Own σ env) H H' → Osub env env' → OpdK W T0 σ H' env' v (fun T => Rel W T σ H' env') o → Q v H'
def tMA (W : Wd) (m : MA) : TA := fun σ H Q => ∃ T0 env os env', Rel W T0 σ H env ∧ m env = some (os, env') ∧
  ∀ vs H', Keep (Own σ env) H H' → Osub env env' → OpdsK W σ H' env' T0 vs os (fun T => Rel W T σ H' env') → Q vs H'
/-- the expression e does what m says -/
structure PM (W : Wd) (X : Cx) (e : Expr) (m : MX) : Prop where
  pe : ∀ B0, PE X e (tM (W.at B0) m)
structure PMA (W : Wd) (X : Cx) (es : List Expr) (m : MA) : Prop where
  pa : ∀ B0, PA X es (tMA (W.at B0) m)
theorem PE.imp {X : Cx} {e : Expr} {t t' : TE} (h : PE X e t) (k : ∀ σ H Q, t' σ H Q → t σ H Q) : PE X e t' := ⟨fun pins s σ H Q I q => h.run pins s σ H Q I (k σ H Q q)⟩
theorem PA.imp {X : Cx} {e : List Expr} {t t' : TA} (h : PA X e t) (k : ∀ σ H Q, t' σ H Q → t σ H Q) : PA X e t' := ⟨fun pos pins s σ H Q I q => h.run pos pins s σ H Q I (k σ H Q q)⟩

def mNil : MA := fun env => some ([], env)
def mCons (m : MX) (r : MA) : MA := fun env => (m env).bind fun (o, env1) => (r env1).bind fun (os, env2) => some (o :: os, env2)
theorem pma_nil {W : Wd} {X : Cx} : PMA W X [] mNil := ⟨fun B0 => PA.imp pa_nil fun σ H Q ⟨T0, env, os, env', R, e, k⟩ => by
  cases e
  exact k [] H Keep.refl Osub.refl R⟩
theorem opdK_rel {W : Wd} {T0 : AS} {σ : L2.St} {H : Hp} {env : MEnv} {v : V} {R : AS → Prop} {o : Opd} (h : OpdK W T0 σ H env v R o) : ∃ T1, R T1 ∧ (∀ a, T0 a → T1 a) ∧ ∀ R' : AS → Prop, R' T1 → OpdK W T0 σ H env v R' o := by
  cases o with
  | dat d => exact ⟨T0, h.2, fun _ z => z, fun R' r => ⟨h.1, r⟩⟩
  | new d => obtain ⟨p, e, n, c, r⟩ := h; exact ⟨_, r, fun _ z => .inl z, fun R' r => ⟨p, e, n, c, r⟩⟩
  | slot i => exact ⟨T0, h.2, fun _ z => z, fun R' r => ⟨h.1, r⟩⟩
  | brd n gs => exact ⟨T0, h.2, fun _ z => z, fun R' r => ⟨h.1, r⟩⟩
theorem opdK_back {W : Wd} {T0 T1 : AS} {σ : L2.St} {H : Hp} {env : MEnv} {v : V} {o : Opd} (h : OpdK W T0 σ H env v (fun T => T = T1) o) : (∀ a, T1 a → T0 a ∨ ¬ W.B0 a) ∧ OpdF W σ H env v o T1 := by
  cases o with
  | dat d => obtain ⟨a, rfl⟩ := h; exact ⟨fun a z => .inl z, a⟩
  | new d =>
    obtain ⟨p, e, n, c, rfl⟩ := h
    exact ⟨fun a z => z.elim .inl fun q => .inr (by rw [show a = p from q]; exact n.2), p, e, .inr rfl, c⟩
  | slot i => obtain ⟨a, rfl⟩ := h; exact ⟨fun a z => .inl z, a⟩
  | brd n gs => obtain ⟨a, rfl⟩ := h; exact ⟨fun a z => .inl z, a⟩
theorem opdsK_back {W : Wd} {σ : L2.St} {H : Hp} {env : MEnv} : ∀ {os : List Opd} {vs : List V} {T0 : AS} {R : AS → Prop}, OpdsK W σ H env T0 vs os R → ∃ T1, R T1 ∧ (∀ a, T0 a → T1 a) ∧ (∀ a, T1 a → T0 a ∨ ¬ W.B0 a) ∧ ∀ R' : AS → Prop, R' T1 → OpdsK W σ H env T0 vs os R'
  | [], [], T0, R, h => ⟨T0, h, fun _ z => z, fun _ z => .inl z, fun _ r => r⟩
  | [], _ :: _, _, _, h => h.elim
  | _ :: _, [], _, _, h => h.elim
  | o :: os, v :: vs, T0, R, h => by
    obtain ⟨T1, h1, s1, put1⟩ := opdK_rel (show OpdK W T0 σ H env v _ o from h)
    obtain ⟨b1, _⟩ := opdK_back (put1 (fun T => T = T1) rfl)
    obtain ⟨T2, h2, s2, b2, put2⟩ := opdsK_back h1
    refine ⟨T2, h2.2, fun a z => s2 a (s1 a z), fun a z => (b2 a z).elim (b1 a) .inr, fun R' r => put1 _ (put2 _ ⟨h2.1, r⟩)⟩
/-- fewer things to stay -/
theorem Rel.at {W : Wd} {B0 : AS} {T0 : AS} {σ : L2.St} {H : Hp} {env : MEnv} (R : Rel W T0 σ H env) (d : ∀ a, B0 a → H a ≠ none) (n : ∀ a, B0 a → W.B0 a ∨ ¬ Tot T0 σ env a) : Rel (W.at B0) T0 σ H env := by
  refine ⟨R.len, R.dom, d, fun i s e => ?_, R.inj⟩
  obtain ⟨v, ev, o⟩ := R.ok i s e
  refine ⟨v, ev, ?_⟩
  cases s with
  | dat d => exact o
  | brd n gs => exact o
  | scr ns => exact o
  | brds l9 => exact o
  | raw v0 => exact o
  | own l d =>
    obtain ⟨p, rfl, c, n0⟩ := o
    exact ⟨p, rfl, c, fun hl => ⟨(n0 hl).1, fun z => (n p z).elim (n0 hl).2 fun y => y (.inr ⟨i, ⟨l, d, e⟩, ev⟩)⟩⟩
theorem OpdK.at {W : Wd} {B0 : AS} {T0 : AS} {σ : L2.St} {H : Hp} {env : MEnv} {v : V} {o : Opd} {R : AS → Prop} (h : OpdK W T0 σ H env v R o) (n : ∀ a, B0 a → W.B0 a) : OpdK (W.at B0) T0 σ H env v R o := by
  cases o with
  | dat d => exact h
  | new d => obtain ⟨p, e, m, c, r⟩ := h; exact ⟨p, e, ⟨m.1, fun z => m.2 (n p z)⟩, c, r⟩
  | slot i => exact h
  | brd m gs => exact h
theorem OpdsK.at {W : Wd} {B0 : AS} {σ : L2.St} {H : Hp} {env : MEnv} (n : ∀ a, B0 a → W.B0 a) : ∀ {os : List Opd} {vs : List V} {T0 : AS} {R : AS → Prop}, OpdsK W σ H env T0 vs os R → OpdsK (W.at B0) σ H env T0 vs os R
  | [], [], _, _, h => h
  | [], _ :: _, _, _, h => h.elim
  | _ :: _, [], _, _, h => h.elim
  | o :: os, v :: vs, T0, R, h => OpdK.at (OpdK.imp (show OpdK W T0 σ H env v _ o from h) fun T r => (OpdsK.at n r).imp fun T' z => ⟨by
      have z1 := z.1
      cases o <;> exact z1, z.2⟩) n
def tMAx (W : Wd) (m : MA) : TA := fun σ H Q => ∃ B0, tMA (W.at B0) m σ H Q
theorem PMA.pax {W : Wd} {X : Cx} {es : List Expr} {m : MA} (h : PMA W X es m) : PA X es (tMAx W m) := ⟨fun pos pins s σ H Q I ⟨B0, q⟩ => (h.pa B0).run pos pins s σ H Q I q⟩
theorem mcons_split {W : Wd} {m : MX} {r : MA} {σ : L2.St} {H : Hp} {Q : List V → Hp → Prop} (h : tMA W (mCons m r) σ H Q) : tCons (tM W m) (tMAx W r) σ H Q := by
  obtain ⟨T0, env, os, env', R, e, k⟩ := h
  cases e1 : m env with
  | none => simp [mCons, e1] at e
  | some z =>
    obtain ⟨o, env1⟩ := z
    cases e2 : r env1 with
    | none => simp [mCons, e1, e2] at e
    | some y =>
      obtain ⟨os', env2⟩ := y
      simp [mCons, e1, e2] at e
      obtain ⟨rfl, rfl⟩ := e
      refine ⟨T0, env, o, env1, R, e1, fun v H1 k1 s1 o1 => ?_⟩
      obtain ⟨T1, R1, sub, put⟩ := opdK_rel o1
      refine ⟨fun a => W.B0 a ∨ (H1 a ≠ none ∧ ¬ Tot T1 σ env1 a), T1, env1, os', env2, R1.at (fun a z => z.elim (R1.bdom a) (·.1)) (fun a z => z.elim .inl fun q => .inr q.2), e2, fun vs H2 k2 s2 o2 => ?_⟩
      refine k (v :: vs) H2 (k1.trans k2 fun a z => s1.own a z) (s1.trans s2) ?_
      have h1 := put (fun T => T = T1) rfl
      obtain ⟨b1, f1⟩ := opdK_back h1
      refine h1.step k2 s2 fun T hT => ?_
      subst hT
      obtain ⟨T2, R2, s3, b2, put2⟩ := opdsK_back o2
      have M : Move (Tot T σ env1) (Tot T2 σ env2) H1 H2 := ⟨fun a u n q => ⟨k2 a u (fun z => n (.inr z)) q, fun z => by
        rcases z with z | z
        · rcases b2 a z with y | y
          · exact n (.inl y)
          · exact y (show W.B0 a ∨ (H1 a ≠ none ∧ ¬ Tot T σ env1 a) from .inr ⟨(by rw [q]; exact fun z => (nomatch z)), n⟩)
        · exact n (.inr (s2.own a z))⟩⟩
      have F : OpdF W σ H2 env2 v o T2 := by
        cases o with
        | dat d => exact At.move M d v f1
        | new d =>
          obtain ⟨p, e, t, c⟩ := f1
          have no : ¬ Own σ env1 p := by
            obtain ⟨p', e', n, _⟩ := h1
            rw [e] at e'
            cases e'
            exact fun z => n.1 (.inr z)
          exact ⟨p, e, s3 p t, c.move M fun o q => k2 p o no q⟩
        | slot i => exact f1
        | brd n gs => exact BrdAt.move M f1
      have o3 : OpdsK (Wd.at (Wd.at W fun a => W.B0 a ∨ (H1 a ≠ none ∧ ¬ Tot T σ env1 a)) W.B0) σ H2 env2 T vs os' (fun T' => OpdF W σ H2 env2 v o T' ∧ Rel W T' σ H2 env2) :=
        OpdsK.at (B0 := W.B0) (fun a z => show W.B0 a ∨ (H1 a ≠ none ∧ ¬ Tot T σ env1 a) from .inl z) (put2 _ ⟨F, R2.at (B0 := W.B0) (fun a z => R2.bdom a (.inl z)) (fun a z => .inl (show W.B0 a ∨ (H1 a ≠ none ∧ ¬ Tot T σ env1 a) from .inl z))⟩)
      exact o3
theorem pma_cons {W : Wd} {X : Cx} {e : Expr} {es : List Expr} {m : MX} {r : MA} (h : PM W X e m) (hr : PMA W X es r) (hs : starEach (e :: es) X.env = (false, eval e X.env) :: starEach es X.env := by rfl) : PMA W X (e :: es) (mCons m r) :=
  ⟨fun B0 => PA.imp (pa_cons (h.pe B0) hr.pax hs) fun _ _ _ h => mcons_split h⟩
end Mx

set_option Elab.async false
set_option autoImplicit false
set_option linter.all false
set_option maxRecDepth 100000
/-! Mx1: reading operands, operations by their values, tests. -/
namespace Mx
open PySem L2

def sPeek : Option (Option Slot) → Option D
  | some (some (.dat d)) => some d
  | some (some (.own _ d)) => some d
  | _ => none
def peek : Opd → MEnv → Option D
  | .dat d, _ => some d
  | .new d, _ => some d
  | .slot i, env => sPeek env[i]?
  | .brd _ _, _ => none
def pks : List Opd → MEnv → Option (List D)
  | [], _ => some []
  | o :: os, env => (peek o env).bind fun d => (pks os env).bind fun ds => some (d :: ds)
def sDat (env : MEnv) (i : Nat) : Option (Option Slot) → Option (D × MEnv)
  | some (some (.dat d)) => some (d, env)
  | some (some (.own true d)) => some (d, env.set i (some (.dat d)))
  | _ => none
def toDat : Opd → MEnv → Option (D × MEnv)
  | .dat d, env => some (d, env)
  | .new d, env => some (d, env)
  | .slot i, env => sDat env i env[i]?
  | .brd _ _, _ => none
def toDats : List Opd → MEnv → Option (List D × MEnv)
  | [], env => some ([], env)
  | o :: os, env => (toDat o env).bind fun (d, env1) => (toDats os env1).bind fun (ds, env2) => some (d :: ds, env2)

theorem Move.emp {T : AS} {H : Hp} : Move T AS.emp H H := Move.sub fun _ z => z.elim
section
variable {W : Wd} {T0 T1 : AS} {σ : L2.St} {H H' : Hp} {env env1 env2 : MEnv} {v : V} {R : AS → Prop} {o : Opd} {d : D} {vs : List V} {os : List Opd} {ds : List D}

theorem slot_get {i : Nat} {s : Slot} (Rl : Rel W T0 σ H env) (hv : σ[i]? = some (some v)) (e : env[i]? = some (some s)) : SlotOk W (Tot T0 σ env) T0 H v s := by
  obtain ⟨u, eu, k⟩ := Rl.ok i s e
  rw [hv] at eu
  cases eu
  exact k
theorem peek_slot {i : Nat} (e : peek (.slot i) env = some d) : env[i]? = some (some (.dat d)) ∨ ∃ l, env[i]? = some (some (.own l d)) := by
  have e' : sPeek env[i]? = some d := e
  unfold sPeek at e'
  split at e'
  · rename_i d' q
    cases e'
    exact .inl q
  · rename_i l d' q
    cases e'
    exact .inr ⟨_, q⟩
  · cases e'
theorem peek_at (h : OpdK W T0 σ H env v R o) (Rl : Rel W T0 σ H env) (e : peek o env = some d) : At AS.emp H v d := by
  cases o with
  | dat d' => cases e; exact At.move Move.emp d v h.1
  | new d' =>
    cases e
    obtain ⟨p, rfl, n, c, _⟩ := h
    exact (c.move Move.emp fun _ q => q).at fun z => z
  | slot i =>
    rcases peek_slot e with q | ⟨l, q⟩
    · exact At.move Move.emp d v (slot_get Rl h.1 q)
    · obtain ⟨p, rfl, c, _⟩ := slot_get Rl h.1 q
      exact (c.move Move.emp fun _ q => q).at fun z => z
  | brd n gs => cases e
/-- the items of a list or tuple operand -/
theorem peek_list (h : OpdK W T0 σ H env v R o) (Rl : Rel W T0 σ H env) (e : peek o env = some (.list ds)) : ∃ p xs, v = .ref p ∧ H p = some (.lst xs) ∧ AtL (Tot T0 σ env) H xs ds := by
  cases o with
  | dat d' =>
    cases e
    cases h.1 with
    | lst n q l => exact ⟨_, _, rfl, q, l⟩
  | new d' =>
    cases e
    obtain ⟨p, rfl, n, c, _⟩ := h
    obtain ⟨xs, q, l⟩ := c
    exact ⟨p, xs, rfl, q, AtL.move (Move.sub fun a z => z.elim (fun y => .inl (.inl y)) .inr) ds xs l⟩
  | slot i =>
    rcases peek_slot e with q | ⟨l, q⟩
    · cases slot_get Rl h.1 q with
      | lst n q l => exact ⟨_, _, rfl, q, l⟩
    · obtain ⟨p, rfl, c, _⟩ := slot_get Rl h.1 q
      obtain ⟨xs, q, l⟩ := c
      exact ⟨p, xs, rfl, q, l⟩
  | brd n gs => cases e
theorem peek_tuple (h : OpdK W T0 σ H env v R o) (Rl : Rel W T0 σ H env) (e : peek o env = some (.tuple ds)) : ∃ p xs, v = .ref p ∧ H p = some (.tup xs) ∧ AtL (Tot T0 σ env) H xs ds := by
  cases o with
  | dat d' =>
    cases e
    cases h.1 with
    | tup n q l => exact ⟨_, _, rfl, q, l⟩
  | new d' =>
    cases e
    obtain ⟨p, rfl, n, c, _⟩ := h
    exact c.elim
  | slot i =>
    rcases peek_slot e with q | ⟨l, q⟩
    · cases slot_get Rl h.1 q with
      | tup n q l => exact ⟨_, _, rfl, q, l⟩
    · obtain ⟨p, rfl, c, _⟩ := slot_get Rl h.1 q
      exact c.elim
  | brd n gs => cases e

theorem opdsK_rel {R : AS → Prop} (h : OpdsK W σ H env T0 vs os R) : ∃ T1, R T1 ∧ (∀ a, T0 a → T1 a) ∧ ∀ R' : AS → Prop, R' T1 → OpdsK W σ H env T0 vs os R' := by
  obtain ⟨T1, a, b, _, c⟩ := opdsK_back h
  exact ⟨T1, a, b, c⟩
theorem opdsK_less (h : OpdsK W σ H env T0 vs os (fun T => Rel W T σ H env)) : Rel W T0 σ H env := by
  obtain ⟨T1, r, s, _⟩ := opdsK_rel h
  exact r.less s
theorem opdsK_cons {o : Opd} {v : V} (h : OpdsK W σ H env T0 (v :: vs) (o :: os) (fun T => Rel W T σ H env)) : ∃ T1, (∀ a, T0 a → T1 a) ∧ OpdK W T0 σ H env v (fun T => T = T1) o ∧ OpdsK W σ H env T1 vs os (fun T => Rel W T σ H env) := by
  obtain ⟨T1, h1, s1, put1⟩ := opdK_rel (show OpdK W T0 σ H env v _ o from h)
  exact ⟨T1, s1, put1 _ rfl, h1.imp fun _ z => z.2⟩
theorem opdsK_len : ∀ {os : List Opd} {vs : List V} {T0 : AS} {R : AS → Prop}, OpdsK W σ H env T0 vs os R → vs.length = os.length
  | [], [], _, _, _ => rfl
  | [], _ :: _, _, _, h => h.elim
  | _ :: _, [], _, _, h => h.elim
  | o :: os, v :: vs, T0, R, h => by
    obtain ⟨T1, h1, s1, put1⟩ := opdK_rel (show OpdK W T0 σ H env v _ o from h)
    simp [opdsK_len h1]
theorem pks_at : ∀ {os : List Opd} {vs : List V} {ds : List D} {T0 : AS}, OpdsK W σ H env T0 vs os (fun T => Rel W T σ H env) → pks os env = some ds → AtL AS.emp H vs ds
  | [], [], ds, _, _, e => by cases e; exact .nil
  | [], _ :: _, _, _, h, _ => h.elim
  | _ :: _, [], _, _, h, _ => h.elim
  | o :: os, v :: vs, ds, T0, h, e => by
    obtain ⟨T1, s1, h1, h2⟩ := opdsK_cons h
    unfold pks at e
    cases e1 : peek o env with
    | none => simp [e1] at e
    | some d =>
      cases e2 : pks os env with
      | none => simp [e1, e2] at e
      | some ds' =>
        simp [e1, e2] at e
        subst e
        exact .cons (peek_at h1 (opdsK_less h) e1) (pks_at h2 e2)

/-- a list of this frame's is given away -/
theorem freeze {i : Nat} (Rl : Rel W T0 σ H env) (hv : σ[i]? = some (some v)) (e : env[i]? = some (some (.own true d))) :
    Rel W T0 σ H (env.set i (some (.dat d))) ∧ Osub env (env.set i (some (.dat d))) ∧ At (Tot T0 σ (env.set i (some (.dat d)))) H v d := by
  have hi : i < env.length := (List.getElem?_eq_some_iff.mp e).1
  have sub : Osub env (env.set i (some (.dat d))) := fun j l d' h => by
    by_cases hj : j = i
    · subst hj
      rw [List.getElem?_set_self hi] at h
      cases h
    · rw [List.getElem?_set_ne (Ne.symm hj)] at h
      exact ⟨d', h⟩
  obtain ⟨p, rfl, c, n⟩ := slot_get Rl hv e
  have np : ¬ Tot T0 σ (env.set i (some (.dat d))) p := by
    rintro (z | ⟨j, ⟨l, d', ej⟩, es⟩)
    · exact (n rfl).1 z
    · have hj : j ≠ i := by
        rintro rfl
        rw [List.getElem?_set_self hi] at ej
        cases ej
      rw [List.getElem?_set_ne (Ne.symm hj)] at ej
      exact hj (Rl.inj j i p ⟨⟨l, d', ej⟩, es⟩ ⟨⟨true, d, e⟩, hv⟩)
  have M : Move (Tot T0 σ env) (Tot T0 σ (env.set i (some (.dat d)))) H H := Move.sub sub.tot
  have ad : At (Tot T0 σ (env.set i (some (.dat d)))) H (.ref p) d := (c.move M fun _ q => q).at np
  refine ⟨⟨by rw [List.length_set]; exact Rl.len, Rl.dom, Rl.bdom, fun j s h => ?_, fun j k a hj hk => ?_⟩, sub, ad⟩
  · by_cases hj : j = i
    · subst hj
      rw [List.getElem?_set_self hi] at h
      cases h
      exact ⟨_, hv, ad⟩
    · rw [List.getElem?_set_ne (Ne.symm hj)] at h
      obtain ⟨u, eu, k⟩ := Rl.ok j s h
      refine ⟨u, eu, ?_⟩
      cases s with
      | dat d' => exact At.move M d' u k
      | own l d' => obtain ⟨q, e1, c1, n1⟩ := k; exact ⟨q, e1, c1.move M (fun _ q => q), n1⟩
      | brd n gs => exact BrdAt.move M k
      | scr ns => exact ScrAt.move M k
      | brds l9 => exact BrdsAt.move M k
      | raw v0 => exact k
  · obtain ⟨⟨l, d1, e1⟩, es1⟩ := hj
    obtain ⟨⟨l2, d2, e2⟩, es2⟩ := hk
    obtain ⟨d1', e1'⟩ := sub j l d1 e1
    obtain ⟨d2', e2'⟩ := sub k l2 d2 e2
    exact Rl.inj j k a ⟨⟨l, d1', e1'⟩, es1⟩ ⟨⟨l2, d2', e2'⟩, es2⟩
theorem toDat_slot {i : Nat} (e : toDat (.slot i) env = some (d, env1)) : (env[i]? = some (some (.dat d)) ∧ env1 = env) ∨ (env[i]? = some (some (.own true d)) ∧ env1 = env.set i (some (.dat d))) := by
  have e' : sDat env i env[i]? = some (d, env1) := e
  unfold sDat at e'
  split at e'
  · rename_i d' q
    cases e'
    exact .inl ⟨q, rfl⟩
  · rename_i d' q
    cases e'
    exact .inr ⟨q, rfl⟩
  · cases e'
theorem toDat_rel (Rl : Rel W T0 σ H env) (e : toDat o env = some (d, env1)) : Rel W T0 σ H env1 ∧ Osub env env1 := by
  cases o with
  | dat d' => cases e; exact ⟨Rl, .refl⟩
  | new d' => cases e; exact ⟨Rl, .refl⟩
  | slot i =>
    rcases toDat_slot e with ⟨q, rfl⟩ | ⟨q, rfl⟩
    · exact ⟨Rl, .refl⟩
    · obtain ⟨u, eu, _⟩ := Rl.ok i _ q
      obtain ⟨a, b, _⟩ := freeze Rl eu q
      exact ⟨a, b⟩
  | brd n gs => cases e
theorem toDats_rel : ∀ {os : List Opd} {env1 env2 : MEnv} {ds : List D}, Rel W T0 σ H env1 → toDats os env1 = some (ds, env2) → Rel W T0 σ H env2 ∧ Osub env1 env2
  | [], _, _, _, Rl, e => by cases e; exact ⟨Rl, .refl⟩
  | o :: os, env1, env2, ds, Rl, e => by
    unfold toDats at e
    cases e1 : toDat o env1 with
    | none => simp [e1] at e
    | some z =>
      obtain ⟨d, envA⟩ := z
      cases e2 : toDats os envA with
      | none => simp [e1, e2] at e
      | some y =>
        obtain ⟨ds', envB⟩ := y
        simp [e1, e2] at e
        obtain ⟨rfl, rfl⟩ := e
        obtain ⟨r1, s1⟩ := toDat_rel Rl e1
        obtain ⟨r2, s2⟩ := toDats_rel r1 e2
        exact ⟨r2, s1.trans s2⟩
/-- an operand becomes data: it was read at env, the frame has come to env1 -/
theorem toDat_at (h : OpdK W T0 σ H env v R o) (s : Osub env env1) (Rl : Rel W T0 σ H env1) (e : toDat o env1 = some (d, env2)) : At (Tot T0 σ env2) H v d := by
  cases o with
  | dat d' => cases e; exact At.move (Move.sub s.tot) d v h.1
  | new d' =>
    cases e
    obtain ⟨p, rfl, n, c, _⟩ := h
    exact (c.move (Move.sub fun a z => z.elim (fun y => .inl (.inl y)) fun y => .inr (s.own a y)) fun _ q => q).at fun z => n.1 (s.tot _ z)
  | slot i =>
    rcases toDat_slot e with ⟨q, rfl⟩ | ⟨q, rfl⟩
    · exact slot_get Rl h.1 q
    · exact (freeze Rl h.1 q).2.2
  | brd n gs => cases e
theorem toDats_at : ∀ {os : List Opd} {vs : List V} {ds : List D} {T0 : AS} {env1 env2 : MEnv}, OpdsK W σ H env T0 vs os (fun T => Rel W T σ H env1) → Osub env env1 → toDats os env1 = some (ds, env2) →
    Rel W T0 σ H env2 ∧ Osub env1 env2 ∧ AtL (Tot T0 σ env2) H vs ds
  | [], [], _, _, _, _, h, s, e => by cases e; exact ⟨h, .refl, .nil⟩
  | [], _ :: _, _, _, _, _, h, _, _ => h.elim
  | _ :: _, [], _, _, _, _, h, _, _ => h.elim
  | o :: os, v :: vs, ds, T0, env1, env2, h, s, e => by
    obtain ⟨T1, h1', s1, put1⟩ := opdK_rel (show OpdK W T0 σ H env v _ o from h)
    have h1 := h1'.imp (R' := fun T => Rel W T σ H env1) fun _ z => z.2
    obtain ⟨T2, h2, s2, put2⟩ := opdsK_rel h1
    unfold toDats at e
    cases e1 : toDat o env1 with
    | none => simp [e1] at e
    | some z =>
      obtain ⟨d, envA⟩ := z
      cases e2 : toDats os envA with
      | none => simp [e1, e2] at e
      | some y =>
        obtain ⟨ds', envB⟩ := y
        simp [e1, e2] at e
        obtain ⟨rfl, rfl⟩ := e
        obtain ⟨rA, sA⟩ := toDat_rel h2 e1
        have hA : OpdsK W σ H env T1 vs os (fun T => Rel W T σ H envA) := put2 _ rA
        obtain ⟨rB, sB, l⟩ := toDats_at hA (s.trans sA) e2
        have a := toDat_at (put1 (fun _ => True) trivial) s (h2.less fun a z => s2 a (s1 a z)) e1
        have sub : ∀ a, Tot T0 σ envB a → Tot T1 σ envB a := fun a z => z.elim (fun y => .inl (s1 a y)) .inr
        exact ⟨rB.less s1, sA.trans sB, .cons (At.move (Move.sub sB.tot) d v a) (AtL.move (Move.sub sub) ds' vs l)⟩

/-- a new list or dict -/
theorem mk_new {p : Addr} {u : HO} (Rl : Rel W T0 σ H env) (hp : H p = none) (c : Cont (Tot (T0.or (.one p)) σ env) (upd H p u) p d) : OpdK W T0 σ (upd H p u) env (.ref p) (fun T => Rel W T σ (upd H p u) env) (.new d) :=
  ⟨p, rfl, ⟨Rl.fresh hp, fun z => Rl.bdom p z hp⟩, c, Rl.more hp (Keep.new hp) (Cont.mu c)⟩
theorem mk_list {p : Addr} {xs : List V} (Rl : Rel W T0 σ H env) (hp : H p = none) (l : AtL (Tot T0 σ env) H xs ds) :
    OpdK W T0 σ (upd H p (.lst xs)) env (.ref p) (fun T => Rel W T σ (upd H p (.lst xs)) env) (.new (.list ds)) := by
  refine mk_new Rl hp ⟨xs, upd_same, ?_⟩
  refine AtL.move (((Move.new hp).trans (Move.sub fun a z => ?_)).trans (Move.keep (Keep.new (O := AS.emp) hp) fun _ z => z.elim)) ds xs l
  rcases z with (z | z) | z
  · exact .inl (.inl z)
  · exact .inr z
  · exact .inl (.inr z)
theorem mk_tup {p : Addr} {xs : List V} (Rl : Rel W T0 σ H env) (hp : H p = none) (l : AtL (Tot T0 σ env) H xs ds) :
    OpdK W T0 σ (upd H p (.tup xs)) env (.ref p) (fun T => Rel W T σ (upd H p (.tup xs)) env) (.dat (.tuple ds)) := by
  have k : Keep AS.emp H (upd H p (.tup xs)) := Keep.new hp
  exact ⟨.tup (Rl.fresh hp) upd_same (AtL.move (Move.keep k fun _ z => z.elim) ds xs l), Rl.grow k⟩
end

/-! ### operations on operands -/
abbrev FX := List Opd → MEnv → Option (Opd × MEnv)
def Prim (W : Wd) (r : List V → Hp → VK → Prop) (f : FX) : Prop :=
  ∀ (T0 : AS) (σ : L2.St) (H : Hp) (env : MEnv) (vs : List V) (os : List Opd) (o : Opd) (env' : MEnv) (Q : VK), OpdsK W σ H env T0 vs os (fun T => Rel W T σ H env) → f os env = some (o, env') →
    (∀ v H', Keep (Own σ env) H H' → Osub env env' → OpdK W T0 σ H' env' v (fun T => Rel W T σ H' env') o → Q v H') → r vs H Q
def mPrim (f : FX) (m : MA) : MX := fun env => (m env).bind fun (os, env1) => f os env1
theorem prim_split {W : Wd} {r : List V → Hp → VK → Prop} {f : FX} {m : MA} (P : Prim W r f) {σ : L2.St} {H : Hp} {Q : VK} (h : tM W (mPrim f m) σ H Q) : tMA W m σ H fun vs H1 => r vs H1 Q := by
  obtain ⟨T0, env, o, env', R, e, k⟩ := h
  unfold mPrim at e
  cases e1 : m env with
  | none => simp [e1] at e
  | some z =>
    obtain ⟨os, env1⟩ := z
    simp [e1] at e
    refine ⟨T0, env, os, env1, R, e1, fun vs H1 k1 s1 o1 => ?_⟩
    exact P T0 σ H1 env1 vs os o env' Q o1 e fun v H2 k2 s2 o2 => k v H2 (k1.trans k2 fun a z => s1.own a z) (s1.trans s2) o2
theorem tM_mono {W : Wd} {m : MX} {σ : L2.St} {H : Hp} {Q Q' : VK} (h : tM W m σ H Q) (k : ∀ v H', Q v H' → Q' v H') : tM W m σ H Q' := by
  obtain ⟨T0, env, o, env', R, e, q⟩ := h
  exact ⟨T0, env, o, env', R, e, fun v H' a b c => k v H' (q v H' a b c)⟩
theorem tMA_nil {W : Wd} {σ : L2.St} {H : Hp} {Q : List V → Hp → Prop} (h : tMA W mNil σ H Q) : Q [] H := by
  obtain ⟨T0, env, os, env', R, e, q⟩ := h
  cases e
  exact q [] H Keep.refl Osub.refl R
theorem tMA_nil' {W : Wd} {σ : L2.St} {H : Hp} {Q : List V → Hp → Prop} (h : tMAx W mNil σ H Q) : Q [] H := let ⟨_, h⟩ := h; tMA_nil h
def tMx (W : Wd) (m : MX) : TE := fun σ H Q => ∃ B0, tM (W.at B0) m σ H Q
theorem PM.pex {W : Wd} {X : Cx} {e : Expr} {m : MX} (h : PM W X e m) : PE X e (tMx W m) := ⟨fun pins s σ H Q I ⟨B0, q⟩ => (h.pe B0).run pins s σ H Q I q⟩
theorem tMx_mono {W : Wd} {m : MX} {σ : L2.St} {H : Hp} {Q Q' : VK} (h : tMx W m σ H Q) (k : ∀ v H', Q v H' → Q' v H') : tMx W m σ H Q' := let ⟨B0, h⟩ := h; ⟨B0, tM_mono h k⟩
theorem split1 {W : Wd} {ma : MX} {σ : L2.St} {H : Hp} {Q : List V → Hp → Prop} (h : tMA W (mCons ma mNil) σ H Q) : tM W ma σ H fun x H1 => Q [x] H1 :=
  tM_mono (mcons_split h) fun _ _ q => tMA_nil' q
theorem split1x {W : Wd} {ma : MX} {σ : L2.St} {H : Hp} {Q : List V → Hp → Prop} (h : tMAx W (mCons ma mNil) σ H Q) : tMx W ma σ H fun x H1 => Q [x] H1 := let ⟨B0, h⟩ := h; ⟨B0, split1 h⟩
theorem split2 {W : Wd} {ma mb : MX} {σ : L2.St} {H : Hp} {Q : List V → Hp → Prop} (h : tMA W (mCons ma (mCons mb mNil)) σ H Q) : tM W ma σ H fun x H1 => tMx W mb σ H1 fun y H2 => Q [x, y] H2 :=
  tM_mono (mcons_split h) fun _ _ q => split1x q
def scV : D → Option V
  | .none => some .non
  | .bool b => some (.bl b)
  | .int i => some (.int i)
  | .str x => some (.str x)
  | _ => none
theorem scV_at {T : AS} {H : Hp} {d : D} {v : V} (h : scV d = some v) : At T H v d := by
  cases d with
  | none => cases h; exact .non
  | bool b => cases h; exact .bl b
  | int i => cases h; exact .int i
  | str x => cases h; exact .str x
  | list _ => cases h
  | tuple _ => cases h
  | dict _ => cases h
/-- a value out of values, nothing made -/
def fPure (g : List D → Option D) : FX := fun os env => (pks os env).bind fun ds => (g ds).bind fun d => if (scV d).isSome = true then some (.dat d, env) else none
theorem prim_pure {W : Wd} {r : List V → Hp → VK → Prop} {g : List D → Option D} (h : ∀ (vs : List V) (H : Hp) (ds : List D) (d : D) (v : V) (Q : VK), AtL AS.emp H vs ds → g ds = some d → scV d = some v → Q v H → r vs H Q) : Prim W r (fPure g) := by
  intro T0 σ H env vs os o env' Q ho e k
  unfold fPure at e
  cases e1 : pks os env with
  | none => simp [e1] at e
  | some ds =>
    cases e2 : g ds with
    | none => simp [e1, e2] at e
    | some d =>
      simp only [e1, e2, Option.bind] at e
      cases e3 : scV d with
      | none => rw [e3] at e; simp at e
      | some v =>
        rw [e3] at e
        simp at e
        obtain ⟨rfl, rfl⟩ := e
        exact h vs H ds d v Q (pks_at ho e1) e2 e3 (k v H Keep.refl Osub.refl ⟨scV_at e3, opdsK_less ho⟩)

/-! ### expressions -/
section
variable {W : Wd} {X : Cx} {a b c : Expr} {ma mb mc : MX} {pos : Pos}
def mVar (i : Nat) : MX := fun env => match env[i]? with
  | some (some _) => some (.slot i, env)
  | _ => none
theorem pm_var {e : Expr} (i : Nat) (h : PE X e (tVar i)) : PM W X e (mVar i) := ⟨fun B0 => PE.imp h fun σ H Q ⟨T0, env, o, env', R, e, k⟩ => by
  unfold mVar at e
  split at e
  · rename_i s q
    cases e
    obtain ⟨v, ev, _⟩ := R.ok i s q
    exact ⟨v, ev, k v H Keep.refl Osub.refl ⟨ev, R⟩⟩
  · cases e⟩
def mC (d : D) : MX := fun env => some (.dat d, env)
theorem pm_c {e : Expr} {v : V} {d : D} (h : PE X e (tC v)) (hv : scV d = some v) : PM W X e (mC d) := ⟨fun B0 => PE.imp h fun σ H Q ⟨T0, env, o, env', R, e, k⟩ => by
  cases e
  exact k v H Keep.refl Osub.refl ⟨scV_at hv, R⟩⟩
theorem pm_int {i : Int} {j p} : PM W X (.Constant (.int i) j p) (mC (.int i)) := pm_c pe_int rfl
theorem pm_bl {i : Bool} {j p} : PM W X (.Constant (.bool i) j p) (mC (.bool i)) := pm_c pe_bl rfl
theorem pm_non {j p} : PM W X (.Constant .none j p) (mC .none) := pm_c pe_non rfl
theorem pm_str {x : Str} {j p} : PM W X (.Constant (.str x) j p) (mC (.str x)) := pm_c pe_str rfl

/-- a binary operation -/
def R2P (r : R2) : List V → Hp → VK → Prop := fun vs H Q => ∃ x y, vs = [x, y] ∧ r x y H Q
theorem op_split {r : R2} {f : FX} (P : Prim W (R2P r) f) {σ : L2.St} {H : Hp} {Q : VK} (h : tM W (mPrim f (mCons ma (mCons mb mNil))) σ H Q) : tOp r (tM W ma) (tMx W mb) σ H Q :=
  tM_mono (split2 (prim_split P h)) fun _ _ q => tMx_mono q fun _ _ ⟨_, _, e, q⟩ => by cases e; exact q
theorem pm_bin {op : Operator} {r : R2} {f : FX} (ho : OpR X (binaryOp op) r) (P : ∀ B0, Prim (W.at B0) (R2P r) f) (ha : PM W X a ma) (hb : PM W X b mb) : PM W X (.BinOp a op b pos) (mPrim f (mCons ma (mCons mb mNil))) :=
  ⟨fun B0 => PE.imp (pe_op ho (ha.pe B0) hb.pex) fun _ _ _ h => op_split (P B0) h⟩
theorem pm_cmp {op : CmpOp} {r : R2} {f : FX} (ho : OpR X (compareOp op) r) (P : ∀ B0, Prim (W.at B0) (R2P r) f) (ha : PM W X a ma) (hb : PM W X b mb) (hm : behindInMarks op b = false) : PM W X (.Compare a [op] [b] pos) (mPrim f (mCons ma (mCons mb mNil))) :=
  ⟨fun B0 => PE.imp (pe_cmpR ho (ha.pe B0) hb.pex hm) fun _ _ _ h => op_split (P B0) h⟩
theorem pm_ix {r : R2} {f : FX} (hr : IxR X r) (P : ∀ B0, Prim (W.at B0) (R2P r) f) (ha : PM W X a ma) (hb : PM W X b mb) (hs : PlainIx b) : PM W X (.Subscript a b pos) (mPrim f (mCons ma (mCons mb mNil))) :=
  ⟨fun B0 => PE.imp (pe_ix hr (ha.pe B0) hb.pex hs) fun _ _ _ h => op_split (P B0) h⟩
end

theorem at_int {H : Hp} {v : V} {i : Int} (h : At AS.emp H v (.int i)) : v = .int i := by cases h; rfl
theorem at_bl {H : Hp} {v : V} {i : Bool} (h : At AS.emp H v (.bool i)) : v = .bl i := by cases h; rfl
theorem at_str {H : Hp} {v : V} {i : Str} (h : At AS.emp H v (.str i)) : v = .str i := by cases h; rfl
theorem atl2 {T : AS} {H : Hp} {vs : List V} {d e : D} (h : AtL T H vs [d, e]) : ∃ x y, vs = [x, y] ∧ At T H x d ∧ At T H y e := by
  cases h with
  | cons a h =>
    cases h with
    | cons b h =>
      cases h
      exact ⟨_, _, rfl, a, b⟩
theorem atl1 {T : AS} {H : Hp} {vs : List V} {d : D} (h : AtL T H vs [d]) : ∃ x, vs = [x] ∧ At T H x d := by
  cases h with
  | cons a h =>
    cases h
    exact ⟨_, rfl, a⟩

/-! ### ints -/
def gI2 (C : Int → Int → Prop) [∀ i j, Decidable (C i j)] (g : Int → Int → D) : List D → Option D
  | [.int i, .int j] => if C i j then some (g i j) else none
  | _ => none
theorem prim_i2 {W : Wd} {C C' : Int → Int → Prop} [∀ i j, Decidable (C i j)] {g : Int → Int → D} {g' : Int → Int → V} (hg : ∀ i j, scV (g i j) = some (g' i j)) (hc : ∀ i j, C i j → C' i j) : Prim W (R2P (rI C' g')) (fPure (gI2 C g)) := by
  refine prim_pure fun vs H ds d v Q l e ev q => ?_
  unfold gI2 at e
  split at e
  · rename_i i j
    obtain ⟨x, y, rfl, hx, hy⟩ := atl2 l
    split at e
    · rename_i hC
      cases e
      rw [hg i j] at ev
      cases ev
      exact ⟨x, y, rfl, i, j, at_int hx, at_int hy, hc i j hC, q⟩
    · cases e
  · cases e
def gI0 (g : Int → Int → D) : List D → Option D
  | [.int i, .int j] => some (g i j)
  | _ => none
theorem prim_i0 {W : Wd} {g : Int → Int → D} {g' : Int → Int → V} (hg : ∀ i j, scV (g i j) = some (g' i j)) : Prim W (R2P (rI0 g')) (fPure (gI0 g)) := by
  refine prim_pure fun vs H ds d v Q l e ev q => ?_
  unfold gI0 at e
  split at e
  · rename_i i j
    obtain ⟨x, y, rfl, hx, hy⟩ := atl2 l
    cases e
    rw [hg i j] at ev
    cases ev
    exact ⟨x, y, rfl, i, j, at_int hx, at_int hy, q⟩
  · cases e
def fAdd : FX := fPure (gI0 fun i j => .int (i + j))
def fSub : FX := fPure (gI0 fun i j => .int (i - j))
def fMul : FX := fPure (gI2 (fun i j => i.natAbs.log2 + j.natAbs.log2 < 1000000) fun i j => .int (i * j))
def fMod : FX := fPure (gI2 (fun _ j => 0 < j) fun i j => .int (i % j))
def fDiv : FX := fPure (gI2 (fun _ j => 0 < j ∧ j.natAbs.log2 < 9000) fun i j => .int (i / j))
def fLt : FX := fPure (gI0 fun i j => .bool (decide (i < j)))
def fLe : FX := fPure (gI0 fun i j => .bool (decide (i ≤ j)))
def fGt : FX := fPure (gI0 fun i j => .bool (decide (j < i)))
def fGe : FX := fPure (gI0 fun i j => .bool (decide (j ≤ i)))
section
variable {W : Wd} {X : Cx} {a b : Expr} {ma mb : MX} {pos : Pos}
theorem pm_add (ha : PM W X a ma) (hb : PM W X b mb) : PM W X (.BinOp a .Add b pos) (mPrim fAdd (mCons ma (mCons mb mNil))) := pm_bin op_add (fun _ => prim_i0 fun _ _ => rfl) ha hb
theorem pm_sub (ha : PM W X a ma) (hb : PM W X b mb) : PM W X (.BinOp a .Sub b pos) (mPrim fSub (mCons ma (mCons mb mNil))) := pm_bin op_sub (fun _ => prim_i0 fun _ _ => rfl) ha hb
theorem pm_mul (ha : PM W X a ma) (hb : PM W X b mb) : PM W X (.BinOp a .Mult b pos) (mPrim fMul (mCons ma (mCons mb mNil))) := pm_bin op_mulW (fun _ => prim_i2 (fun _ _ => rfl) fun _ _ h => h) ha hb
theorem pm_mod (ha : PM W X a ma) (hb : PM W X b mb) : PM W X (.BinOp a .Mod b pos) (mPrim fMod (mCons ma (mCons mb mNil))) := pm_bin op_mod (fun _ => prim_i2 (fun _ _ => rfl) fun _ _ h => h) ha hb
theorem pm_div (ha : PM W X a ma) (hb : PM W X b mb) : PM W X (.BinOp a .FloorDiv b pos) (mPrim fDiv (mCons ma (mCons mb mNil))) := pm_bin op_fdivW (fun _ => prim_i2 (fun _ _ => rfl) fun _ _ h => h) ha hb
theorem pm_lt (ha : PM W X a ma) (hb : PM W X b mb) : PM W X (.Compare a [.Lt] [b] pos) (mPrim fLt (mCons ma (mCons mb mNil))) := pm_cmp op_lt (fun _ => prim_i0 fun _ _ => rfl) ha hb (nomark _)
theorem pm_le (ha : PM W X a ma) (hb : PM W X b mb) : PM W X (.Compare a [.LtE] [b] pos) (mPrim fLe (mCons ma (mCons mb mNil))) := pm_cmp op_le (fun _ => prim_i0 fun _ _ => rfl) ha hb (nomark _)
theorem pm_gt (ha : PM W X a ma) (hb : PM W X b mb) : PM W X (.Compare a [.Gt] [b] pos) (mPrim fGt (mCons ma (mCons mb mNil))) := pm_cmp op_gt (fun _ => prim_i0 fun _ _ => rfl) ha hb (nomark _)
theorem pm_ge (ha : PM W X a ma) (hb : PM W X b mb) : PM W X (.Compare a [.GtE] [b] pos) (mPrim fGe (mCons ma (mCons mb mNil))) := pm_cmp op_ge (fun _ => prim_i0 fun _ _ => rfl) ha hb (nomark _)
end
/-- powers -/
def rPowB : R2 := rI (fun i j => 0 ≤ j ∧ j ≤ 64 ∧ i.natAbs.log2 < 100000) fun i j => .int (i ^ j.toNat)
theorem op_powB {X : Cx} : OpR X (binaryOp .Pow) rPowB := by
  intro pins s σ H x y v u Q I rx ry h
  obtain ⟨i, j, rfl, rfl, ⟨h0, h1, h2⟩, q⟩ := h
  obtain ⟨t, rfl⟩ := rx
  obtain ⟨t', rfl⟩ := ry
  refine PyProof.Rows.pow_int h0 ?_ ⟨.int _, H, I.tok _, ⟨_, rfl⟩, q⟩
  have hb : (Builtin.Int.intBits i : Int) ≤ 100001 := by
    unfold Builtin.Int.intBits
    split <;> omega
  have h3 : (Builtin.Int.intBits i : Int) * j ≤ 100001 * 64 := Int.mul_le_mul hb h1 h0 (by decide)
  omega
def fPow : FX := fPure (gI2 (fun i j => 0 ≤ j ∧ j ≤ 64 ∧ i.natAbs.log2 < 100000) fun i j => .int (i ^ j.toNat))
theorem pm_pow {W : Wd} {X : Cx} {a b : Expr} {ma mb : MX} {pos : Pos} (ha : PM W X a ma) (hb : PM W X b mb) : PM W X (.BinOp a .Pow b pos) (mPrim fPow (mCons ma (mCons mb mNil))) := pm_bin op_powB (fun _ => prim_i2 (fun _ _ => rfl) fun _ _ h => h) ha hb
end Mx

set_option Elab.async false
set_option autoImplicit false
set_option linter.all false
set_option maxRecDepth 100000
/-! Mx2: displays, items, slices, sums of lists, comparisons of data, tests, built-in functions. -/
namespace Mx
open PySem L2
theorem szl {n : Nat} (h : n ≤ 16777216) : n ≤ sizeLine := by rw [sizeLine_eq]; exact h
/-! ### displays -/
def fList : FX := fun os env => (toDats os env).bind fun (ds, env1) => if ds.length ≤ 16777216 then some (.new (.list ds), env1) else none
def fTup : FX := fun os env => (toDats os env).bind fun (ds, env1) => if ds.length ≤ 16777216 then some (.dat (.tuple ds), env1) else none
theorem prim_list {W : Wd} : Prim W (fun vs H Q => vs.length ≤ sizeLine ∧ ∀ p, H p = none → Q (.ref p) (upd H p (.lst vs))) fList := by
  intro T0 σ H env vs os o env' Q ho e k
  unfold fList at e
  cases e1 : toDats os env with
  | none => simp [e1] at e
  | some z =>
    obtain ⟨ds, env1⟩ := z
    simp only [e1, Option.bind] at e
    split at e
    · rename_i hl
      cases e
      obtain ⟨R1, s1, l⟩ := toDats_at ho Osub.refl e1
      exact ⟨szl (by rw [l.length]; exact hl), fun p hp => k _ _ (Keep.new hp) s1 (mk_list R1 hp l)⟩
    · cases e
theorem prim_tup {W : Wd} : Prim W (fun vs H Q => vs.length ≤ sizeLine ∧ ∀ p, H p = none → Q (.ref p) (upd H p (.tup vs))) fTup := by
  intro T0 σ H env vs os o env' Q ho e k
  unfold fTup at e
  cases e1 : toDats os env with
  | none => simp [e1] at e
  | some z =>
    obtain ⟨ds, env1⟩ := z
    simp only [e1, Option.bind] at e
    split at e
    · rename_i hl
      cases e
      obtain ⟨R1, s1, l⟩ := toDats_at ho Osub.refl e1
      exact ⟨szl (by rw [l.length]; exact hl), fun p hp => k _ _ (Keep.new hp) s1 (mk_tup R1 hp l)⟩
    · cases e
section
variable {W : Wd} {X : Cx} {es : List Expr} {m : MA} {pos : Pos}
theorem pm_list (h : PMA W X es m) : PM W X (.List es pos) (mPrim fList m) := ⟨fun B0 => PE.imp (pe_lst (h.pa B0)) fun _ _ _ h => prim_split prim_list h⟩
theorem pm_tup {x1} (h : PMA W X es m) : PM W X (.Tuple es x1 pos) (mPrim fTup m) := ⟨fun B0 => PE.imp (pe_tup (h.pa B0)) fun _ _ _ h => prim_split prim_tup h⟩
end
/-- {} -/
def mDict0 : MX := fun env => some (.new (.dict []), env)
theorem pm_dict0 {W : Wd} {X : Cx} {pos : Pos} : PM W X (.Dict [] [] pos) mDict0 := ⟨fun B0 => PE.imp pe_dnewK fun σ H Q ⟨T0, env, o, env', R, e, k⟩ p hp => by
  cases e
  exact k _ _ (Keep.new hp) Osub.refl (mk_new R hp (.inl ⟨[], upd_same, .nil⟩))⟩

/-! ### items -/
theorem atl_at {T : AS} {H : Hp} {xs : List V} {ds : List D} {i : Int} {d : D} (l : AtL T H xs ds) (h : atI ds i = some d) : ∃ v, atI xs i = some v ∧ At T H v d := by
  unfold atI at h ⊢
  rw [l.length]
  cases q : ixN ds.length i with
  | none => rw [q] at h; cases h
  | some j =>
    rw [q] at h
    exact l.get h
def gSeq : Option D → Option (List D)
  | some (.list ds) => some ds
  | some (.tuple ds) => some ds
  | _ => none
def gInt : Option D → Option Int
  | some (.int i) => some i
  | _ => none
theorem gInt_some {d : Option D} {i : Int} (h : gInt d = some i) : d = some (.int i) := by
  unfold gInt at h
  split at h
  · cases h; rfl
  · cases h
def fIx : FX
  | [o1, o2], env => (gSeq (peek o1 env)).bind fun ds => (gInt (peek o2 env)).bind fun i => (atI ds i).bind fun d => some (.dat d, env)
  | _, _ => none
theorem opds2 {W : Wd} {T0 : AS} {σ : L2.St} {H : Hp} {env : MEnv} {vs : List V} {o1 o2 : Opd} (h : OpdsK W σ H env T0 vs [o1, o2] (fun T => Rel W T σ H env)) :
    ∃ x y T1, vs = [x, y] ∧ (∀ a, T0 a → T1 a) ∧ OpdK W T0 σ H env x (fun T => T = T1) o1 ∧ OpdK W T1 σ H env y (fun T => Rel W T σ H env) o2 ∧ Rel W T1 σ H env ∧ Rel W T0 σ H env := by
  cases vs with
  | nil => exact h.elim
  | cons x vs =>
    obtain ⟨T1, s1, h1, h2⟩ := opdsK_cons h
    cases vs with
    | nil => exact h2.elim
    | cons y vs =>
      cases vs with
      | cons _ _ =>
        obtain ⟨T2, _, _, h3⟩ := opdsK_cons h2
        exact h3.elim
      | nil => exact ⟨x, y, T1, rfl, s1, h1, OpdK.imp (show OpdK W T1 σ H env y _ o2 from h2) fun T r => r.2, opdsK_less h2, opdsK_less h⟩
theorem opds1 {W : Wd} {T0 : AS} {σ : L2.St} {H : Hp} {env : MEnv} {vs : List V} {o1 : Opd} (h : OpdsK W σ H env T0 vs [o1] (fun T => Rel W T σ H env)) :
    ∃ x, vs = [x] ∧ OpdK W T0 σ H env x (fun T => Rel W T σ H env) o1 ∧ Rel W T0 σ H env := by
  cases vs with
  | nil => exact h.elim
  | cons x vs =>
    cases vs with
    | cons _ _ =>
      obtain ⟨T2, _, _, h3⟩ := opdsK_cons h
      exact h3.elim
    | nil => exact ⟨x, rfl, OpdK.imp (show OpdK W T0 σ H env x _ o1 from h) fun T r => r.2, opdsK_less h⟩
theorem prim_ix {W : Wd} {K : PySem.W.Frag} : Prim W (R2P (rIx K)) fIx := by
  intro T0 σ H env vs os o env' Q ho e k
  unfold fIx at e
  split at e
  · rename_i o1 o2
    obtain ⟨x, y, T1, rfl, s1, h1, h2, R1, R0⟩ := opds2 ho
    cases e1 : gSeq (peek o1 env) with
    | none => simp [e1] at e
    | some ds =>
      cases e2 : gInt (peek o2 env) with
      | none => simp [e1, e2] at e
      | some i =>
        cases e3 : atI ds i with
        | none => simp [e1, e2, e3] at e
        | some d =>
          simp [e1, e2, e3] at e
          obtain ⟨rfl, rfl⟩ := e
          have hy := at_int (peek_at h2 R1 (gInt_some e2))
          subst hy
          unfold gSeq at e1
          split at e1
          · rename_i ds' q
            cases e1
            obtain ⟨p, xs, rfl, hp, l⟩ := peek_list h1 R0 q
            obtain ⟨v, hv, a⟩ := atl_at l e3
            exact ⟨_, _, rfl, .inl ⟨p, xs, i, v, rfl, rfl, SqL.of hp, hv, k v H Keep.refl Osub.refl ⟨a, R0⟩⟩⟩
          · rename_i ds' q
            cases e1
            obtain ⟨p, xs, rfl, hp, l⟩ := peek_tuple h1 R0 q
            obtain ⟨v, hv, a⟩ := atl_at l e3
            exact ⟨_, _, rfl, .inr (.inl ⟨p, xs, i, v, rfl, rfl, SqT.of hp, hv, k v H Keep.refl Osub.refl ⟨a, R0⟩⟩)⟩
          · cases e1
  · cases e
theorem pm_idx {W : Wd} {X : Cx} {a b : Expr} {ma mb : MX} {pos : Pos} (ha : PM W X a ma) (hb : PM W X b mb) (hs : PlainIx b := by intro _ _; rfl) : PM W X (.Subscript a b pos) (mPrim fIx (mCons ma (mCons mb mNil))) := pm_ix ix_seq (fun _ => prim_ix) ha hb hs

/-! ### slices of lists -/
def cutD (xs : List D) (lo hi : Option Int) : List D := (xs.drop (HT.sIx xs.length 0 lo)).take (HT.sIx xs.length xs.length hi - HT.sIx xs.length 0 lo)
theorem cut_at {T : AS} {H : Hp} {xs : List V} {ds : List D} (l : AtL T H xs ds) (lo hi : Option Int) : AtL T H (cutV xs lo hi) (cutD ds lo hi) := by
  unfold cutV cutD
  rw [l.length]
  exact (l.drop _).take _
def gList : Option D → Option (List D)
  | some (.list ds) => some ds
  | _ => none
theorem gList_some {d : Option D} {ds : List D} (h : gList d = some ds) : d = some (.list ds) := by
  unfold gList at h
  split at h
  · cases h; rfl
  · cases h
def fSlLo : FX
  | [o1, o2], env => (gList (peek o1 env)).bind fun ds => (gInt (peek o2 env)).bind fun i => some (.new (.list (cutD ds (some i) none)), env)
  | _, _ => none
def fSlHi : FX
  | [o1, o2], env => (gList (peek o1 env)).bind fun ds => (gInt (peek o2 env)).bind fun i => some (.new (.list (cutD ds none (some i))), env)
  | _, _ => none
theorem sl_gen {W : Wd} {f : List D → Int → List D} {F : FX} (hF : ∀ o1 o2 env, F [o1, o2] env = (gList (peek o1 env)).bind fun ds => (gInt (peek o2 env)).bind fun i => some (.new (.list (f ds i)), env))
    {g : List V → Int → List V} (hfg : ∀ (T : AS) (H : Hp) (xs : List V) (ds : List D) (i : Int), AtL T H xs ds → AtL T H (g xs i) (f ds i))
    {T0 : AS} {σ : L2.St} {H : Hp} {env : MEnv} {vs : List V} {o1 o2 o : Opd} {env' : MEnv} {Q : VK} (ho : OpdsK W σ H env T0 vs [o1, o2] (fun T => Rel W T σ H env)) (e : F [o1, o2] env = some (o, env'))
    (k : ∀ v H', Keep (Own σ env) H H' → Osub env env' → OpdK W T0 σ H' env' v (fun T => Rel W T σ H' env') o → Q v H') :
    ∃ (a : Addr) (xs : List V) (i : Int), vs = [.ref a, .int i] ∧ H a = some (.lst xs) ∧ ∀ p, H p = none → Q (.ref p) (upd H p (.lst (g xs i))) := by
  obtain ⟨x, y, T1, rfl, s1, h1, h2, R1, R0⟩ := opds2 ho
  rw [hF] at e
  cases e1 : gList (peek o1 env) with
  | none => simp [e1] at e
  | some ds =>
    cases e2 : gInt (peek o2 env) with
    | none => simp [e1, e2] at e
    | some i =>
      simp [e1, e2] at e
      obtain ⟨rfl, rfl⟩ := e
      have hy := at_int (peek_at h2 R1 (gInt_some e2))
      subst hy
      obtain ⟨p, xs, rfl, hp, l⟩ := peek_list h1 R0 (gList_some e1)
      exact ⟨p, xs, i, rfl, hp, fun q hq => k _ _ (Keep.new hq) Osub.refl (mk_list R0 hq (hfg _ _ _ _ i l))⟩
section
variable {W : Wd} {X : Cx} {a b c : Expr} {ma mb mc : MX} {pos p2 : Pos}
theorem pm_slLo (ha : PM W X a ma) (hb : PM W X b mb) : PM W X (.Subscript a (.Slice (some b) none none p2) pos) (mPrim fSlLo (mCons ma (mCons mb mNil))) :=
  ⟨fun B0 => PE.imp (pe_slice sl_list (ha.pe B0) (po_some hb.pex) po_none) fun σ H Q h => by
    have P : Prim (W.at B0) (fun vs H Q => ∃ (a : Addr) (xs : List V) (i : Int), vs = [.ref a, .int i] ∧ H a = some (.lst xs) ∧ ∀ p, H p = none → Q (.ref p) (upd H p (.lst (cutV xs (some i) none)))) fSlLo := by
      intro T0 σ H env vs os o env' Q ho e k
      match os, ho, e with
      | [o1, o2], ho, e => exact sl_gen (f := fun ds i => cutD ds (some i) none) (g := fun xs i => cutV xs (some i) none) (F := fSlLo) (fun _ _ _ => rfl) (fun T H xs ds i l => cut_at l _ _) ho e k
    refine tM_mono (split2 (prim_split P h)) fun _ _ q => tMx_mono q fun _ _ ⟨a, xs, i, e, hp, q2⟩ => ?_
    cases e
    exact ⟨i, rfl, a, xs, rfl, SqL.of hp, q2⟩⟩
theorem pm_slHi (ha : PM W X a ma) (hb : PM W X b mb) : PM W X (.Subscript a (.Slice none (some b) none p2) pos) (mPrim fSlHi (mCons ma (mCons mb mNil))) :=
  ⟨fun B0 => PE.imp (pe_slice sl_list (ha.pe B0) po_none (po_some hb.pex)) fun σ H Q h => by
    have P : Prim (W.at B0) (fun vs H Q => ∃ (a : Addr) (xs : List V) (i : Int), vs = [.ref a, .int i] ∧ H a = some (.lst xs) ∧ ∀ p, H p = none → Q (.ref p) (upd H p (.lst (cutV xs none (some i))))) fSlHi := by
      intro T0 σ H env vs os o env' Q ho e k
      match os, ho, e with
      | [o1, o2], ho, e => exact sl_gen (f := fun ds i => cutD ds none (some i)) (g := fun xs i => cutV xs none (some i)) (F := fSlHi) (fun _ _ _ => rfl) (fun T H xs ds i l => cut_at l _ _) ho e k
    refine tM_mono (split2 (prim_split P h)) fun _ _ q => tMx_mono q fun _ _ ⟨a, xs, i, e, hp, q2⟩ => ?_
    cases e
    exact ⟨i, rfl, a, xs, rfl, SqL.of hp, q2⟩⟩
/-- xs[::-1] of a list -/
def fRev : FX
  | [o1], env => (gList (peek o1 env)).bind fun ds => some (.new (.list ds.reverse), env)
  | _, _ => none
theorem pm_rev {k : Nat} {p1 p3 p4 : Pos} (ha : PM W X a ma) : PM W X (.Subscript a (.Slice none none (some (.UnaryOp .USub (.Constant (.int 1) k p1) p3)) p4) pos) (mPrim fRev (mCons ma mNil)) :=
  ⟨fun B0 => PE.imp (pe_revL (ha.pe B0)) fun σ H Q h => by
    have P : Prim (W.at B0) (fun vs H Q => ∃ (a : Addr) (xs : List V), vs = [.ref a] ∧ H a = some (.lst xs) ∧ ∀ p, H p = none → Q (.ref p) (upd H p (.lst xs.reverse))) fRev := by
      intro T0 σ H env vs os o env' Q ho e k
      match os, ho, e with
      | [o1], ho, e =>
        obtain ⟨x, rfl, h1, R0⟩ := opds1 ho
        unfold fRev at e
        cases e1 : gList (peek o1 env) with
        | none => simp [e1] at e
        | some ds =>
          simp [e1] at e
          obtain ⟨rfl, rfl⟩ := e
          obtain ⟨p, xs, rfl, hp, l⟩ := peek_list h1 R0 (gList_some e1)
          exact ⟨p, xs, rfl, hp, fun q hq => k _ _ (Keep.new hq) Osub.refl (mk_list R0 hq l.reverse)⟩
    refine tM_mono (split1 (prim_split P h)) fun _ _ ⟨a, xs, e, hp, q⟩ => ?_
    cases e
    exact ⟨a, xs, rfl, SqL.of hp, q⟩⟩

/-! ### xs + ys, xs * n -/
def fCat : FX
  | [o1, o2], env => (gList (peek o1 env)).bind fun ds => (gList (peek o2 env)).bind fun es => if ds.length + es.length ≤ 16777216 then some (.new (.list (ds ++ es)), env) else none
  | _, _ => none
theorem prim_cat : Prim W (R2P rCat) fCat := by
  intro T0 σ H env vs os o env' Q ho e k
  match os, ho, e with
  | [o1, o2], ho, e =>
    obtain ⟨x, y, T1, rfl, s1, h1, h2, R1, R0⟩ := opds2 ho
    unfold fCat at e
    cases e1 : gList (peek o1 env) with
    | none => simp [e1] at e
    | some ds =>
      cases e2 : gList (peek o2 env) with
      | none => simp [e1, e2] at e
      | some es =>
        simp only [e1, e2, Option.bind] at e
        split at e
        · rename_i hl
          cases e
          obtain ⟨p, xs, rfl, hp, l⟩ := peek_list h1 R0 (gList_some e1)
          obtain ⟨q, ys, rfl, hq, l2⟩ := peek_list h2 R1 (gList_some e2)
          refine ⟨_, _, rfl, p, q, xs, ys, rfl, rfl, hp, hq, szl (by rw [l.length, l2.length]; exact hl), fun t ht => ?_⟩
          exact k _ _ (Keep.new ht) Osub.refl (mk_list R0 ht (l.append (AtL.move (Move.sub fun a z => z.elim (fun y => .inl (s1 a y)) .inr) _ _ l2)))
        · cases e
def repOk (n : Nat) (k : Int) : Bool := decide (0 ≤ k ∧ k.toNat ≤ 1000000 ∧ n * k.toNat ≤ 16777216)
theorem rep_ok {n : Nat} {k : Int} (h0 : 0 ≤ k) (h1 : k ≤ 1000) (hn : n ≤ 10000) : repOk n k = true := by
  have : n * k.toNat ≤ 10000 * 1000 := Nat.mul_le_mul hn (by omega)
  exact decide_eq_true ⟨by omega, by omega, by omega⟩
def fRep : FX
  | [o1, o2], env => (gList (peek o1 env)).bind fun ds => (gInt (peek o2 env)).bind fun k => if repOk ds.length k = true then some (.new (.list (List.replicate k.toNat ds).flatten), env) else none
  | _, _ => none
theorem rep_at {T : AS} {H : Hp} {xs : List V} {ds : List D} (l : AtL T H xs ds) : ∀ n : Nat, AtL T H (List.replicate n xs).flatten (List.replicate n ds).flatten
  | 0 => .nil
  | n + 1 => by
    rw [List.replicate_succ, List.replicate_succ, List.flatten_cons, List.flatten_cons]
    exact l.append (rep_at l n)
theorem prim_rep : Prim W (R2P rRep) fRep := by
  intro T0 σ H env vs os o env' Q ho e k
  match os, ho, e with
  | [o1, o2], ho, e =>
    obtain ⟨x, y, T1, rfl, s1, h1, h2, R1, R0⟩ := opds2 ho
    unfold fRep at e
    cases e1 : gList (peek o1 env) with
    | none => simp [e1] at e
    | some ds =>
      cases e2 : gInt (peek o2 env) with
      | none => simp [e1, e2] at e
      | some n =>
        simp only [e1, e2, Option.bind] at e
        split at e
        · rename_i hl0
          have hl1 := of_decide_eq_true hl0
          have hl : -(2 ^ 63) ≤ n ∧ n < 2 ^ 63 ∧ ds.length * n.toNat ≤ 16777216 := ⟨by omega, by omega, hl1.2.2⟩
          cases e
          obtain ⟨p, xs, rfl, hp, l⟩ := peek_list h1 R0 (gList_some e1)
          have hy := at_int (peek_at h2 R1 (gInt_some e2))
          subst hy
          exact ⟨_, _, rfl, p, n, xs, rfl, rfl, hp, hl.1, hl.2.1, szl (by rw [l.length]; exact hl.2.2), fun t ht => k _ _ (Keep.new ht) Osub.refl (mk_list R0 ht (rep_at l _))⟩
        · cases e
theorem pm_cat (ha : PM W X a ma) (hb : PM W X b mb) : PM W X (.BinOp a .Add b pos) (mPrim fCat (mCons ma (mCons mb mNil))) := pm_bin op_cat (fun _ => prim_cat) ha hb
theorem pm_rep (ha : PM W X a ma) (hb : PM W X b mb) : PM W X (.BinOp a .Mult b pos) (mPrim fRep (mCons ma (mCons mb mNil))) := pm_bin op_rep (fun _ => prim_rep) ha hb
end

/-! ### == and != of data, in -/
mutual
theorem At.dp {K : PySem.W.Frag} {T : AS} {H : Hp} : ∀ (d : PyData) (v : V), At T H v d → d.canLay0 = true → Dp K H v d
  | .none, _, h, _ => by cases h; exact .non
  | .bool b, _, h, _ => by cases h; exact .bl b
  | .int i, _, h, _ => by cases h; exact .int i
  | .str x, _, h, _ => by cases h; exact .str x
  | .list ds, _, h, c => by
    cases h with
    | lst n e l => exact .lst (SqL.of e) (AtL.dp ds _ l (by simpa [PyData.canLay0] using c))
  | .tuple ds, _, h, c => by
    cases h with
    | tup n e l => exact .tup (SqT.of e) (AtL.dp ds _ l (by simpa [PyData.canLay0] using c))
  | .dict ds, _, h, c => by simp [PyData.canLay0] at c
theorem AtL.dp {K : PySem.W.Frag} {T : AS} {H : Hp} : ∀ (ds : List PyData) (vs : List V), AtL T H vs ds → PyData.canLayAll0 ds = true → DpAll K H vs ds
  | [], _, h, _ => by cases h; exact .nil
  | d :: ds, _, h, c => by
    cases h with
    | cons a b =>
      have c' : d.canLay0 = true ∧ PyData.canLayAll0 ds = true := by simpa [PyData.canLayAll0] using c
      exact .cons (At.dp d _ a c'.1) (AtL.dp ds _ b c'.2)
end
theorem shaped_lay {d : D} (h : SeqAt.shaped d = true) : d.canLay0 = true := by
  have h' : (d.canLay0 && decide (d.depth ≤ 64)) = true := h
  rw [Bool.and_eq_true] at h'
  exact h'.1
def gEq : List D → Option D
  | [d, e] => if SeqAt.shaped d && SeqAt.shaped e then some (.bool (PyData.eqv d e)) else none
  | _ => none
def gNe : List D → Option D
  | [d, e] => if SeqAt.shaped d && SeqAt.shaped e then some (.bool (!PyData.eqv d e)) else none
  | _ => none
theorem prim_eq {W : Wd} {K : PySem.W.Frag} : Prim W (R2P (rEqD K)) (fPure gEq) := prim_pure fun vs H ds d v Q l e ev q => by
  unfold gEq at e
  split at e
  · rename_i d1 d2
    obtain ⟨x, y, rfl, hx, hy⟩ := atl2 l
    split at e
    · rename_i hs
      rw [Bool.and_eq_true] at hs
      cases e
      cases ev
      exact ⟨x, y, rfl, d1, d2, hx.dp _ _ (shaped_lay hs.1), hy.dp _ _ (shaped_lay hs.2), hs.1, hs.2, q⟩
    · cases e
  · cases e
theorem prim_ne {W : Wd} {K : PySem.W.Frag} : Prim W (R2P (rNeD K)) (fPure gNe) := prim_pure fun vs H ds d v Q l e ev q => by
  unfold gNe at e
  split at e
  · rename_i d1 d2
    obtain ⟨x, y, rfl, hx, hy⟩ := atl2 l
    split at e
    · rename_i hs
      rw [Bool.and_eq_true] at hs
      cases e
      cases ev
      exact ⟨x, y, rfl, d1, d2, hx.dp _ _ (shaped_lay hs.1), hy.dp _ _ (shaped_lay hs.2), hs.1, hs.2, q⟩
    · cases e
  · cases e
def gIn (neg : Bool) : List D → Option D
  | [d, .list es] => if SeqAt.shaped d && SeqAt.shaped (.list es) then some (.bool (if neg then !(es.any fun z => PyData.eqv z d) else es.any fun z => PyData.eqv z d)) else none
  | _ => none
theorem prim_in {W : Wd} {K : PySem.W.Frag} : Prim W (R2P (rInD K)) (fPure (gIn false)) := prim_pure fun vs H ds d v Q l e ev q => by
  unfold gIn at e
  split at e
  · rename_i d1 es
    obtain ⟨x, y, rfl, hx, hy⟩ := atl2 l
    split at e
    · rename_i hs
      rw [Bool.and_eq_true] at hs
      cases e
      cases ev
      exact ⟨x, y, rfl, d1, es, hx.dp _ _ (shaped_lay hs.1), hy.dp _ _ (shaped_lay hs.2), hs.1, hs.2, q⟩
    · cases e
  · cases e
theorem prim_notIn {W : Wd} {K : PySem.W.Frag} : Prim W (R2P (rNotInD K)) (fPure (gIn true)) := prim_pure fun vs H ds d v Q l e ev q => by
  unfold gIn at e
  split at e
  · rename_i d1 es
    obtain ⟨x, y, rfl, hx, hy⟩ := atl2 l
    split at e
    · rename_i hs
      rw [Bool.and_eq_true] at hs
      cases e
      cases ev
      exact ⟨x, y, rfl, d1, es, hx.dp _ _ (shaped_lay hs.1), hy.dp _ _ (shaped_lay hs.2), hs.1, hs.2, q⟩
    · cases e
  · cases e
section
variable {W : Wd} {X : Cx} {a b c : Expr} {ma mb mc : MX} {pos : Pos}
theorem pm_eq (hu : X.A.units + 64 < cLine) (ha : PM W X a ma) (hb : PM W X b mb) : PM W X (.Compare a [.Eq] [b] pos) (mPrim (fPure gEq) (mCons ma (mCons mb mNil))) := pm_cmp (op_eqD hu) (fun _ => prim_eq) ha hb (nomark _)
theorem pm_ne (hu : X.A.units + 64 < cLine) (ha : PM W X a ma) (hb : PM W X b mb) : PM W X (.Compare a [.NotEq] [b] pos) (mPrim (fPure gNe) (mCons ma (mCons mb mNil))) := pm_cmp (op_neD hu) (fun _ => prim_ne) ha hb (nomark _)
theorem pm_in (hu : X.A.units + 65 < cLine) (ha : PM W X a ma) (hb : PM W X b mb) (hm : behindInMarks .In b = false := by rfl) : PM W X (.Compare a [.In] [b] pos) (mPrim (fPure (gIn false)) (mCons ma (mCons mb mNil))) := pm_cmp (op_inD hu) (fun _ => prim_in) ha hb hm
theorem pm_notIn (hu : X.A.units + 65 < cLine) (ha : PM W X a ma) (hb : PM W X b mb) (hm : behindInMarks .NotIn b = false := by rfl) : PM W X (.Compare a [.NotIn] [b] pos) (mPrim (fPure (gIn true)) (mCons ma (mCons mb mNil))) := pm_cmp (op_notInD hu) (fun _ => prim_notIn) ha hb hm
/-- x is True, x is None (a bool; None) -/
def gIsB : List D → Option D
  | [.bool x, .bool y] => some (.bool (decide (x = y)))
  | _ => none
theorem pm_isB (ha : PM W X a ma) (hb : PM W X b mb) : PM W X (.Compare a [.Is] [b] pos) (mPrim (fPure gIsB) (mCons ma (mCons mb mNil))) := pm_cmp op_isBl (fun _ => prim_pure fun vs H ds d v Q l e ev q => by
  unfold gIsB at e
  split at e
  · rename_i x y
    obtain ⟨u, w, rfl, hx, hy⟩ := atl2 l
    cases e
    cases ev
    exact ⟨_, _, rfl, x, y, at_bl hx, at_bl hy, q⟩
  · cases e) ha hb (nomark _)
end

/-! ### tests -/
abbrev MT := MEnv → Option (Bool × MEnv)
def tT (W : Wd) (m : MT) : TT := fun σ H Q => ∃ T0 env b env', Rel W T0 σ H env ∧ m env = some (b, env') ∧ ∀ H', Keep (Own σ env) H H' → Osub env env' → Rel W T0 σ H' env' → Q b H'
structure PMT (W : Wd) (X : Cx) (e : Expr) (m : MT) : Prop where
  pt : ∀ B0, PT X e (tT (W.at B0) m)
structure PMW (W : Wd) (X : Cx) (e : Expr) (m : MT) : Prop where
  pw : ∀ B0, PW X e (tT (W.at B0) m)
theorem PT.imp {X : Cx} {e : Expr} {t t' : TT} (h : PT X e t) (k : ∀ σ H Q, t' σ H Q → t σ H Q) : PT X e t' := ⟨fun pins s σ H Q I q => h.run pins s σ H Q I (k σ H Q q)⟩
theorem PW.imp {X : Cx} {e : Expr} {t t' : TT} (h : PW X e t) (k : ∀ σ H Q, t' σ H Q → t σ H Q) : PW X e t' := ⟨fun wh pins s σ H Q I q => h.run wh pins s σ H Q I (k σ H Q q)⟩
def gBool : Option D → Option Bool
  | some (.bool b) => some b
  | _ => none
theorem gBool_some {d : Option D} {i : Bool} (h : gBool d = some i) : d = some (.bool i) := by
  unfold gBool at h
  split at h
  · cases h; rfl
  · cases h
/-- a bool's truth -/
def mTr (m : MX) : MT := fun env => (m env).bind fun (o, env1) => (gBool (peek o env1)).bind fun b => some (b, env1)
theorem tr_split {W : Wd} {m : MX} {σ : L2.St} {H : Hp} {Q : Bool → Hp → Prop} (h : tT W (mTr m) σ H Q) : tM W m σ H fun x H1 => ∃ k, x = .bl k ∧ Q k H1 := by
  obtain ⟨T0, env, b, env', R, e, k⟩ := h
  unfold mTr at e
  cases e1 : m env with
  | none => simp [e1] at e
  | some z =>
    obtain ⟨o, env1⟩ := z
    cases e2 : gBool (peek o env1) with
    | none => simp [e1, e2] at e
    | some b' =>
      simp [e1, e2] at e
      obtain ⟨rfl, rfl⟩ := e
      refine ⟨T0, env, o, env1, R, e1, fun v H1 k1 s1 o1 => ?_⟩
      obtain ⟨T1, R1, sub, _⟩ := opdK_rel o1
      have R0 := R1.less sub
      exact ⟨b', at_bl (peek_at o1 R0 (gBool_some e2)), k H1 k1 s1 R0⟩
section
variable {W : Wd} {X : Cx} {a b c : Expr} {ma mb mc : MX} {ta tb tc : MT} {pos : Pos} {rest : List Expr}
theorem pmt_cmp {op : CmpOp} {r : R2} {f : FX} (ho : OpR X (compareOp op) r) (P : ∀ B0, Prim (W.at B0) (R2P r) f) (ha : PM W X a ma) (hb : PM W X b mb) (hm : behindInMarks op b = false) : PMT W X (.Compare a [op] [b] pos) (mTr (mPrim f (mCons ma (mCons mb mNil)))) :=
  ⟨fun B0 => PT.imp (pt_cmpR ho (ha.pe B0) hb.pex hm) fun _ _ _ h => op_split (P B0) (tr_split h)⟩
/-- an expression that gives a bool, as a test: a call, a name, an item -/
theorem pmt_val (h : PM W X a ma) (he : ∀ whole, isTrue a X.env whole = (do let v ← whole; standAt a.pos; holding [v] (truthy v)) := by intro _; rfl) : PMT W X a (mTr ma) := ⟨fun B0 => PT.imp (pt_val (h.pe B0) he) fun _ _ _ h => tr_split h⟩
def mNot (t : MT) : MT := fun env => (t env).bind fun (b, env1) => some (!b, env1)
def mAnd (t u : MT) : MT := fun env => (t env).bind fun (b, env1) => if b = true then u env1 else some (false, env1)
def mOr (t u : MT) : MT := fun env => (t env).bind fun (b, env1) => if b = true then some (true, env1) else u env1
theorem pmt_not (h : PMT W X a ta) : PMT W X (.UnaryOp .Not a pos) (mNot ta) := ⟨fun B0 => PT.imp (pt_not (h.pt B0)) fun σ H Q ⟨T0, env, b, env', R, e, k⟩ => by
  unfold mNot at e
  cases e1 : ta env with
  | none => simp [e1] at e
  | some z =>
    obtain ⟨b1, env1⟩ := z
    simp only [e1, Option.bind, Option.some.injEq, Prod.mk.injEq] at e
    obtain ⟨rfl, rfl⟩ := e
    exact ⟨T0, env, b1, env1, R, e1, k⟩⟩
theorem and_split {σ : L2.St} {H : Hp} {Q : Bool → Hp → Prop} (h : tT W (mAnd ta tb) σ H Q) : tAnd (tT W ta) (tT W tb) σ H Q := by
  obtain ⟨T0, env, b, env', R, e, k⟩ := h
  unfold mAnd at e
  cases e1 : ta env with
  | none => simp [e1] at e
  | some z =>
    obtain ⟨b1, env1⟩ := z
    simp only [e1, Option.bind] at e
    refine ⟨T0, env, b1, env1, R, e1, fun H1 k1 s1 R1 => ?_⟩
    cases b1 with
    | true =>
      rw [if_pos rfl]
      rw [if_pos rfl] at e
      exact ⟨T0, env1, b, env', R1, e, fun H2 k2 s2 R2 => k H2 (k1.trans k2 fun a z => s1.own a z) (s1.trans s2) R2⟩
    | false =>
      rw [if_neg Bool.false_ne_true]
      rw [if_neg Bool.false_ne_true] at e
      cases e
      exact k H1 k1 s1 R1
theorem or_split {σ : L2.St} {H : Hp} {Q : Bool → Hp → Prop} (h : tT W (mOr ta tb) σ H Q) : tOr (tT W ta) (tT W tb) σ H Q := by
  obtain ⟨T0, env, b, env', R, e, k⟩ := h
  unfold mOr at e
  cases e1 : ta env with
  | none => simp [e1] at e
  | some z =>
    obtain ⟨b1, env1⟩ := z
    simp only [e1, Option.bind] at e
    refine ⟨T0, env, b1, env1, R, e1, fun H1 k1 s1 R1 => ?_⟩
    cases b1 with
    | true =>
      rw [if_pos rfl]
      rw [if_pos rfl] at e
      cases e
      exact k H1 k1 s1 R1
    | false =>
      rw [if_neg Bool.false_ne_true]
      rw [if_neg Bool.false_ne_true] at e
      exact ⟨T0, env1, b, env', R1, e, fun H2 k2 s2 R2 => k H2 (k1.trans k2 fun a z => s1.own a z) (s1.trans s2) R2⟩
theorem pmw_and1 (h : PMT W X a ta) : PMW W X (.BoolOp .And [a] pos) ta := ⟨fun B0 => pw_and1 (h.pt B0)⟩
theorem pmw_or1 (h : PMT W X a ta) : PMW W X (.BoolOp .Or [a] pos) ta := ⟨fun B0 => pw_or1 (h.pt B0)⟩
theorem pmw_and (h : PMT W X a ta) (k : PMW W X (.BoolOp .And (b :: rest) pos) tb) : PMW W X (.BoolOp .And (a :: b :: rest) pos) (mAnd ta tb) := ⟨fun B0 => PW.imp (pw_and (h.pt B0) (k.pw B0)) fun _ _ _ h => and_split h⟩
theorem pmw_or (h : PMT W X a ta) (k : PMW W X (.BoolOp .Or (b :: rest) pos) tb) : PMW W X (.BoolOp .Or (a :: b :: rest) pos) (mOr ta tb) := ⟨fun B0 => PW.imp (pw_or (h.pt B0) (k.pw B0)) fun _ _ _ h => or_split h⟩
theorem pmt_w (h : PMW W X a ta) : PMT W X a ta := ⟨fun B0 => (h.pw B0).pt⟩
/-- bools as values -/
def mOf (t : MT) : MX := fun env => (t env).bind fun (b, env1) => some (.dat (.bool b), env1)
theorem of_split {σ : L2.St} {H : Hp} {Q : VK} (h : tM W (mOf ta) σ H Q) : tT W ta σ H fun b H' => Q (.bl b) H' := by
  obtain ⟨T0, env, o, env', R, e, k⟩ := h
  unfold mOf at e
  cases e1 : ta env with
  | none => simp [e1] at e
  | some z =>
    obtain ⟨b, env1⟩ := z
    simp [e1] at e
    obtain ⟨rfl, rfl⟩ := e
    exact ⟨T0, env, b, env1, R, e1, fun H1 k1 s1 R1 => k _ H1 k1 s1 ⟨.bl b, R1⟩⟩
theorem tT_mono {m : MT} {σ : L2.St} {H : Hp} {Q Q' : Bool → Hp → Prop} (h : tT W m σ H Q) (k : ∀ v H', Q v H' → Q' v H') : tT W m σ H Q' := by
  obtain ⟨T0, env, o, env', R, e, q⟩ := h
  exact ⟨T0, env, o, env', R, e, fun H' a b c => k _ H' (q H' a b c)⟩
/-- and, or, not as values: the parts are bools -/
theorem pm_one {op : PySem.BoolOp} (h : PM W X a ma) : PM W X (.BoolOp op [a] pos) (mOf (mTr ma)) := ⟨fun B0 => PE.imp (pe_one (h.pe B0)) fun σ H Q h => tM_mono (tr_split (of_split h)) fun _ _ ⟨k, e, q⟩ => by rw [e]; exact q⟩
theorem pm_and (h : PM W X a ma) (k : PM W X (.BoolOp .And (b :: rest) pos) (mOf tb)) : PM W X (.BoolOp .And (a :: b :: rest) pos) (mOf (mAnd (mTr ma) tb)) := ⟨fun B0 => PE.imp (pe_and (h.pe B0) (k.pe B0)) fun σ H Q h => by
  refine tM_mono (tr_split (and_split (of_split h))) fun v H1 ⟨c, e, q⟩ => ⟨c, e, ?_⟩
  cases c with
  | true =>
    rw [if_pos rfl] at q ⊢
    obtain ⟨T0, env, b, env', R, e, k⟩ := q
    exact ⟨T0, env, .dat (.bool b), env', R, by unfold mOf; rw [e]; rfl, fun v H' a1 a2 a3 => by
      have := a3.1
      cases this
      exact k H' a1 a2 a3.2⟩
  | false =>
    rw [if_neg Bool.false_ne_true] at q ⊢
    exact q⟩
theorem pm_or (h : PM W X a ma) (k : PM W X (.BoolOp .Or (b :: rest) pos) (mOf tb)) : PM W X (.BoolOp .Or (a :: b :: rest) pos) (mOf (mOr (mTr ma) tb)) := ⟨fun B0 => PE.imp (pe_or (h.pe B0) (k.pe B0)) fun σ H Q h => by
  refine tM_mono (tr_split (or_split (of_split h))) fun v H1 ⟨c, e, q⟩ => ⟨c, e, ?_⟩
  cases c with
  | true =>
    rw [if_pos rfl] at q ⊢
    exact q
  | false =>
    rw [if_neg Bool.false_ne_true] at q ⊢
    obtain ⟨T0, env, b, env', R, e, k⟩ := q
    exact ⟨T0, env, .dat (.bool b), env', R, by unfold mOf; rw [e]; rfl, fun v H' a1 a2 a3 => by
      have := a3.1
      cases this
      exact k H' a1 a2 a3.2⟩⟩
theorem pm_not (h : PM W X a ma) : PM W X (.UnaryOp .Not a pos) (mOf (mNot (mTr ma))) := ⟨fun B0 => PE.imp (pe_not (h.pe B0)) fun σ H Q h => by
  obtain ⟨T0, env, b, env', R, e, k⟩ := of_split h
  unfold mNot at e
  cases e1 : mTr ma env with
  | none => simp [e1] at e
  | some z =>
    obtain ⟨b1, env1⟩ := z
    simp only [e1, Option.bind, Option.some.injEq, Prod.mk.injEq] at e
    obtain ⟨rfl, rfl⟩ := e
    have q : tT (W.at B0) (mTr ma) σ H (fun b H' => Q (.bl (!b)) H') := ⟨T0, env, b1, env1, R, e1, k⟩
    exact tM_mono (tr_split q) fun v H1 ⟨c, e, q⟩ => ⟨c, e, q⟩⟩
/-- low <= x <= high -/
def mIf (t : MT) (m n : MX) : MX := fun env => (t env).bind fun (b, env1) => if b = true then m env1 else n env1
theorem pm_if {mm mn : MX} (ht : PMT W X c tc) (ha : PM W X a mm) (hb : PM W X b mn) : PM W X (.IfExp c a b pos) (mIf tc mm mn) := ⟨fun B0 => PE.imp (pe_ifExp (ht.pt B0) (ha.pe B0) (hb.pe B0)) fun σ H Q ⟨T0, env, o, env', R, e, k⟩ => by
  unfold mIf at e
  cases e1 : tc env with
  | none => simp [e1] at e
  | some z =>
    obtain ⟨b1, env1⟩ := z
    simp only [e1, Option.bind] at e
    refine ⟨T0, env, b1, env1, R, e1, fun H1 k1 s1 R1 => ?_⟩
    cases b1 with
    | true =>
      rw [if_pos rfl]
      rw [if_pos rfl] at e
      exact ⟨T0, env1, o, env', R1, e, fun v H2 k2 s2 o2 => k v H2 (k1.trans k2 fun a z => s1.own a z) (s1.trans s2) o2⟩
    | false =>
      rw [if_neg Bool.false_ne_true]
      rw [if_neg Bool.false_ne_true] at e
      exact ⟨T0, env1, o, env', R1, e, fun v H2 k2 s2 o2 => k v H2 (k1.trans k2 fun a z => s1.own a z) (s1.trans s2) o2⟩⟩
end
end Mx

set_option Elab.async false
set_option autoImplicit false
set_option linter.all false
set_option maxRecDepth 100000
/-! Mx3: a def as a function of slots, and its call. -/
namespace Mx
open PySem L2
abbrev Den := List Slot → Option (Opd × List Slot)
def domOf (H : Hp) : AS := fun a => H a ≠ none
/-- the promise of a def: F is what it does to its arguments; a list that it changes is an own slot -/
def spF (K : PySem.W.Frag) (B : Addr) (n : Nat) (F : Den) : Sp := fun vs H Q _ => ∃ T0 args r args', Rel ⟨K, B, domOf H⟩ T0 (vs.map some) H (args.map some) ∧ args.length = n ∧ F args = some (r, args') ∧
  ∀ v H', Keep (Own (vs.map some) (args.map some)) H H' → Osub (args.map some) (args'.map some) → OpdK ⟨K, B, domOf H⟩ T0 (vs.map some) H' (args'.map some) v (fun T => Rel ⟨K, B, domOf H⟩ T (vs.map some) H' (args'.map some)) r → Q v H'
theorem spF_len {K : PySem.W.Frag} {B : Addr} {n : Nat} {F : Den} {vs : List V} {H : Hp} {Q : VK} {E : XK} (h : spF K B n F vs H Q E) : vs.length = n := by
  obtain ⟨T0, args, r, args', R, hl, _⟩ := h
  have := R.len
  rw [List.length_map, List.length_map] at this
  omega

def aSlot : Bool → Option (Option Slot) → Option Slot
  | true, some (some (.own _ d)) => some (.own false d)
  | false, some (some (.dat d)) => some (.dat d)
  | false, some (some (.brd n gs)) => some (.brd n gs)
  | false, some (some (.scr ns)) => some (.scr ns)
  | false, some (some (.brds l)) => some (.brds l)
  | _, _ => none
def argOf : Bool → Opd → MEnv → Option Slot
  | b, .slot i, env => aSlot b env[i]?
  | false, .dat d, _ => some (.dat d)
  | false, .new d, _ => some (.dat d)
  | false, .brd n gs, _ => some (.brd n gs)
  | _, _, _ => none
def argsOf : List Bool → List Opd → MEnv → Option (List Slot)
  | [], [], _ => some []
  | b :: io, o :: os, env => (argOf b o env).bind fun a => (argsOf io os env).bind fun as => some (a :: as)
  | _, _, _ => none
def frzS (env : MEnv) (i : Nat) : Option (Option Slot) → MEnv
  | some (some (.own true d)) => env.set i (some (.dat d))
  | _ => env
def frz1 : Bool → Opd → MEnv → MEnv
  | false, .slot i, env => frzS env i env[i]?
  | _, _, env => env
def frzs : List Bool → List Opd → MEnv → MEnv
  | b :: io, o :: os, env => frzs io os (frz1 b o env)
  | _, _, env => env
def inS : List Bool → List Opd → List Nat
  | true :: io, .slot i :: os => i :: inS io os
  | _ :: io, _ :: os => inS io os
  | _, _ => []
def putS (env : MEnv) (i : Nat) (d : D) : Option (Option Slot) → Option MEnv
  | some (some (.own l _)) => some (env.set i (some (.own l d)))
  | _ => none
def back : List Bool → List Opd → List Slot → MEnv → Option MEnv
  | [], [], [], env => some env
  | true :: io, .slot i :: os, .own _ d :: as, env => (back io os as env).bind fun env1 => putS env1 i d env1[i]?
  | false :: io, _ :: os, _ :: as, env => back io os as env
  | _, _, _, _ => none
def noSlot : Opd → Bool
  | .slot _ => false
  | _ => true
def fCall (io : List Bool) (n : Nat) (F : Den) : FX := fun os env => (argsOf io os (frzs io os env)).bind fun args =>
  if (inS io os).Nodup ∧ args.length = n then (F args).bind fun (r, args') => if noSlot r then (back io os args' (frzs io os env)).bind fun env3 => some (r, env3) else none else none

section
variable {W : Wd} {T0 : AS} {σ : L2.St} {H : Hp} {env env2 : MEnv}
theorem frz1_rel {b : Bool} {o : Opd} (R : Rel W T0 σ H env) : Rel W T0 σ H (frz1 b o env) ∧ Osub env (frz1 b o env) := by
  cases b with
  | true => exact ⟨R, .refl⟩
  | false =>
    cases o with
    | dat d => exact ⟨R, .refl⟩
    | new d => exact ⟨R, .refl⟩
    | brd n gs => exact ⟨R, .refl⟩
    | slot i =>
      show Rel W T0 σ H (frzS env i env[i]?) ∧ Osub env (frzS env i env[i]?)
      unfold frzS
      split
      · rename_i d q
        obtain ⟨u, eu, _⟩ := R.ok i _ q
        obtain ⟨a, b, _⟩ := freeze R eu q
        exact ⟨a, b⟩
      · exact ⟨R, .refl⟩
theorem frzs_rel : ∀ {io : List Bool} {os : List Opd} {env : MEnv}, Rel W T0 σ H env → Rel W T0 σ H (frzs io os env) ∧ Osub env (frzs io os env)
  | [], [], _, R => ⟨R, .refl⟩
  | [], _ :: _, _, R => ⟨R, .refl⟩
  | _ :: _, [], _, R => ⟨R, .refl⟩
  | b :: io, o :: os, env, R => by
    obtain ⟨r1, s1⟩ := frz1_rel (b := b) (o := o) R
    obtain ⟨r2, s2⟩ := frzs_rel (io := io) (os := os) r1
    exact ⟨r2, s1.trans s2⟩

/-- an argument as the callee sees it -/
def ArgOk (W : Wd) (T0 : AS) (σ : L2.St) (H : Hp) (env : MEnv) (b : Bool) (o : Opd) (v : V) : Slot → Prop
  | .dat d => b = false ∧ At (Tot T0 σ env) H v d
  | .brd n gs => b = false ∧ BrdAt W.B (Tot T0 σ env) H v n gs
  | .scr ns => b = false ∧ ScrAt W.K (Tot T0 σ env) H v ns
  | .brds l => b = false ∧ BrdsAt W.B (Tot T0 σ env) H v l
  | .raw _ => False
  | .own l d => l = false ∧ b = true ∧ ∃ i p l', o = .slot i ∧ v = .ref p ∧ σ[i]? = some (some v) ∧ env[i]? = some (some (.own l' d)) ∧ Cont (Tot T0 σ env) H p d
inductive ArgsR (W : Wd) (T0 : AS) (σ : L2.St) (H : Hp) (env : MEnv) : List Bool → List Opd → List V → List Slot → Prop
  | nil : ArgsR W T0 σ H env [] [] [] []
  | cons {b : Bool} {o : Opd} {v : V} {s : Slot} {io : List Bool} {os : List Opd} {vs : List V} {as : List Slot} : ArgOk W T0 σ H env b o v s → ArgsR W T0 σ H env io os vs as → ArgsR W T0 σ H env (b :: io) (o :: os) (v :: vs) (s :: as)
theorem ArgOk.less {T1 : AS} {b : Bool} {o : Opd} {v : V} {s : Slot} (h : ArgOk W T1 σ H env b o v s) (k : ∀ a, T0 a → T1 a) : ArgOk W T0 σ H env b o v s := by
  have M : Move (Tot T1 σ env) (Tot T0 σ env) H H := Move.sub fun a z => z.elim (fun q => .inl (k a q)) .inr
  cases s with
  | dat d => exact ⟨h.1, At.move M d v h.2⟩
  | brd n gs => exact ⟨h.1, BrdAt.move M h.2⟩
  | scr ns => exact ⟨h.1, ScrAt.move M h.2⟩
  | brds l9 => exact ⟨h.1, BrdsAt.move M h.2⟩
  | raw v0 => exact h.elim
  | own l d => obtain ⟨h0, h1, i, p, l', a, b, c, d', e⟩ := h; exact ⟨h0, h1, i, p, l', a, b, c, d', e.move M fun _ q => q⟩
theorem ArgsR.less {T1 : AS} {io : List Bool} {os : List Opd} {vs : List V} {as : List Slot} (h : ArgsR W T1 σ H env io os vs as) (k : ∀ a, T0 a → T1 a) : ArgsR W T0 σ H env io os vs as := by
  induction h with
  | nil => exact .nil
  | cons a _ ih => exact .cons (a.less k) ih
theorem arg_ok {b : Bool} {o : Opd} {v : V} {s : Slot} {R : AS → Prop} (h : OpdK W T0 σ H env v R o) (sb : Osub env env2) (Rl : Rel W T0 σ H env2) (e : argOf b o env2 = some s) : ArgOk W T0 σ H env2 b o v s := by
  cases o with
  | dat d =>
    cases b with
    | true => cases e
    | false => cases e; exact ⟨rfl, At.move (Move.sub sb.tot) d v h.1⟩
  | new d =>
    cases b with
    | true => cases e
    | false =>
      cases e
      obtain ⟨p, rfl, n, c, _⟩ := h
      exact ⟨rfl, (c.move (Move.sub fun a z => z.elim (fun y => .inl (.inl y)) fun y => .inr (sb.own a y)) fun _ q => q).at fun z => n.1 (sb.tot _ z)⟩
  | brd n gs =>
    cases b with
    | true => cases e
    | false => cases e; exact ⟨rfl, BrdAt.move (Move.sub sb.tot) h.1⟩
  | slot i =>
    have e' : aSlot b env2[i]? = some s := e
    unfold aSlot at e'
    split at e'
    · rename_i l d q
      cases e'
      obtain ⟨p, rfl, c, _⟩ := slot_get Rl h.1 q
      exact ⟨rfl, rfl, i, p, l, rfl, rfl, h.1, q, c⟩
    · rename_i d q
      cases e'
      exact ⟨rfl, slot_get Rl h.1 q⟩
    · rename_i n gs q
      cases e'
      exact ⟨rfl, slot_get Rl h.1 q⟩
    · rename_i ns q
      cases e'
      exact ⟨rfl, slot_get Rl h.1 q⟩
    · rename_i l9 q
      cases e'
      exact ⟨rfl, slot_get Rl h.1 q⟩
    · cases e'
theorem args_ok : ∀ {io : List Bool} {os : List Opd} {vs : List V} {as : List Slot} {T0 : AS}, OpdsK W σ H env T0 vs os (fun T => Rel W T σ H env2) → Osub env env2 → argsOf io os env2 = some as → ArgsR W T0 σ H env2 io os vs as
  | [], [], [], as, T0, h, sb, e => by cases e; exact .nil
  | [], [], _ :: _, _, _, h, _, _ => h.elim
  | [], _ :: _, _, _, _, _, _, e => by cases e
  | _ :: _, [], _, _, _, _, _, e => by cases e
  | _ :: _, _ :: _, [], _, _, h, _, _ => h.elim
  | b :: io, o :: os, v :: vs, as, T0, h, sb, e => by
    unfold argsOf at e
    cases e1 : argOf b o env2 with
    | none => simp [e1] at e
    | some a =>
      cases e2 : argsOf io os env2 with
      | none => simp [e1, e2] at e
      | some as' =>
        simp [e1, e2] at e
        subst e
        obtain ⟨T1, h1', s1, put1⟩ := opdK_rel (show OpdK W T0 σ H env v _ o from h)
        have h1 := h1'.imp (R' := fun T => Rel W T σ H env2) fun _ z => z.2
        obtain ⟨T2, h2, s2, put2⟩ := opdsK_rel h1
        exact .cons (arg_ok (put1 (fun _ => True) trivial) sb (h2.less fun a z => s2 a (s1 a z)) e1) ((args_ok h1 sb e2).less s1)

/-- the callee's own lists are this frame's -/
theorem ArgsR.at {io : List Bool} {os : List Opd} {vs : List V} {as : List Slot} (h : ArgsR W T0 σ H env io os vs as) : ∀ {j : Nat} {s : Slot}, as[j]? = some s → ∃ b o v, io[j]? = some b ∧ os[j]? = some o ∧ vs[j]? = some v ∧ ArgOk W T0 σ H env b o v s := by
  induction h with
  | nil => intro j s e; simp at e
  | cons a _ ih =>
    intro j s e
    cases j with
    | zero => simp at e; subst e; exact ⟨_, _, _, rfl, rfl, rfl, a⟩
    | succ j => simpa using ih (j := j) (s := s) (by simpa using e)
theorem ArgsR.len {io : List Bool} {os : List Opd} {vs : List V} {as : List Slot} (h : ArgsR W T0 σ H env io os vs as) : vs.length = as.length ∧ io.length = as.length ∧ os.length = as.length := by
  induction h with
  | nil => exact ⟨rfl, rfl, rfl⟩
  | cons a _ ih => simp [ih.1, ih.2.1, ih.2.2]
theorem map_get {α : Type} {l : List α} {j : Nat} {s : α} (e : (l.map some)[j]? = some (some s)) : l[j]? = some s := by
  rw [List.getElem?_map] at e
  cases q : l[j]? with
  | none => rw [q] at e; cases e
  | some x => rw [q] at e; cases e; rfl
theorem get_map {α : Type} {l : List α} {j : Nat} {s : α} (e : l[j]? = some s) : (l.map some)[j]? = some (some s) := by
  rw [List.getElem?_map, e]
  rfl
theorem mem_inS : ∀ {io : List Bool} {os : List Opd} {j i : Nat}, io[j]? = some true → os[j]? = some (.slot i) → i ∈ inS io os
  | [], _, _, _, h, _ => by simp at h
  | _ :: _, [], _, _, _, h => by simp at h
  | b :: io, o :: os, 0, i, h, k => by
    simp at h k
    subst h; subst k
    exact List.mem_cons_self
  | b :: io, o :: os, j + 1, i, h, k => by
    have := mem_inS (io := io) (os := os) (j := j) (i := i) (by simpa using h) (by simpa using k)
    cases b with
    | false => exact this
    | true =>
      cases o with
      | slot i' => exact List.mem_cons_of_mem _ this
      | dat d => exact this
      | new d => exact this
      | brd n gs => exact this
theorem inS_inj : ∀ {io : List Bool} {os : List Opd} {j k i : Nat}, (inS io os).Nodup → io[j]? = some true → os[j]? = some (.slot i) → io[k]? = some true → os[k]? = some (.slot i) → j = k
  | [], _, _, _, _, _, h, _, _, _ => by simp at h
  | _ :: _, [], _, _, _, _, _, h, _, _ => by simp at h
  | b :: io, o :: os, 0, 0, i, _, _, _, _, _ => rfl
  | b :: io, o :: os, 0, k + 1, i, nd, h1, h2, h3, h4 => by
    simp at h1 h2
    subst h1; subst h2
    have m := mem_inS (io := io) (os := os) (j := k) (i := i) (by simpa using h3) (by simpa using h4)
    have nd' : (i :: inS io os).Nodup := nd
    exact absurd m (List.nodup_cons.mp nd').1
  | b :: io, o :: os, j + 1, 0, i, nd, h1, h2, h3, h4 => by
    simp at h3 h4
    subst h3; subst h4
    have m := mem_inS (io := io) (os := os) (j := j) (i := i) (by simpa using h1) (by simpa using h2)
    have nd' : (i :: inS io os).Nodup := nd
    exact absurd m (List.nodup_cons.mp nd').1
  | b :: io, o :: os, j + 1, k + 1, i, nd, h1, h2, h3, h4 => by
    have nd' : (inS io os).Nodup := by
      cases b with
      | false => exact nd
      | true =>
        cases o with
        | slot i' => exact (List.nodup_cons.mp (show (i' :: inS io os).Nodup from nd)).2
        | dat d => exact nd
        | new d => exact nd
        | brd n gs => exact nd
    have q := inS_inj (io := io) (os := os) (j := j) (k := k) (i := i) nd' (by simpa using h1) (by simpa using h2) (by simpa using h3) (by simpa using h4)
    rw [q]
theorem ArgsR.own {io : List Bool} {os : List Opd} {vs : List V} {as : List Slot} (h : ArgsR W T0 σ H env io os vs as) {j : Nat} {a : Addr} (o : OwnAt (vs.map some) (as.map some) j a) :
    ∃ i, io[j]? = some true ∧ os[j]? = some (.slot i) ∧ OwnAt σ env i a := by
  obtain ⟨⟨l, d, e⟩, es⟩ := o
  obtain ⟨b, o, v, h1, h2, h3, k⟩ := h.at (map_get e)
  obtain ⟨h0, rfl, i, p, l', rfl, rfl, c, d', _⟩ := k
  have := map_get es
  rw [h3] at this
  cases this
  exact ⟨i, h1, h2, ⟨l', d, d'⟩, c⟩
/-- the callee's state at its entry -/
theorem call_rel {io : List Bool} {os : List Opd} {vs : List V} {as : List Slot} (R : Rel W T0 σ H env) (h : ArgsR W T0 σ H env io os vs as) (nd : (inS io os).Nodup) :
    Rel ⟨W.K, W.B, domOf H⟩ (Tot T0 σ env) (vs.map some) H (as.map some) := by
  have sub : ∀ a, Tot (Tot T0 σ env) (vs.map some) (as.map some) a → Tot T0 σ env a := fun a z => z.elim id fun ⟨j, o⟩ => let ⟨i, _, _, q⟩ := h.own o; .inr ⟨i, q⟩
  have M : Move (Tot T0 σ env) (Tot (Tot T0 σ env) (vs.map some) (as.map some)) H H := Move.sub sub
  refine ⟨by rw [List.length_map, List.length_map]; exact h.len.1.symm, fun a z => R.totMu z, fun a z => z, fun j s e => ?_, fun j k a hj hk => ?_⟩
  · obtain ⟨b, o, v, h1, h2, h3, k⟩ := h.at (map_get e)
    refine ⟨v, get_map h3, ?_⟩
    cases s with
    | dat d => exact At.move M d v k.2
    | brd n gs => exact BrdAt.move M k.2
    | scr ns => exact ScrAt.move M k.2
    | brds l9 => exact BrdsAt.move M k.2
    | raw v0 => exact k.elim
    | own l d =>
      obtain ⟨h0, _, i, p, l', _, rfl, c, d', q⟩ := k
      exact ⟨p, rfl, q.move M fun _ q => q, fun z => by rw [h0] at z; cases z⟩
  · obtain ⟨i, a1, a2, a3⟩ := h.own hj
    obtain ⟨i', b1, b2, b3⟩ := h.own hk
    have := R.inj i i' a a3 b3
    subst this
    exact inS_inj nd a1 a2 b1 b2
theorem putS_some {env env' : MEnv} {i : Nat} {d : D} {o : Option (Option Slot)} (e : putS env i d o = some env') : ∃ l d0, o = some (some (.own l d0)) ∧ env' = env.set i (some (.own l d)) := by
  unfold putS at e
  split at e
  · cases e; exact ⟨_, _, rfl, rfl⟩
  · cases e
/-- what the frame's slots hold behind the call -/
theorem back_spec {io : List Bool} {os : List Opd} {vs : List V} {as : List Slot} (h : ArgsR W T0 σ H env io os vs as) : ∀ {as' : List Slot} {env3 : MEnv}, (inS io os).Nodup → back io os as' env = some env3 →
    env3.length = env.length ∧ (∀ i, i ∉ inS io os → env3[i]? = env[i]?) ∧ ∀ i ∈ inS io os, ∃ (j : Nat) (l : Bool) (d d' : D) (f : Bool) (v : V), env[i]? = some (some (Slot.own l d)) ∧ env3[i]? = some (some (Slot.own l d')) ∧ as'[j]? = some (Slot.own f d') ∧ vs[j]? = some v ∧ σ[i]? = some (some v) := by
  induction h with
  | nil =>
    intro as' env3 nd e
    cases as' with
    | nil => cases e; exact ⟨rfl, fun _ _ => rfl, fun i m => by cases m⟩
    | cons _ _ => cases e
  | @cons b o v s io os vs as a _ ih =>
    intro as' env3 nd e
    cases as' with
    | nil =>
      cases b with
      | true => cases o <;> cases e
      | false => cases e
    | cons s' as' =>
      cases b with
      | false =>
        have nd' : (inS io os).Nodup := nd
        obtain ⟨h0, h1, h2⟩ := ih (as' := as') nd' e
        refine ⟨h0, h1, fun i m => ?_⟩
        obtain ⟨j, l, d, d', f, v', q1, q2, q3, q4, q5⟩ := h2 i m
        exact ⟨j + 1, l, d, d', f, v', q1, q2, by simpa using q3, by simpa using q4, q5⟩
      | true =>
        cases o with
        | dat d => cases e
        | new d => cases e
        | brd n gs => cases e
        | slot i0 =>
          cases s' with
          | dat d => cases e
          | brd n gs => cases e
          | scr ns => cases e
          | brds l9 => cases e
          | raw v0 => cases e
          | own f d' =>
            have nd' : (i0 :: inS io os).Nodup := nd
            obtain ⟨n0, nd2⟩ := List.nodup_cons.mp nd'
            have e' : ((back io os as' env).bind fun env1 => putS env1 i0 d' env1[i0]?) = some env3 := e
            cases e1 : back io os as' env with
            | none => rw [e1] at e'; cases e'
            | some env1 =>
              rw [e1] at e'
              obtain ⟨h0, h1, h2⟩ := ih (as' := as') nd2 e1
              obtain ⟨l, d0, q, rfl⟩ := putS_some (show putS env1 i0 d' env1[i0]? = some env3 from e')
              have hi : i0 < env1.length := (List.getElem?_eq_some_iff.mp q).1
              have es : σ[i0]? = some (some v) := by
                cases s with
                | dat d => exact nomatch a.1
                | brd n gs => exact nomatch a.1
                | scr ns => exact nomatch a.1
                | brds l9 => exact nomatch a.1
                | raw v0 => exact a.elim
                | own l2 d2 => obtain ⟨_, _, i, p, l', e1, e2, c, _⟩ := a; cases e1; exact c
              refine ⟨by rw [List.length_set]; exact h0, fun i m => ?_, fun i m => ?_⟩
              · have m' : i ∉ i0 :: inS io os := m
                have ne : i ≠ i0 := fun z => m' (z ▸ List.mem_cons_self)
                rw [List.getElem?_set_ne (Ne.symm ne)]
                exact h1 i fun z => m' (List.mem_cons_of_mem _ z)
              · have m' : i ∈ i0 :: inS io os := m
                by_cases ne : i = i0
                · subst ne
                  exact ⟨0, l, d0, d', f, v, by rw [← h1 i n0]; exact q, List.getElem?_set_self hi, rfl, rfl, es⟩
                · obtain ⟨j, l1, d1, d1', f1, v', q1, q2, q3, q4, q5⟩ := h2 i ((List.mem_cons.mp m').resolve_left ne)
                  exact ⟨j + 1, l1, d1, d1', f1, v', q1, by rw [List.getElem?_set_ne (Ne.symm ne)]; exact q2, by simpa using q3, by simpa using q4, q5⟩
/-- the frame behind the call -/
theorem rel_back {io : List Bool} {os : List Opd} {vs : List V} {as as' : List Slot} {env3 : MEnv} {H' : Hp} {U Uc : AS} {Bc : AS} (R : Rel W T0 σ H env) (h : ArgsR W T0 σ H env io os vs as) (nd : (inS io os).Nodup) (e : back io os as' env = some env3)
    (k : Keep (Own (vs.map some) (as.map some)) H H') (Rc : Rel ⟨W.K, W.B, Bc⟩ Uc (vs.map some) H' (as'.map some)) (hU : ∀ a, U a → T0 a ∨ H a = none) (dU : ∀ a, U a → Mu H' a) (hT : ∀ a, T0 a → Uc a) (hO : ∀ a, Own σ env a → Uc a) (hUc : ∀ a, U a → Uc a) :
    Rel W U σ H' env3 ∧ Osub env env3 := by
  obtain ⟨h0, h1, h2⟩ := back_spec h nd e
  have sub : Osub env env3 := fun i l d e3 => by
    by_cases m : i ∈ inS io os
    · obtain ⟨j, l1, d1, d1', f1, v', q1, q2, _⟩ := h2 i m
      rw [e3] at q2
      cases q2
      exact ⟨d1, q1⟩
    · rw [h1 i m] at e3
      exact ⟨d, e3⟩
  have ownc : ∀ a, Own (vs.map some) (as.map some) a → ∃ i, i ∈ inS io os ∧ OwnAt σ env i a := fun a ⟨j, o⟩ => by
    obtain ⟨i, a1, a2, a3⟩ := h.own o
    exact ⟨i, mem_inS a1 a2, a3⟩
  have dm : ∀ a, H a ≠ none → ¬ Own (vs.map some) (as.map some) a → H' a ≠ none := fun a t n z => by
    cases q : H a with
    | none => exact t q
    | some o =>
      have := k a o n q
      rw [z] at this; cases this
  -- an owned list is still there: it is the callee's slot
  have there : ∀ a, H a ≠ none → H' a ≠ none := fun a t => by
    by_cases n : Own (vs.map some) (as.map some) a
    · obtain ⟨i, m, ⟨⟨l, d, e1⟩, es⟩⟩ := ownc a n
      obtain ⟨j, l1, d1, d1', f1, v', q1, q2, q3, q4, q5⟩ := h2 i m
      rw [es] at q5
      cases q5
      obtain ⟨u, eu, p, hp, c, _⟩ := Rc.ok j _ (get_map q3)
      have := map_get eu
      rw [q4] at this
      cases this
      cases hp
      exact c.there
    · exact dm a t n
  have M : Move (Tot T0 σ env) (Tot U σ env3) H H' := ⟨fun a o n q => by
    have no : ¬ Own (vs.map some) (as.map some) a := fun z => by
      obtain ⟨i, _, w⟩ := ownc a z
      exact n (.inr ⟨i, w⟩)
    refine ⟨k a o no q, fun z => ?_⟩
    rcases z with z | z
    · rcases hU a z with z | z
      · exact n (.inl z)
      · rw [q] at z; cases z
    · exact n (.inr (sub.own a z))⟩
  refine ⟨⟨h0.trans R.len, dU, fun a t => there a (R.bdom a t), fun i s e3 => ?_, fun i j a hi hj => ?_⟩, sub⟩
  · by_cases m : i ∈ inS io os
    · obtain ⟨j, l, d, d', f, v, q1, q2, q3, q4, q5⟩ := h2 i m
      rw [e3] at q2
      cases q2
      refine ⟨v, q5, ?_⟩
      obtain ⟨u, eu, p, hp, c, _⟩ := Rc.ok j _ (get_map q3)
      have := map_get eu
      rw [q4] at this
      cases this
      obtain ⟨p0, hp0, c0, n0⟩ := slot_get R q5 q1
      rw [hp] at hp0
      cases hp0
      refine ⟨p, hp, c.move (Move.sub fun a z => .inl ?_) (fun _ q => q), fun hl => ⟨fun z => ?_, (n0 hl).2⟩⟩
      · rcases hU p z with z | z
        · exact (n0 hl).1 z
        · exact c0.there z
      · rcases z with z | z
        · exact hUc a z
        · exact hO a (sub.own a z)
    · rw [h1 i m] at e3
      obtain ⟨v, ev, o⟩ := R.ok i s e3
      refine ⟨v, ev, ?_⟩
      cases s with
      | dat d => exact At.move M d v o
      | brd n gs => exact BrdAt.move M o
      | scr ns => exact ScrAt.move M o
      | brds l9 => exact BrdsAt.move M o
      | raw v0 => exact o
      | own l d =>
        obtain ⟨p, rfl, c, n0⟩ := o
        have no : ¬ Own (vs.map some) (as.map some) p := fun z => by
          obtain ⟨i', m', w⟩ := ownc p z
          have := R.inj i i' p ⟨⟨l, d, e3⟩, ev⟩ w
          subst this
          exact m m'
        refine ⟨p, rfl, c.move M (fun o q => k p o no q), fun hl => ⟨fun z => ?_, (n0 hl).2⟩⟩
        rcases hU p z with z | z
        · exact (n0 hl).1 z
        · exact c.there z
  · obtain ⟨⟨l, d, e1⟩, es1⟩ := hi
    obtain ⟨⟨l2, d2, e2⟩, es2⟩ := hj
    obtain ⟨d', e1'⟩ := sub i l d e1
    obtain ⟨d2', e2'⟩ := sub j l2 d2 e2
    exact R.inj i j a ⟨⟨l, d', e1'⟩, es1⟩ ⟨⟨l2, d2', e2'⟩, es2⟩
end
theorem prim_call {W : Wd} {io : List Bool} {n : Nat} {F : Den} {E : XK} : Prim W (fun vs H Q => spF W.K W.B n F vs H Q E) (fCall io n F) := by
  intro T0 σ H env vs os o env' Q ho e k
  unfold fCall at e
  cases e1 : argsOf io os (frzs io os env) with
  | none => simp [e1] at e
  | some args =>
    simp only [e1, Option.bind] at e
    split at e
    · rename_i hnd
      obtain ⟨nd, hl⟩ := hnd
      cases e2 : F args with
      | none => simp [e2] at e
      | some z =>
        obtain ⟨r, args'⟩ := z
        simp only [e2] at e
        split at e
        · rename_i hns
          cases e3 : back io os args' (frzs io os env) with
          | none => simp [e3] at e
          | some env3 =>
            simp only [e3, Option.some.injEq, Prod.mk.injEq] at e
            obtain ⟨rfl, rfl⟩ := e
            obtain ⟨T9, R9, s9, put9⟩ := opdsK_rel ho
            obtain ⟨R2', sb⟩ := frzs_rel (io := io) (os := os) R9
            have R2 : Rel W T0 σ H (frzs io os env) := R2'.less s9
            have A := args_ok (put9 (fun T => Rel W T σ H (frzs io os env)) R2') sb e1
            refine ⟨Tot T0 σ (frzs io os env), args, r, args', call_rel R2 A nd, hl, e2, fun v H' kc sc oc => ?_⟩
            have ownc : ∀ a, Own (vs.map some) (args.map some) a → Own σ env a := fun a ⟨j, o⟩ => by
              obtain ⟨i, _, _, a3⟩ := A.own o
              exact sb.own a ⟨i, a3⟩
            obtain ⟨Tc, Rc, subc, putc⟩ := opdK_rel oc
            have Rc0 := Rc.less subc
            cases r with
            | slot i => cases hns
            | dat d =>
              obtain ⟨R3, s3⟩ := rel_back (U := T0) R2 A nd e3 kc Rc0 (fun a z => .inl z) (fun a z => Rc0.dom a (.inl z)) (fun a z => .inl z) (fun a z => .inr z) (fun a z => .inl z)
              refine k v H' (kc.sub ownc) (sb.trans s3) ⟨At.move (Move.sub fun a z => .inl ?_) d v oc.1, R3⟩
              exact s3.tot a z
            | brd m gs =>
              obtain ⟨R3, s3⟩ := rel_back (U := T0) R2 A nd e3 kc Rc0 (fun a z => .inl z) (fun a z => Rc0.dom a (.inl z)) (fun a z => .inl z) (fun a z => .inr z) (fun a z => .inl z)
              refine k v H' (kc.sub ownc) (sb.trans s3) ⟨BrdAt.move (Move.sub fun a z => .inl ?_) oc.1, R3⟩
              exact s3.tot a z
            | new d =>
              obtain ⟨p, rfl, ⟨n1, n2⟩, c, Rp⟩ := oc
              have hp : H p = none := by
                cases q : H p with
                | none => rfl
                | some u => exact absurd (show domOf H p from fun z => by rw [q] at z; cases z) n2
              obtain ⟨R3, s3⟩ := rel_back (U := T0.or (.one p)) (Uc := (Tot T0 σ (frzs io os env)).or (.one p)) R2 A nd e3 kc Rp (fun a z => z.elim .inl fun q => .inr (by rw [show a = p from q]; exact hp)) (fun a z => z.elim (fun q => Rp.dom a (.inl (.inl q))) fun q => Rp.dom a (.inr q))
                (fun a z => .inl (.inl z)) (fun a z => .inl (.inr z)) (fun a z => z.elim (fun q => .inl (.inl q)) .inr)
              refine k (.ref p) H' (kc.sub ownc) (sb.trans s3) ⟨p, rfl, ⟨fun z => n1 (.inl (s3.tot p z)), fun z => R2.bdom p z hp⟩, c.move (Move.sub fun a z => .inl ?_) (fun _ q => q), R3⟩
              rcases z with (z | z) | z
              · exact .inl (.inl z)
              · exact .inr z
              · exact .inl (.inr (s3.own a z))
        · cases e
    · cases e
end Mx

set_option Elab.async false
set_option autoImplicit false
set_option linter.all false
set_option maxRecDepth 100000
/-! Mx4: what is stored in slots; statements. -/
namespace Mx
open PySem L2
/-! ### operands that are no slots any more -/
def nS (env : MEnv) (i : Nat) : Option (Option Slot) → Option (Opd × MEnv)
  | some (some (.dat d)) => some (.dat d, env)
  | some (some (.own true d)) => some (.dat d, env.set i (some (.dat d)))
  | some (some (.brd n gs)) => some (.brd n gs, env)
  | _ => none
def norm1 : Opd → MEnv → Option (Opd × MEnv)
  | .slot i, env => nS env i env[i]?
  | .dat d, env => some (.dat d, env)
  | .new d, env => some (.new d, env)
  | .brd n gs, env => some (.brd n gs, env)
def norms : List Opd → MEnv → Option (List Opd × MEnv)
  | [], env => some ([], env)
  | o :: os, env => (norm1 o env).bind fun (o', env1) => (norms os env1).bind fun (os', env2) => some (o' :: os', env2)
structure Flat (W : Wd) (T0 T' : AS) (σ : L2.St) (H : Hp) (env : MEnv) (vs : List V) (os : List Opd) : Prop where
  rel : Rel W T' σ H env
  sub : ∀ a, T0 a → T' a
  fin : ∀ (j : Nat) (v : V) (o : Opd), vs[j]? = some v → os[j]? = some o → OpdF W σ H env v o T'
  new : ∀ (j : Nat) (p : Addr) (d : D), vs[j]? = some (.ref p) → os[j]? = some (.new d) → ¬ Tot T0 σ env p ∧ ¬ W.B0 p ∧ T' p
  dist : ∀ (j k : Nat) (p : Addr) (d e : D), j ≠ k → vs[j]? = some (.ref p) → vs[k]? = some (.ref p) → os[j]? = some (.new d) → os[k]? = some (.new e) → False
  len : vs.length = os.length
section
variable {W : Wd} {T0 T' : AS} {σ : L2.St} {H : Hp} {env env1 env2 : MEnv}
theorem norm1_rel {o o' : Opd} (R : Rel W T0 σ H env) (e : norm1 o env = some (o', env1)) : Rel W T0 σ H env1 ∧ Osub env env1 := by
  cases o with
  | dat d => cases e; exact ⟨R, .refl⟩
  | new d => cases e; exact ⟨R, .refl⟩
  | brd n gs => cases e; exact ⟨R, .refl⟩
  | slot i =>
    have e' : nS env i env[i]? = some (o', env1) := e
    unfold nS at e'
    split at e'
    · cases e'; exact ⟨R, .refl⟩
    · rename_i d q
      cases e'
      obtain ⟨u, eu, _⟩ := R.ok i _ q
      obtain ⟨a, b, _⟩ := freeze R eu q
      exact ⟨a, b⟩
    · cases e'; exact ⟨R, .refl⟩
    · cases e'
theorem norms_rel : ∀ {os os' : List Opd} {env env1 : MEnv}, Rel W T0 σ H env → norms os env = some (os', env1) → Rel W T0 σ H env1 ∧ Osub env env1
  | [], _, _, _, R, e => by cases e; exact ⟨R, .refl⟩
  | o :: os, os', env, env1, R, e => by
    unfold norms at e
    cases e1 : norm1 o env with
    | none => simp [e1] at e
    | some z =>
      obtain ⟨o', envA⟩ := z
      cases e2 : norms os envA with
      | none => simp [e1, e2] at e
      | some y =>
        obtain ⟨os2, envB⟩ := y
        simp [e1, e2] at e
        obtain ⟨rfl, rfl⟩ := e
        obtain ⟨r1, s1⟩ := norm1_rel R e1
        obtain ⟨r2, s2⟩ := norms_rel r1 e2
        exact ⟨r2, s1.trans s2⟩
theorem norm1_fin {o o' : Opd} {v : V} (h : OpdF W σ H env v o T0) (s : Osub env env1) (R : Rel W T0 σ H env1) (e : norm1 o env1 = some (o', env2)) : OpdF W σ H env2 v o' T0 := by
  cases o with
  | dat d => cases e; exact At.move (Move.sub s.tot) d v h
  | new d =>
    cases e
    obtain ⟨p, e, t, c⟩ := h
    exact ⟨p, e, t, c.move (Move.sub s.tot) fun _ q => q⟩
  | brd n gs => cases e; exact BrdAt.move (Move.sub s.tot) h
  | slot i =>
    have h' : σ[i]? = some (some v) := h
    have e' : nS env1 i env1[i]? = some (o', env2) := e
    unfold nS at e'
    split at e'
    · rename_i d q
      cases e'
      exact slot_get R h' q
    · rename_i d q
      cases e'
      exact (freeze R h' q).2.2
    · rename_i n gs q
      cases e'
      exact slot_get R h' q
    · cases e'
theorem OpdF.sub {o : Opd} {v : V} (h : OpdF W σ H env v o T0) (s : Osub env env1) : OpdF W σ H env1 v o T0 := by
  cases o with
  | dat d => exact At.move (Move.sub s.tot) d v h
  | new d =>
    obtain ⟨p, e, t, c⟩ := h
    exact ⟨p, e, t, c.move (Move.sub s.tot) fun _ q => q⟩
  | brd n gs => exact BrdAt.move (Move.sub s.tot) h
  | slot i => exact h
theorem norm1_new {o : Opd} {d : D} (e : norm1 o env = some (.new d, env1)) : o = .new d ∧ env1 = env := by
  cases o with
  | dat d' => cases e
  | new d' => cases e; exact ⟨rfl, rfl⟩
  | brd n gs => cases e
  | slot i =>
    have e' : nS env i env[i]? = some (.new d, env1) := e
    unfold nS at e'
    split at e' <;> cases e'
theorem flat_of {P : AS → Prop} : ∀ {os os' : List Opd} {vs : List V} {T0 : AS} {env1 env2 : MEnv} {P : AS → Prop}, OpdsK W σ H env T0 vs os (fun T => P T ∧ Rel W T σ H env1) → Osub env env1 → norms os env1 = some (os', env2) →
    ∃ T', P T' ∧ Flat W T0 T' σ H env2 vs os' ∧ Osub env1 env2
  | [], _, [], T0, env1, env2, P, h, s, e => by
    cases e
    exact ⟨T0, h.1, ⟨h.2, fun _ z => z, fun j v o a => by simp at a, fun j p d a => by simp at a, fun j k p d e _ a => by simp at a, rfl⟩, .refl⟩
  | [], _, _ :: _, _, _, _, _, h, _, _ => h.elim
  | _ :: _, _, [], _, _, _, _, h, _, _ => h.elim
  | o :: os, os', v :: vs, T0, env1, env2, P, h, s, e => by
    unfold norms at e
    cases e1 : norm1 o env1 with
    | none => simp [e1] at e
    | some z =>
      obtain ⟨o1, envA⟩ := z
      cases e2 : norms os envA with
      | none => simp [e1, e2] at e
      | some y =>
        obtain ⟨os2, envB⟩ := y
        simp [e1, e2] at e
        obtain ⟨rfl, rfl⟩ := e
        obtain ⟨T1, h1, s1, put1⟩ := opdK_rel (show OpdK W T0 σ H env v _ o from h)
        have head := put1 (fun T => T = T1) rfl
        have h2 : OpdsK W σ H env T1 vs os (fun T => (P T ∧ OpdF W σ H env v o T ∧ Rel W T σ H env1) ∧ Rel W T σ H envA) := h1.imp fun T z => ⟨⟨z.2.1, z.1, z.2.2⟩, (norm1_rel z.2.2 e1).1⟩
        obtain ⟨T9, r9, _⟩ := opdsK_rel h1
        obtain ⟨_, sA⟩ := norm1_rel r9.2.2 e1
        obtain ⟨T', ⟨p', f', r'⟩, F, sB⟩ := flat_of (P := P) h2 (s.trans sA) e2
        refine ⟨T', p', ⟨F.rel, fun a z => F.sub a (s1 a z), fun j w u ej ek => ?_, fun j p d ej ek => ?_, fun j k p d d2 ne ej ek fj fk => ?_, by simp [F.len]⟩, sA.trans sB⟩
        · cases j with
          | zero =>
            simp at ej ek
            subst ej; subst ek
            exact (norm1_fin f' s r' e1).sub sB
          | succ j => exact F.fin j w u (by simpa using ej) (by simpa using ek)
        · cases j with
          | zero =>
            simp at ej ek
            subst ej; subst ek
            obtain ⟨rfl, rfl⟩ := norm1_new e1
            obtain ⟨q, eq, n, c, rfl⟩ := head
            cases eq
            exact ⟨fun z => n.1 ((s.trans sB).tot _ z), n.2, F.sub _ (.inr rfl)⟩
          | succ j =>
            obtain ⟨a, b, c⟩ := F.new j p d (by simpa using ej) (by simpa using ek)
            exact ⟨fun z => a (z.elim (fun y => .inl (s1 _ y)) .inr), b, c⟩
        · have key : ∀ (j : Nat) (d d2 : D), (v :: vs)[0]? = some (.ref p) → (o1 :: os2)[0]? = some (.new d) → vs[j]? = some (.ref p) → os2[j]? = some (.new d2) → False := fun j d d2 a0 b0 a b => by
            simp at a0 b0
            subst a0; subst b0
            obtain ⟨rfl, rfl⟩ := norm1_new e1
            obtain ⟨q, eq, n, c, rfl⟩ := head
            cases eq
            exact (F.new j p d2 a b).1 (.inl (.inr rfl))
          cases j with
          | zero =>
            cases k with
            | zero => exact ne rfl
            | succ k => exact key k d d2 ej fj (by simpa using ek) (by simpa using fk)
          | succ j =>
            cases k with
            | zero => exact key j d2 d ek fk (by simpa using ej) (by simpa using fj)
            | succ k => exact F.dist j k p d d2 (fun z => ne (by rw [z])) (by simpa using ej) (by simpa using ek) (by simpa using fj) (by simpa using fk)

/-! ### storing -/
def slotOf : Bool → Opd → Option Slot
  | false, .dat d => some (.dat d)
  | false, .new d => some (.dat d)
  | true, .new d => some (.own true d)
  | false, .brd n gs => some (.brd n gs)
  | _, _ => none
def setAll : List (Nat × Bool) → List Opd → MEnv → Option MEnv
  | [], [], env => some env
  | (i, b) :: ts, o :: os, env => if i < env.length ∧ i ∉ ts.map (·.1) then (slotOf b o).bind fun s => setAll ts os (env.set i (some s)) else none
  | _, _, _ => none
def setV : List (Nat × Bool) → List V → L2.St → L2.St
  | (i, _) :: ts, v :: vs, σ => setV ts vs (σ.set i (some v))
  | _, _, σ => σ
theorem setAll_spec : ∀ {ts : List (Nat × Bool)} {os : List Opd} {vs : List V} {env env' : MEnv} {σ : L2.St}, setAll ts os env = some env' → vs.length = os.length → env.length = σ.length →
    env'.length = env.length ∧ (setV ts vs σ).length = σ.length ∧ (∀ i, i ∉ ts.map (·.1) → env'[i]? = env[i]? ∧ (setV ts vs σ)[i]? = σ[i]?) ∧
    ∀ i ∈ ts.map (·.1), ∃ (j : Nat) (b : Bool) (o : Opd) (s : Slot) (v : V), ts[j]? = some (i, b) ∧ os[j]? = some o ∧ slotOf b o = some s ∧ vs[j]? = some v ∧ env'[i]? = some (some s) ∧ (setV ts vs σ)[i]? = some (some v)
  | [], [], vs, env, env', σ, e, hl, _ => by
    cases e
    have q : setV [] vs σ = σ := by cases vs <;> rfl
    rw [q]
    exact ⟨rfl, rfl, fun i _ => ⟨rfl, rfl⟩, fun i m => by simp at m⟩
  | [], _ :: _, _, _, _, _, e, _, _ => by cases e
  | (_, _) :: _, [], _, _, _, _, e, _, _ => by cases e
  | (i0, b) :: ts, o :: os, [], _, _, _, _, hl, _ => by simp at hl
  | (i0, b) :: ts, o :: os, v :: vs, env, env', σ, e, hl, hσ => by
    unfold setAll at e
    split at e
    · rename_i hc
      obtain ⟨hi, hn⟩ := hc
      cases e1 : slotOf b o with
      | none => rw [e1] at e; cases e
      | some s =>
        rw [e1] at e
        have e' : setAll ts os (env.set i0 (some s)) = some env' := e
        have hiσ : i0 < σ.length := by omega
        obtain ⟨a1, a2, a3, a4⟩ := setAll_spec (vs := vs) (σ := σ.set i0 (some v)) e' (by simpa using hl) (by simpa using hσ)
        show _ ∧ (setV ts vs (σ.set i0 (some v))).length = _ ∧ (∀ i, _ → _ ∧ (setV ts vs (σ.set i0 (some v)))[i]? = _) ∧ ∀ i ∈ _, ∃ j b o s' v', _ ∧ _ ∧ _ ∧ _ ∧ _ ∧ (setV ts vs (σ.set i0 (some v)))[i]? = some (some v')
        refine ⟨by rw [a1, List.length_set], by rw [a2, List.length_set], fun i m => ?_, fun i m => ?_⟩
        · have ne : i0 ≠ i := fun z => m (by simp [z])
          obtain ⟨b1, b2⟩ := a3 i fun z => m (by rw [List.map_cons]; exact List.mem_cons_of_mem _ z)
          rw [List.getElem?_set_ne ne] at b1 b2
          exact ⟨b1, b2⟩
        · by_cases ne : i = i0
          · subst ne
            obtain ⟨b1, b2⟩ := a3 i hn
            rw [List.getElem?_set_self hi] at b1
            rw [List.getElem?_set_self hiσ] at b2
            exact ⟨0, b, o, s, v, rfl, rfl, e1, rfl, b1, b2⟩
          · have m' : i ∈ ts.map (·.1) := by
              rw [List.map_cons] at m
              exact (List.mem_cons.mp m).resolve_left ne
            obtain ⟨j, b', o', s', v', q1, q2, q3, q4, q5, q6⟩ := a4 i m'
            exact ⟨j + 1, b', o', s', v', by simpa using q1, by simpa using q2, q3, by simpa using q4, q5, q6⟩
    · cases e
theorem slotOf_own {b : Bool} {o : Opd} {l : Bool} {d : D} (e : slotOf b o = some (.own l d)) : o = .new d ∧ l = true := by
  cases b <;> cases o <;> first | (cases e; exact ⟨rfl, rfl⟩) | cases e
/-- the frame behind the stores -/
theorem set_rel {ts : List (Nat × Bool)} {os : List Opd} {vs : List V} {env' : MEnv} (F : Flat W T0 T' σ H env vs os) (e : setAll ts os env = some env') :
    Rel W T0 (setV ts vs σ) H env' ∧ ∀ (i : Nat) (d : D), env'[i]? = some (some (Slot.own false d)) → (setV ts vs σ)[i]? = σ[i]? ∧ env[i]? = some (some (Slot.own false d)) := by
  obtain ⟨a1, a2, a3, a4⟩ := setAll_spec (vs := vs) (σ := σ) e F.len F.rel.len
  -- whose list it is
  have own : ∀ i a, OwnAt (setV ts vs σ) env' i a → (i ∉ ts.map (·.1) ∧ OwnAt σ env i a) ∨ ∃ (j : Nat) (d : D), ts[j]? = some (i, true) ∧ vs[j]? = some (V.ref a) ∧ os[j]? = some (Opd.new d) := fun i a ⟨⟨l, d, e1⟩, es⟩ => by
    by_cases m : i ∈ ts.map (·.1)
    · obtain ⟨j, b, o, s, v, q1, q2, q3, q4, q5, q6⟩ := a4 i m
      rw [q5] at e1
      cases e1
      rw [q6] at es
      cases es
      obtain ⟨rfl, _⟩ := slotOf_own q3
      cases b with
      | false => cases q3
      | true => exact .inr ⟨j, d, q1, q4, q2⟩
    · obtain ⟨b1, b2⟩ := a3 i m
      rw [b1] at e1
      rw [b2] at es
      exact .inl ⟨m, ⟨l, d, e1⟩, es⟩
  have tot : ∀ a, Tot T0 (setV ts vs σ) env' a → Tot T' σ env a := fun a z => by
    rcases z with z | ⟨i, z⟩
    · exact .inl (F.sub a z)
    · rcases own i a z with ⟨_, w⟩ | ⟨j, d, q1, q2, q3⟩
      · exact .inr ⟨i, w⟩
      · exact .inl (F.new j a d q2 q3).2.2
  have M : Move (Tot T' σ env) (Tot T0 (setV ts vs σ) env') H H := Move.sub tot
  refine ⟨⟨by rw [a1, a2]; exact F.rel.len, fun a z => F.rel.dom a (F.sub a z), F.rel.bdom, fun i s e1 => ?_, fun i j a hi hj => ?_⟩, fun i d e1 => ?_⟩
  · by_cases m : i ∈ ts.map (·.1)
    · obtain ⟨j, b, o, s', v, q1, q2, q3, q4, q5, q6⟩ := a4 i m
      rw [q5] at e1
      cases e1
      refine ⟨v, q6, ?_⟩
      have f := F.fin j v o q4 q2
      cases b with
      | true =>
        cases o with
        | new d =>
          cases q3
          obtain ⟨p, rfl, t, c⟩ := f
          obtain ⟨n1, n2, _⟩ := F.new j p d q4 q2
          exact ⟨p, rfl, c.move M fun _ q => q, fun _ => ⟨fun z => n1 (.inl z), n2⟩⟩
        | dat d => cases q3
        | slot k => cases q3
        | brd n gs => cases q3
      | false =>
        cases o with
        | dat d => cases q3; exact At.move M d v f
        | brd n gs => cases q3; exact BrdAt.move M f
        | slot k => cases q3
        | new d =>
          cases q3
          obtain ⟨p, rfl, t, c⟩ := f
          obtain ⟨n1, n2, _⟩ := F.new j p d q4 q2
          refine (c.move M fun _ q => q).at fun z => ?_
          rcases z with z | ⟨i', z⟩
          · exact n1 (.inl z)
          · rcases own i' p z with ⟨_, w⟩ | ⟨j', d', r1, r2, r3⟩
            · exact n1 (.inr ⟨i', w⟩)
            · by_cases hj : j = j'
              · subst hj
                rw [q1] at r1
                cases r1
              · exact F.dist j j' p d d' hj q4 r2 q2 r3
    · obtain ⟨b1, b2⟩ := a3 i m
      rw [b1] at e1
      obtain ⟨v, ev, o⟩ := F.rel.ok i s e1
      refine ⟨v, b2.trans ev, ?_⟩
      cases s with
      | dat d => exact At.move M d v o
      | brd n gs => exact BrdAt.move M o
      | scr ns => exact ScrAt.move M o
      | brds l9 => exact BrdsAt.move M o
      | raw v0 => exact o
      | own l d =>
        obtain ⟨p, rfl, c, n0⟩ := o
        exact ⟨p, rfl, c.move M fun _ q => q, fun hl => ⟨fun z => (n0 hl).1 (F.sub _ z), (n0 hl).2⟩⟩
  · rcases own i a hi with ⟨m1, w1⟩ | ⟨j1, d1, r1, r2, r3⟩
    · rcases own j a hj with ⟨m2, w2⟩ | ⟨j2, d2, t1, t2, t3⟩
      · exact F.rel.inj i j a w1 w2
      · exact absurd (.inr ⟨i, w1⟩) (F.new j2 a d2 t2 t3).1
    · rcases own j a hj with ⟨m2, w2⟩ | ⟨j2, d2, t1, t2, t3⟩
      · exact absurd (.inr ⟨j, w2⟩) (F.new j1 a d1 r2 r3).1
      · by_cases hj' : j1 = j2
        · subst hj'
          rw [r1] at t1
          cases t1
          rfl
        · exact (F.dist j1 j2 a d1 d2 hj' r2 t2 r3 t3).elim
  · by_cases m : i ∈ ts.map (·.1)
    · obtain ⟨j, b, o, s', v, q1, q2, q3, q4, q5, q6⟩ := a4 i m
      rw [q5] at e1
      cases e1
      obtain ⟨_, z⟩ := slotOf_own q3
      cases z
    · obtain ⟨b1, b2⟩ := a3 i m
      rw [b1] at e1
      exact ⟨b2, e1⟩
end

/-! ### statements -/
inductive Fl where
  | nx | bk | ct
  | rt (o : Opd)
abbrev MS := MEnv → Option (Fl × MEnv)
/-- what a statement leaves as it was -/
structure Stp (W : Wd) (σ : L2.St) (H : Hp) (env : MEnv) (σ' : L2.St) (H' : Hp) (env' : MEnv) : Prop where
  prot : ∀ a o, W.B0 a → ¬ Own σ env a → H a = some o → H' a = some o
  par : ∀ (i : Nat) (d : D), env'[i]? = some (some (Slot.own false d)) → σ'[i]? = σ[i]? ∧ ∃ d', env[i]? = some (some (Slot.own false d'))
theorem Stp.refl {W : Wd} {σ : L2.St} {H : Hp} {env : MEnv} : Stp W σ H env σ H env := ⟨fun _ _ _ _ e => e, fun i d e => ⟨rfl, d, e⟩⟩
theorem Stp.trans {W : Wd} {T0 : AS} {σ σ1 σ2 : L2.St} {H H1 H2 : Hp} {env env1 env2 : MEnv} (a : Stp W σ H env σ1 H1 env1) (R : Rel W T0 σ1 H1 env1) (b : Stp W σ1 H1 env1 σ2 H2 env2) : Stp W σ H env σ2 H2 env2 := by
  refine ⟨fun x o h n e => b.prot x o h (fun ⟨i, ⟨l, d, e1⟩, es⟩ => ?_) (a.prot x o h n e), fun i d e => ?_⟩
  · cases l with
    | false =>
      obtain ⟨q, d', e2⟩ := a.par i d e1
      exact n ⟨i, ⟨false, d', e2⟩, q ▸ es⟩
    | true =>
      obtain ⟨v, ev, p, hp, c, n0⟩ := R.ok i _ e1
      rw [es] at ev
      cases ev
      cases hp
      exact (n0 rfl).2 h
  · obtain ⟨q1, d1, e1⟩ := b.par i d e
    obtain ⟨q2, d2, e2⟩ := a.par i d1 e1
    exact ⟨q1.trans q2, d2, e2⟩
theorem Stp.of {W : Wd} {σ : L2.St} {H H' : Hp} {env env' : MEnv} (k : Keep (Own σ env) H H') (s : Osub env env') : Stp W σ H env σ H' env' := ⟨fun a o _ n e => k a o n e, fun i d e => ⟨rfl, s i false d e⟩⟩
def PostS (W : Wd) (T0 : AS) (σ : L2.St) (H : Hp) (env env' : MEnv) (E : Ends) : Fl → Prop
  | .nx => ∀ σ' H', Stp W σ H env σ' H' env' → Rel W T0 σ' H' env' → E.nx σ' H'
  | .bk => ∀ σ' H', Stp W σ H env σ' H' env' → Rel W T0 σ' H' env' → E.bk σ' H'
  | .ct => ∀ σ' H', Stp W σ H env σ' H' env' → Rel W T0 σ' H' env' → E.ct σ' H'
  | .rt o => ∀ σ' H' v, Stp W σ H env σ' H' env' → OpdK W T0 σ' H' env' v (fun T => Rel W T σ' H' env') o → E.rt v H'
theorem PostS.from {W : Wd} {T0 : AS} {σ σ1 : L2.St} {H H1 : Hp} {env env1 env' : MEnv} {E : Ends} {f : Fl} (h : PostS W T0 σ H env env' E f) (a : Stp W σ H env σ1 H1 env1) (R : Rel W T0 σ1 H1 env1) : PostS W T0 σ1 H1 env1 env' E f := by
  cases f with
  | nx => exact fun σ' H' b r => h σ' H' (a.trans R b) r
  | bk => exact fun σ' H' b r => h σ' H' (a.trans R b) r
  | ct => exact fun σ' H' b r => h σ' H' (a.trans R b) r
  | rt o => exact fun σ' H' v b r => h σ' H' v (a.trans R b) r
def tS (W : Wd) (m : MS) : TS := fun E σ H => ∃ T0 env f env', Rel W T0 σ H env ∧ m env = some (f, env') ∧ PostS W T0 σ H env env' E f
structure PMS (W : Wd) (X : Cx) (st : Stmt) (m : MS) : Prop where
  ps : ∀ B0, PS X st (tS (W.at B0) m)
structure PMB (W : Wd) (X : Cx) (st : List Stmt) (m : MS) : Prop where
  ps : ∀ B0, PSs X st (tS (W.at B0) m)
theorem PS.imp {X : Cx} {e : Stmt} {t t' : TS} (h : PS X e t) (k : ∀ E σ H, t' E σ H → t E σ H) : PS X e t' := ⟨fun pins s σ H D I q => h.run pins s σ H D I (k D σ H q)⟩
theorem PSs.imp {X : Cx} {e : List Stmt} {t t' : TS} (h : PSs X e t) (k : ∀ E σ H, t' E σ H → t E σ H) : PSs X e t' := ⟨fun pins s σ H D I q => h.run pins s σ H D I (k D σ H q)⟩
def mNext : MS := fun env => some (.nx, env)
def mSeq (m n : MS) : MS := fun env => (m env).bind fun (f, env1) => match f with
  | .nx => n env1
  | f => some (f, env1)
section
variable {W : Wd} {X : Cx} {st : Stmt} {rest : List Stmt} {m n : MS} {e : Expr} {me : MX} {pos : Pos}
theorem pmb_nil : PMB W X [] mNext := ⟨fun B0 => PSs.imp pss_nil fun E σ H ⟨T0, env, f, env', R, e, k⟩ => by
  cases e
  exact k σ H Stp.refl R⟩
theorem seq_split {E : Ends} {σ : L2.St} {H : Hp} (h : tS W (mSeq m n) E σ H) : tSeq (tS W m) (tS W n) E σ H := by
  obtain ⟨T0, env, f, env', R, e, k⟩ := h
  unfold mSeq at e
  cases e1 : m env with
  | none => simp [e1] at e
  | some z =>
    obtain ⟨f1, env1⟩ := z
    refine ⟨T0, env, f1, env1, R, e1, ?_⟩
    cases f1 with
    | nx =>
      simp only [e1, Option.bind] at e
      exact fun σ1 H1 a R1 => ⟨T0, env1, f, env', R1, e, k.from a R1⟩
    | bk => simp [e1] at e; obtain ⟨rfl, rfl⟩ := e; exact k
    | ct => simp [e1] at e; obtain ⟨rfl, rfl⟩ := e; exact k
    | rt o => simp [e1] at e; obtain ⟨rfl, rfl⟩ := e; exact k
theorem pmb_cons (h : PMS W X st m) (k : PMB W X rest n) : PMB W X (st :: rest) (mSeq m n) := ⟨fun B0 => PSs.imp (pss_cons (h.ps B0) (k.ps B0)) fun _ _ _ h => seq_split h⟩
theorem pmb_one (h : PMS W X st m) : PMB W X [st] m := ⟨fun B0 => pss_one (h.ps B0)⟩
def mPass : MS := mNext
theorem pms_pass : PMS W X (.Pass pos) mNext := ⟨fun B0 => PS.imp ps_pass fun E σ H ⟨T0, env, f, env', R, e, k⟩ => by
  cases e
  exact k σ H Stp.refl R⟩
theorem pms_break : PMS W X (.Break pos) (fun env => some (.bk, env)) := ⟨fun B0 => PS.imp ps_break fun E σ H ⟨T0, env, f, env', R, e, k⟩ => by
  cases e
  exact k σ H Stp.refl R⟩
theorem pms_doc {x j p p'} : PMS W X (.Expr (.Constant (.str x) j p) p') mNext := ⟨fun B0 => PS.imp ps_doc fun E σ H ⟨T0, env, f, env', R, e, k⟩ => by
  cases e
  exact k σ H Stp.refl R⟩
/-- an expression as a statement -/
def mExpr (me : MX) : MS := fun env => (me env).bind fun (_, env1) => some (.nx, env1)
theorem opdK_base {T0 : AS} {σ : L2.St} {H : Hp} {env env' : MEnv} {v : V} {o : Opd} (h : OpdK W T0 σ H env v (fun T => Rel W T σ H env') o) : Rel W T0 σ H env' := by
  obtain ⟨T1, r, s, _⟩ := opdK_rel h
  exact r.less s
theorem pms_expr (h : PM W X e me) (hs : swapsWith e none pos.line X.env = pure false := by rfl) : PMS W X (.Expr e pos) (mExpr me) := ⟨fun B0 => PS.imp (ps_expr (h.pe B0) hs) fun E σ H ⟨T0, env, f, env', R, e, k⟩ => by
  unfold mExpr at e
  cases e1 : me env with
  | none => simp [e1] at e
  | some z =>
    obtain ⟨o, env1⟩ := z
    simp [e1] at e
    obtain ⟨rfl, rfl⟩ := e
    exact ⟨T0, env, o, env1, R, e1, fun v H1 k1 s1 o1 => k σ H1 (Stp.of k1 s1) (opdK_base o1)⟩⟩
/-- return e -/
def rS (env : MEnv) (i : Nat) : Option (Option Slot) → Option (Opd × MEnv)
  | some (some (.dat d)) => some (.dat d, env)
  | some (some (.own true d)) => some (.new d, env.set i none)
  | some (some (.brd n gs)) => some (.brd n gs, env)
  | _ => none
def ret1 : Opd → MEnv → Option (Opd × MEnv)
  | .slot i, env => rS env i env[i]?
  | .dat d, env => some (.dat d, env)
  | .new d, env => some (.new d, env)
  | .brd n gs, env => some (.brd n gs, env)
def mRet (me : MX) : MS := fun env => (me env).bind fun (o, env1) => (ret1 o env1).bind fun (o', env2) => some (.rt o', env2)
theorem let_go {T0 : AS} {σ : L2.St} {H : Hp} {env : MEnv} {i : Nat} {v : V} {d : D} (Rl : Rel W T0 σ H env) (hv : σ[i]? = some (some v)) (e : env[i]? = some (some (.own true d))) :
    OpdK W T0 σ H (env.set i none) v (fun T => Rel W T σ H (env.set i none)) (.new d) ∧ Osub env (env.set i none) := by
  have hi : i < env.length := (List.getElem?_eq_some_iff.mp e).1
  have sub : Osub env (env.set i none) := fun j l d' h => by
    by_cases hj : j = i
    · subst hj
      rw [List.getElem?_set_self hi] at h
      cases h
    · rw [List.getElem?_set_ne (Ne.symm hj)] at h
      exact ⟨d', h⟩
  obtain ⟨p, rfl, c, n⟩ := slot_get Rl hv e
  have np : ¬ Own σ (env.set i none) p := by
    rintro ⟨j, ⟨l, d', ej⟩, es⟩
    have hj : j ≠ i := by
      rintro rfl
      rw [List.getElem?_set_self hi] at ej
      cases ej
    rw [List.getElem?_set_ne (Ne.symm hj)] at ej
    exact hj (Rl.inj j i p ⟨⟨l, d', ej⟩, es⟩ ⟨⟨true, d, e⟩, hv⟩)
  have M : Move (Tot T0 σ env) (Tot (T0.or (.one p)) σ (env.set i none)) H H := Move.sub fun a z => by
    rcases z with (z | z) | z
    · exact .inl z
    · rw [show a = p from z]
      exact .inr ⟨i, ⟨true, d, e⟩, hv⟩
    · exact .inr (sub.own a z)
  refine ⟨⟨p, rfl, ⟨fun z => z.elim (n rfl).1 np, (n rfl).2⟩, c.move M fun _ q => q, ⟨by rw [List.length_set]; exact Rl.len, fun a z => ?_, Rl.bdom, fun j s h => ?_, fun j k a hj hk => ?_⟩⟩, sub⟩
  · rcases z with z | z
    · exact Rl.dom a z
    · rw [show a = p from z]
      exact Cont.mu c
  · have hj : j ≠ i := by
      rintro rfl
      rw [List.getElem?_set_self hi] at h
      cases h
    rw [List.getElem?_set_ne (Ne.symm hj)] at h
    obtain ⟨u, eu, k⟩ := Rl.ok j s h
    refine ⟨u, eu, ?_⟩
    cases s with
    | dat d' => exact At.move M d' u k
    | brd n gs => exact BrdAt.move M k
    | scr ns => exact ScrAt.move M k
    | brds l9 => exact BrdsAt.move M k
    | raw v0 => exact k
    | own l d' =>
      obtain ⟨q, rfl, c1, n1⟩ := k
      refine ⟨q, rfl, c1.move M fun _ q => q, fun hl => ⟨fun z => ?_, (n1 hl).2⟩⟩
      rcases z with z | z
      · exact (n1 hl).1 z
      · have z' : q = p := z
        subst z'
        exact hj (Rl.inj j i q ⟨⟨l, d', h⟩, eu⟩ ⟨⟨true, d, e⟩, hv⟩)
  · obtain ⟨⟨l, d1, e1⟩, es1⟩ := hj
    obtain ⟨⟨l2, d2, e2⟩, es2⟩ := hk
    obtain ⟨d1', e1'⟩ := sub j l d1 e1
    obtain ⟨d2', e2'⟩ := sub k l2 d2 e2
    exact Rl.inj j k a ⟨⟨l, d1', e1'⟩, es1⟩ ⟨⟨l2, d2', e2'⟩, es2⟩
theorem ret1_ok {T0 : AS} {σ : L2.St} {H : Hp} {env env1 : MEnv} {v : V} {o o' : Opd} (h : OpdK W T0 σ H env v (fun T => Rel W T σ H env) o) (e : ret1 o env = some (o', env1)) :
    OpdK W T0 σ H env1 v (fun T => Rel W T σ H env1) o' ∧ Osub env env1 := by
  cases o with
  | dat d => cases e; exact ⟨h, .refl⟩
  | new d => cases e; exact ⟨h, .refl⟩
  | brd n gs => cases e; exact ⟨h, .refl⟩
  | slot i =>
    obtain ⟨hv, Rl⟩ := h
    have e' : rS env i env[i]? = some (o', env1) := e
    unfold rS at e'
    split at e'
    · rename_i d q
      cases e'
      exact ⟨⟨slot_get Rl hv q, Rl⟩, .refl⟩
    · rename_i d q
      cases e'
      exact let_go Rl hv q
    · rename_i n gs q
      cases e'
      exact ⟨⟨slot_get Rl hv q, Rl⟩, .refl⟩
    · cases e'
theorem pms_ret (h : PM W X e me) : PMS W X (.Return (some e) pos) (mRet me) := ⟨fun B0 => PS.imp (ps_ret (h.pe B0)) fun E σ H ⟨T0, env, f, env', R, e, k⟩ => by
  unfold mRet at e
  cases e1 : me env with
  | none => simp [e1] at e
  | some z =>
    obtain ⟨o, env1⟩ := z
    cases e2 : ret1 o env1 with
    | none => simp [e1, e2] at e
    | some y =>
      obtain ⟨o', env2⟩ := y
      simp [e1, e2] at e
      obtain ⟨rfl, rfl⟩ := e
      refine ⟨T0, env, o, env1, R, e1, fun v H1 k1 s1 o1 => ?_⟩
      obtain ⟨o2, s2⟩ := ret1_ok o1 e2
      exact k σ H1 v (Stp.of k1 (s1.trans s2)) o2⟩
/-- if -/
def mSIf (t : MT) (m n : MS) : MS := fun env => (t env).bind fun (b, env1) => if b = true then m env1 else n env1
theorem pms_if {c : Expr} {a b : List Stmt} {tc : MT} (ht : PMT W X c tc) (ha : PMB W X a m) (hb : PMB W X b n) : PMS W X (.If c a b pos) (mSIf tc m n) := ⟨fun B0 => PS.imp (ps_if (ht.pt B0) (ha.ps B0) (hb.ps B0)) fun E σ H ⟨T0, env, f, env', R, e, k⟩ => by
  unfold mSIf at e
  cases e1 : tc env with
  | none => simp [e1] at e
  | some z =>
    obtain ⟨b1, env1⟩ := z
    simp only [e1, Option.bind] at e
    refine ⟨T0, env, b1, env1, R, e1, fun H1 k1 s1 R1 => ?_⟩
    cases b1 with
    | true =>
      rw [if_pos rfl] at e ⊢
      exact ⟨T0, env1, f, env', R1, e, k.from (Stp.of k1 s1) R1⟩
    | false =>
      rw [if_neg Bool.false_ne_true] at e ⊢
      exact ⟨T0, env1, f, env', R1, e, k.from (Stp.of k1 s1) R1⟩⟩
/-- x = e; b: the slot comes to own its list -/
def mSet (i : Nat) (b : Bool) (me : MX) : MS := fun env => (me env).bind fun (o, env1) => (norms [o] env1).bind fun (os, env2) => (setAll [(i, b)] os env2).bind fun env3 => some (.nx, env3)
theorem opds_one {T0 : AS} {σ : L2.St} {H : Hp} {env : MEnv} {v : V} {o : Opd} (h : OpdK W T0 σ H env v (fun T => Rel W T σ H env) o) : OpdsK W σ H env T0 [v] [o] (fun T => True ∧ Rel W T σ H env) := by
  obtain ⟨T1, r, s, put⟩ := opdK_rel h
  obtain ⟨_, f⟩ := opdK_back (put (fun T => T = T1) rfl)
  exact put _ ⟨f, trivial, r⟩
theorem pms_set {i : Nat} {b : Bool} {x : Str} {pos' : Pos} (hN : X.N.Nodup) (hi : X.N[i]? = some x) (hx : Loc X.env.scope x) (he : PM W X e me) (hs : swapsWith e (some (.Name x pos')) pos.line X.env = pure false := by rfl) (hf : X.fn x = true ∨ X.env.scope.names.lookup x = some .local := by first | exact .inl rfl | exact .inr rfl | assumption) :
    PMS W X (.Assign [.Name x pos'] e pos) (mSet i b me) := ⟨fun B0 => PS.imp (ps_set hN hi hx (he.pe B0) hs hf) fun E σ H ⟨T0, env, f, env', R, e, k⟩ => by
  unfold mSet at e
  cases e1 : me env with
  | none => simp [e1] at e
  | some z =>
    obtain ⟨o, env1⟩ := z
    cases e2 : norms [o] env1 with
    | none => simp [e1, e2] at e
    | some y =>
      obtain ⟨os, env2⟩ := y
      cases e3 : setAll [(i, b)] os env2 with
      | none => simp [e1, e2, e3] at e
      | some env3 =>
        simp [e1, e2, e3] at e
        obtain ⟨rfl, rfl⟩ := e
        refine ⟨T0, env, o, env1, R, e1, fun v H1 k1 s1 o1 => ?_⟩
        obtain ⟨T', _, F, s2⟩ := flat_of (P := fun _ => True) (opds_one o1) Osub.refl e2
        obtain ⟨R3, par⟩ := set_rel F e3
        exact k _ H1 ⟨fun a u _ n q => k1 a u n q, fun j d q => by
          obtain ⟨q1, q2⟩ := par j d q
          exact ⟨q1, (s1.trans s2) j false d q2⟩⟩ R3⟩
end
end Mx

set_option Elab.async false
set_option autoImplicit false
set_option linter.all false
set_option maxRecDepth 100000
/-! Mx5: a def by its body, the call of a def. -/
namespace Mx
open PySem PySem.Spec PyProof.Rows L2
def resP : List Slot → MEnv → Option (List Slot)
  | [], _ => some []
  | .own false _ :: as, some (.own false d) :: es => (resP as es).bind fun rs => some (.own false d :: rs)
  | .dat d :: as, _ :: es => (resP as es).bind fun rs => some (.dat d :: rs)
  | .brd n gs :: as, _ :: es => (resP as es).bind fun rs => some (.brd n gs :: rs)
  | .scr ns :: as, _ :: es => (resP as es).bind fun rs => some (.scr ns :: rs)
  | .brds l :: as, _ :: es => (resP as es).bind fun rs => some (.brds l :: rs)
  | _, _ => none
/-- what a body does to its arguments; m more slots -/
def denOf (m : Nat) (ms : MS) : Den := fun args => (ms (args.map some ++ List.replicate m none)).bind fun (f, env) => match f with
  | .rt o => if noSlot o = true then (resP args env).bind fun args' => some (o, args') else none
  | .nx => (resP args env).bind fun args' => some (.dat .none, args')
  | _ => none
theorem resP_at : ∀ {as as' : List Slot} {es : MEnv}, resP as es = some as' → as'.length = as.length ∧ ∀ (j : Nat) (s : Slot), as'[j]? = some s →
    (∃ d d', as[j]? = some (Slot.own false d) ∧ s = Slot.own false d' ∧ es[j]? = some (some (Slot.own false d'))) ∨ (as[j]? = some s ∧ ∀ l d, s ≠ Slot.own l d)
  | [], as', es, e => by cases es <;> cases e <;> exact ⟨rfl, fun j s h => by simp at h⟩
  | a :: as, as', [], e => by
    cases a with
    | own l d => cases l <;> cases e
    | dat d => cases e
    | brd n gs => cases e
    | scr ns => cases e
    | brds l9 => cases e
    | raw v0 => cases e
  | a :: as, as', x :: es, e => by
    have go : ∀ (s0 : Slot) (rs : List Slot), resP as es = some rs → as' = s0 :: rs → ((∃ d d', a = Slot.own false d ∧ s0 = Slot.own false d' ∧ x = some (Slot.own false d')) ∨ (a = s0 ∧ ∀ l d, s0 ≠ Slot.own l d)) →
        as'.length = (a :: as).length ∧ ∀ (j : Nat) (s : Slot), as'[j]? = some s →
          (∃ d d', (a :: as)[j]? = some (Slot.own false d) ∧ s = Slot.own false d' ∧ (x :: es)[j]? = some (some (Slot.own false d'))) ∨ ((a :: as)[j]? = some s ∧ ∀ l d, s ≠ Slot.own l d) := by
      rintro s0 rs h rfl hs
      obtain ⟨l1, l2⟩ := resP_at h
      refine ⟨by simp [l1], fun j s hj => ?_⟩
      cases j with
      | zero =>
        simp at hj
        subst hj
        rcases hs with ⟨d, d', rfl, rfl, rfl⟩ | ⟨rfl, n⟩
        · exact .inl ⟨d, d', rfl, rfl, rfl⟩
        · exact .inr ⟨rfl, n⟩
      | succ j =>
        rcases l2 j s (by simpa using hj) with ⟨d, d', q1, q2, q3⟩ | ⟨q1, q2⟩
        · exact .inl ⟨d, d', by simpa using q1, q2, by simpa using q3⟩
        · exact .inr ⟨by simpa using q1, q2⟩
    cases a with
    | own l d =>
      cases l with
      | true => cases e
      | false =>
        cases x with
        | none => cases e
        | some y =>
          cases y with
          | own l' d' =>
            cases l' with
            | true => cases e
            | false =>
              have e' : ((resP as es).bind fun rs => some (Slot.own false d' :: rs)) = some as' := e
              cases q : resP as es with
              | none => rw [q] at e'; cases e'
              | some rs => rw [q] at e'; cases e'; exact go _ rs q rfl (.inl ⟨d, d', rfl, rfl, rfl⟩)
          | dat d' => cases e
          | brd n gs => cases e
          | scr ns => cases e
          | brds l9 => cases e
          | raw v0 => cases e
    | dat d =>
      have e' : ((resP as es).bind fun rs => some (Slot.dat d :: rs)) = some as' := e
      cases q : resP as es with
      | none => rw [q] at e'; cases e'
      | some rs => rw [q] at e'; cases e'; exact go _ rs q rfl (.inr ⟨rfl, fun _ _ z => nomatch z⟩)
    | brd n gs =>
      have e' : ((resP as es).bind fun rs => some (Slot.brd n gs :: rs)) = some as' := e
      cases q : resP as es with
      | none => rw [q] at e'; cases e'
      | some rs => rw [q] at e'; cases e'; exact go _ rs q rfl (.inr ⟨rfl, fun _ _ z => nomatch z⟩)
    | scr ns =>
      have e' : ((resP as es).bind fun rs => some (Slot.scr ns :: rs)) = some as' := e
      cases q : resP as es with
      | none => rw [q] at e'; cases e'
      | some rs => rw [q] at e'; cases e'; exact go _ rs q rfl (.inr ⟨rfl, fun _ _ z => nomatch z⟩)
    | brds l9 =>
      have e' : ((resP as es).bind fun rs => some (Slot.brds l9 :: rs)) = some as' := e
      cases q : resP as es with
      | none => rw [q] at e'; cases e'
      | some rs => rw [q] at e'; cases e'; exact go _ rs q rfl (.inr ⟨rfl, fun _ _ z => nomatch z⟩)
    | raw v0 => cases e

theorem pad_get {α : Type} {l : List α} {m i : Nat} {s : α} (e : (l.map some ++ List.replicate m none)[i]? = some (some s)) : l[i]? = some s := by
  by_cases h : i < l.length
  · rw [List.getElem?_append_left (by simpa using h)] at e
    exact map_get e
  · rw [List.getElem?_append_right (by simpa using Nat.le_of_not_lt h), List.getElem?_replicate] at e
    split at e <;> cases e
theorem get_pad {α : Type} {l : List α} {m i : Nat} {s : α} (e : l[i]? = some s) : (l.map some ++ List.replicate m none)[i]? = some (some s) := by
  have h := (List.getElem?_eq_some_iff.mp e).1
  rw [List.getElem?_append_left (by simpa using h)]
  exact get_map e
section
variable {W : Wd} {T0 : AS} {H : Hp} {vs : List V} {args : List Slot}
theorem own_pad {m m' i : Nat} {a : Addr} : OwnAt (vs.map some ++ List.replicate m none) (args.map some ++ List.replicate m' none) i a ↔ OwnAt (vs.map some) (args.map some) i a := by
  constructor
  · rintro ⟨⟨l, d, e⟩, es⟩
    exact ⟨⟨l, d, get_map (pad_get e)⟩, get_map (pad_get es)⟩
  · rintro ⟨⟨l, d, e⟩, es⟩
    exact ⟨⟨l, d, get_pad (map_get e)⟩, get_pad (map_get es)⟩
theorem rel_pad {m : Nat} (R : Rel W T0 (vs.map some) H (args.map some)) : Rel W T0 (vs.map some ++ List.replicate m none) H (args.map some ++ List.replicate m none) := by
  have M : Move (Tot T0 (vs.map some) (args.map some)) (Tot T0 (vs.map some ++ List.replicate m none) (args.map some ++ List.replicate m none)) H H := Move.sub fun a z => z.elim .inl fun ⟨i, o⟩ => .inr ⟨i, own_pad.mp o⟩
  refine ⟨by have := R.len; simp at this ⊢; exact this, R.dom, R.bdom, fun i s e => ?_, fun i j a hi hj => R.inj i j a (own_pad.mp hi) (own_pad.mp hj)⟩
  obtain ⟨v, ev, o⟩ := R.ok i s (get_map (pad_get e))
  refine ⟨v, get_pad (map_get ev), ?_⟩
  cases s with
  | dat d => exact At.move M d v o
  | brd n gs => exact BrdAt.move M o
  | scr ns => exact ScrAt.move M o
  | brds l9 => exact BrdsAt.move M o
  | raw v0 => exact o
  | own l d => obtain ⟨p, rfl, c, n⟩ := o; exact ⟨p, rfl, c.move M fun _ q => q, n⟩
/-- the arguments behind the body -/
theorem rel_args {m : Nat} {U : AS} {σ' : L2.St} {H' : Hp} {env' : MEnv} {args' : List Slot} (R : Rel W T0 (vs.map some) H (args.map some)) (S : Stp W (vs.map some ++ List.replicate m none) H (args.map some ++ List.replicate m none) σ' H' env')
    (hB : ∀ a, H a ≠ none → W.B0 a) (R' : Rel W U σ' H' env') (e : resP args env' = some args') (hU : ∀ a, U a → T0 a ∨ H a = none) :
    Keep (Own (vs.map some) (args.map some)) H H' ∧ Osub (args.map some) (args'.map some) ∧ Rel W U (vs.map some) H' (args'.map some) ∧ ∀ a, Own (vs.map some) (args'.map some) a → Own σ' env' a := by
  obtain ⟨hl, ha⟩ := resP_at e
  have kp : Keep (Own (vs.map some) (args.map some)) H H' := fun a o n q => S.prot a o (hB a (by rw [q]; exact fun z => nomatch z)) (fun ⟨i, w⟩ => n ⟨i, own_pad.mp w⟩) q
  have sub : Osub (args.map some) (args'.map some) := fun i l d q => by
    rcases ha i _ (map_get q) with ⟨d0, d', q1, q2, q3⟩ | ⟨q1, q2⟩
    · cases q2
      exact ⟨d0, get_map q1⟩
    · exact absurd rfl (q2 l d)
  have own : ∀ i a, OwnAt (vs.map some) (args'.map some) i a → OwnAt σ' env' i a := fun i a ⟨⟨l, d, q⟩, es⟩ => by
    rcases ha i _ (map_get q) with ⟨d0, d', q1, q2, q3⟩ | ⟨q1, q2⟩
    · obtain ⟨p1, _⟩ := S.par i d' q3
      exact ⟨⟨false, d', q3⟩, p1.trans (get_pad (map_get es))⟩
    · exact absurd rfl (q2 l d)
  have M : Move (Tot T0 (vs.map some) (args.map some)) (Tot U (vs.map some) (args'.map some)) H H' := ⟨fun a o n q => ⟨kp a o (fun z => n (.inr z)) q, fun z => by
    rcases z with z | z
    · rcases hU a z with y | y
      · exact n (.inl y)
      · rw [q] at y; cases y
    · exact n (.inr (sub.own a z))⟩⟩
  have M2 : Move (Tot U σ' env') (Tot U (vs.map some) (args'.map some)) H' H' := Move.sub fun a z => z.elim .inl fun ⟨i, w⟩ => .inr ⟨i, own i a w⟩
  refine ⟨kp, sub, ⟨?_, R'.dom, R'.bdom, fun i s q => ?_, fun i j a hi hj => R'.inj i j a (own i a hi) (own j a hj)⟩, fun a ⟨i, w⟩ => ⟨i, own i a w⟩⟩
  · have := R.len
    simp at this ⊢
    omega
  · rcases ha i s (map_get q) with ⟨d0, d', q1, rfl, q3⟩ | ⟨q1, q2⟩
    · obtain ⟨p1, _⟩ := S.par i d' q3
      obtain ⟨v, ev, p, hp, c, n⟩ := R'.ok i _ q3
      obtain ⟨v0, ev0, _⟩ := R.ok i _ (get_map q1)
      have w : σ'[i]? = some (some v0) := p1.trans (get_pad (map_get ev0))
      rw [ev] at w
      cases w
      exact ⟨v, ev0, p, hp, c.move M2 fun _ q => q, fun z => nomatch z⟩
    · obtain ⟨v, ev, o⟩ := R.ok i s (get_map q1)
      refine ⟨v, ev, ?_⟩
      cases s with
      | dat d => exact At.move M d v o
      | brd n gs => exact BrdAt.move M o
      | scr ns => exact ScrAt.move M o
      | brds l9 => exact BrdsAt.move M o
      | raw v0 => exact o
      | own l d => exact absurd rfl (q2 l d)
end
/-- a body that does ms keeps the promise -/
theorem body_ok {K : PySem.W.Frag} {B : Addr} {n m : Nat} {ms : MS} {N : List Str} {vs : List V} {H : Hp} {Q : VK} {E : XK} (h : spF K B n (denOf m ms) vs H Q E) (hN : N.length = n + m) :
    tS ⟨K, B, domOf H⟩ ms { nx := fun _ H' => Q .non H', rt := Q } (L2.start N vs) H := by
  obtain ⟨T0, args, r, args', R, hl, hF, k⟩ := h
  have hv : vs.length = n := by
    have := R.len
    simp at this
    omega
  have hs : L2.start N vs = vs.map some ++ List.replicate m none := by
    unfold L2.start
    rw [hN, hv, Nat.add_sub_cancel_left]
  rw [hs]
  unfold denOf at hF
  cases e1 : ms (args.map some ++ List.replicate m none) with
  | none => rw [e1] at hF; cases hF
  | some z =>
    obtain ⟨f, env'⟩ := z
    rw [e1] at hF
    refine ⟨T0, _, f, env', rel_pad R, e1, ?_⟩
    have hB : ∀ a, H a ≠ none → (⟨K, B, domOf H⟩ : Wd).B0 a := fun a z => z
    cases f with
    | bk => cases hF
    | ct => cases hF
    | nx =>
      cases e2 : resP args env' with
      | none => simp [e2] at hF
      | some as =>
        simp [e2] at hF
        obtain ⟨rfl, rfl⟩ := hF
        intro σ' H' S R'
        obtain ⟨kp, sub, R2, _⟩ := rel_args R S hB R' e2 fun a z => .inl z
        exact k .non H' kp sub ⟨.non, R2⟩
    | rt o =>
      have hF' : (if noSlot o = true then (resP args env').bind fun args' => some (o, args') else none) = some (r, args') := hF
      split at hF'
      · rename_i hns
        cases e2 : resP args env' with
        | none => simp [e2] at hF'
        | some as =>
          simp [e2] at hF'
          obtain ⟨rfl, rfl⟩ := hF'
          intro σ' H' v S o'
          cases o with
          | slot i => cases hns
          | dat d =>
            obtain ⟨kp, sub, R2, ow⟩ := rel_args R S hB o'.2 e2 fun a z => .inl z
            exact k v H' kp sub ⟨At.move (Move.sub fun a z => z.elim .inl fun y => .inr (ow a y)) d v o'.1, R2⟩
          | brd g gs =>
            obtain ⟨kp, sub, R2, ow⟩ := rel_args R S hB o'.2 e2 fun a z => .inl z
            exact k v H' kp sub ⟨BrdAt.move (Move.sub fun a z => z.elim .inl fun y => .inr (ow a y)) o'.1, R2⟩
          | new d =>
            obtain ⟨p, rfl, ⟨n1, n2⟩, c, Rp⟩ := o'
            have hp : H p = none := by
              cases q : H p with
              | none => rfl
              | some u => exact absurd (hB p (by rw [q]; exact fun z => nomatch z)) n2
            obtain ⟨kp, sub, R2, ow⟩ := rel_args R S hB Rp e2 fun a z => z.elim .inl fun q => .inr (by rw [show a = p from q]; exact hp)
            refine k (.ref p) H' kp sub ⟨p, rfl, ⟨fun z => n1 (z.elim .inl fun y => .inr (ow p y)), n2⟩, c.move (Move.sub fun a z => ?_) (fun _ q => q), R2⟩
            rcases z with z | z
            · exact .inl z
            · exact .inr (ow a z)
      · cases hF'
section
variable {P : Program} {w : World} {K : PySem.W.Frag} {mg : Str → Option Value} {base : Heap} {B : Addr}
/-- a def of the text: its body does ms -/
theorem fn_mk {x qual : Str} {st : Stmt} {f : Addr} {fd : FuncData} {N ps : List Str} {k n m : Nat} {ms : MS} (F : Fun K x qual st f fd) (S : FnScope N ps (defScope st)) (hn : ps.length = n) (hN : N.length = n + m)
    (hb : ∀ (cdv : Value) (A : Around) (outer : List Env) (s : Shared) (H : Hp) (E : XK), Room k (A.deeper (envOfC qual (defScope st) s.heap.objs.size f cdv)) →
      PMB ⟨K, B, AS.emp⟩ (cxOf CX0 P w K mg base N qual (defScope st) f cdv A outer s H E).nox (defBody st) ms) : FnOk P w K mg base CX0 (k + 1) f fd ps (spF K B n (denOf m ms)) := by
  refine F.ok S (fun vs H Q E h => (spF_len h).trans hn.symm) fun cdv A outer s H vs Q E hr h => ?_
  exact ⟨_, (hb cdv A outer s H E hr).ps (domOf H), body_ok h hN⟩
theorem sp_ext {n : Nat} {F G : Den} (h : ∀ args r, args.length = n → G args = some r → F args = some r) (vs : List V) (H : Hp) (Q : VK) (E : XK) (q : spF K B n G vs H Q E) : spF K B n F vs H Q E := by
  obtain ⟨T0, args, r, args', R, hl, e, k⟩ := q
  exact ⟨T0, args, r, args', R, hl, h args _ hl e, k⟩
/-- .. with the function said in another way -/
theorem fn_to {f : Addr} {fd : FuncData} {ps : List Str} {k n : Nat} {F G : Den} (h : FnOk P w K mg base CX0 k f fd ps (spF K B n F)) (e : ∀ args r, args.length = n → G args = some r → F args = some r) : FnOk P w K mg base CX0 k f fd ps (spF K B n G) :=
  h.imp fun vs H Q E q => sp_ext e vs H Q E q
end

/-! ### calls -/
/-- f, called with values, keeps sp -/
def Callee (X : Cx) (f : Addr) (sp : Sp) : Prop := ∀ (pins : List (Addr × Obj)) (σ : L2.St) (H : Hp) (s : Shared) (Q : VK) (us : List Value) (vs : List V), Inv X pins σ H s → Vals vs us → sp vs H Q E0 → wpAny (model X.prog X.w) X.A (call (.ref f) us) (EP X pins σ Q) X.xe s
theorem callee_of {X : Cx} {k : Nat} {f : Addr} {fd : FuncData} {ps : List Str} {sp : Sp} (F : FnOk X.prog X.w X.K X.mg X.base CX0 k f fd ps sp) (hr : Room k X.A) (hb : Binds X.K fd ps []) : Callee X f sp := fun pins σ H s Q us vs hI r q => by
  have go := run_fn (dvs := []) (ds := []) F hr hb .nil pass0 hI r (Q := Q) (by rw [List.append_nil]; exact q)
  exact go
theorem pe_callee {X : Cx} {f : Addr} {sp : Sp} {x : Str} {p pos : Pos} {e : Expr} {es : List Expr} {t : TA} (C : Callee X f sp) (hg : Gl X x) (hm : X.mg x = some (.ref f)) (hk : PySem.W.keepIn X.K (.ref f) = true) (ha : PA X (e :: es) t)
    (hdb : (x == ("__debug__" : Str)) = false := by decide) (he : starEach (e :: es) X.env = (false, eval e X.env) :: starEach es X.env := by rfl) (hpl : (backTo pos (starEach es X.env)).any (·.1) = false := by rfl) :
    PE X (.Call (.Name x p) (e :: es) [] pos) (fun σ H Q => t σ H fun vs H1 => sp vs H1 Q E0) := ⟨fun pins s σ H Q inv q => by
  have named := fun R => ld_glob (pos := p) (Q := R) (E := X.xe) inv hg hm (hd := hdb)
  refine wpAny_Call_Name_kw (named _ ?_)
  have args := ha.run pos pins s σ H _ inv q
  refine PySem.W.callWith_K (h₀ := X.base) inv.ok.mod.kin hk (wpAny_mono args (fun us s1 told => ?_) fun _ _ z => z) he hpl
  obtain ⟨vs, H1, inv1, r, q1⟩ := told
  exact ⟨inv1.kIn, C pins σ H1 s1 Q us vs inv1 r q1⟩⟩
theorem pm_call {W : Wd} {X : Cx} {f : Addr} {io : List Bool} {n : Nat} {F : Den} {x : Str} {p pos : Pos} {e : Expr} {es : List Expr} {m : MA} (C : Callee X f (spF W.K W.B n F)) (hg : Gl X x) (hm : X.mg x = some (.ref f)) (hk : PySem.W.keepIn X.K (.ref f) = true) (ha : PMA W X (e :: es) m)
    (hdb : (x == ("__debug__" : Str)) = false := by decide) (he : starEach (e :: es) X.env = (false, eval e X.env) :: starEach es X.env := by rfl) (hpl : (backTo pos (starEach es X.env)).any (·.1) = false := by rfl) :
    PM W X (.Call (.Name x p) (e :: es) [] pos) (mPrim (fCall io n F) m) :=
  ⟨fun B0 => PE.imp (pe_callee C hg hm hk (ha.pa B0) hdb he hpl) fun σ H Q h => prim_split (prim_call (W := W.at B0) (E := E0)) h⟩
/-- built-in functions and types by name -/
theorem pm_callB {W : Wd} {X : Cx} {id : String} {r : List V → Hp → VK → Prop} {f : FX} {x : Str} {p pos : Pos} {e : Expr} {es : List Expr} {m : MA} (hc : CallR X (.builtin id) r) (P : ∀ B0, Prim (W.at B0) r f) (hg : Gl X x) (hm : X.mg x = none) (hv : bootBuiltins x = some (.builtin id)) (ha : PMA W X (e :: es) m)
    (hn : x ≠ "__name__" := by decide) (hdb : (x == ("__debug__" : Str)) = false := by decide) (he : starEach (e :: es) X.env = (false, eval e X.env) :: starEach es X.env := by rfl) (hpl : (backTo pos (starEach es X.env)).any (·.1) = false := by rfl) : PM W X (.Call (.Name x p) (e :: es) [] pos) (mPrim f m) :=
  ⟨fun B0 => PE.imp (pe_callB hc hg hm hv (ha.pa B0) hn hdb he hpl) fun σ H Q h => prim_split (P B0) h⟩
theorem pm_callTy {W : Wd} {X : Cx} {T : String} {r : List V → Hp → VK → Prop} {f : FX} {x : Str} {p pos : Pos} {e : Expr} {es : List Expr} {m : MA} (hc : CallR X (.type T) r) (P : ∀ B0, Prim (W.at B0) r f) (hg : Gl X x) (hm : X.mg x = none) (hv : bootBuiltins x = some (.type T)) (ha : PMA W X (e :: es) m)
    (hn : x ≠ "__name__" := by decide) (hdb : (x == ("__debug__" : Str)) = false := by decide) (he : starEach (e :: es) X.env = (false, eval e X.env) :: starEach es X.env := by rfl) (hpl : (backTo pos (starEach es X.env)).any (·.1) = false := by rfl) : PM W X (.Call (.Name x p) (e :: es) [] pos) (mPrim f m) :=
  ⟨fun B0 => PE.imp (pe_callTy hc hg hm hv (ha.pa B0) hn hdb he hpl) fun σ H Q h => prim_split (P B0) h⟩
end Mx

set_option Elab.async false
set_option autoImplicit false
set_option linter.all false
set_option maxRecDepth 100000
/-! Mx6: what is walked, for, comprehensions. -/
namespace Mx
open PySem PySem.Spec PyProof.Rows L2
/-- the iterator gives these items as long as what they are made of stands -/
structure Src (J : It) (T : AS) (H : Hp) (items : List D) : Prop where
  step : ∀ (Hi : Hp) (T' : AS), Move T T' H Hi → (∀ a, T' a → Hi a ≠ none) → ∀ (i : Nat) (d : D), items[i]? = some d → J.go i Hi ∧ ∀ x H3, J.yld i Hi x H3 → Keep AS.emp Hi H3 ∧ At T' H3 x d
  fin : ∀ (Hi : Hp) (T' : AS), Move T T' H Hi → J.stop items.length Hi
abbrev MI := MEnv → Option (List D × MEnv)
def tI (W : Wd) (m : MI) : TI := fun σ H R => ∃ T0 env items env', Rel W T0 σ H env ∧ m env = some (items, env') ∧ ∀ J H', Keep (Own σ env) H H' → Osub env env' → Rel W T0 σ H' env' → Src J (Tot T0 σ env') H' items → R J H'
structure PMI (W : Wd) (X : Cx) (tg iter : Expr) (m : MI) : Prop where
  pi : ∀ B0, PI X tg iter (tI (W.at B0) m)
theorem PI.imp {X : Cx} {tg iter : Expr} {t t' : TI} (h : PI X tg iter t) (k : ∀ σ H Q, t' σ H Q → t σ H Q) : PI X tg iter t' := ⟨fun pins s σ H R I q => h.run pins s σ H R I (k σ H R q)⟩
section
variable {W : Wd} {X : Cx} {tg a b : Expr} {ma mb : MX} {p pos : Pos}
def gRng1 : Option D → Option (List D)
  | some (.int n) => if -(2 ^ 62) ≤ n ∧ n < 2 ^ 62 then some ((List.range n.toNat).map fun (i : Nat) => PyData.int ((0 : Int) + (i : Int))) else none
  | _ => none
def mRng1 (ma : MX) : MI := fun env => (ma env).bind fun (o, env1) => (gRng1 (peek o env1)).bind fun items => some (items, env1)
theorem src_range {T : AS} {H : Hp} {lo : Int} {n : Nat} : Src (Itr lo n) T H ((List.range n).map fun (i : Nat) => PyData.int (lo + (i : Int))) := by
  refine ⟨fun Hi T' M dm i d e => ?_, fun Hi T' M => ?_⟩
  · rw [List.getElem?_map] at e
    cases q : (List.range n)[i]? with
    | none => rw [q] at e; cases e
    | some j =>
      rw [q] at e
      cases e
      have hi : i < n := by
        have := (List.getElem?_eq_some_iff.mp q).1
        simpa using this
      rw [List.getElem?_range hi] at q
      cases q
      refine ⟨hi, fun x H3 y => ?_⟩
      obtain ⟨rfl, rfl⟩ := y
      exact ⟨Keep.refl, .int _⟩
  · show n ≤ _
    simp
theorem pmi_range1 (hg : Gl X "range") (hm : X.mg "range" = none) (ha : PM W X a ma) (hs : starEach [a] X.env = [(false, eval a X.env)] := by rfl) : PMI W X tg (.Call (.Name "range" p) [a] [] pos) (mRng1 ma) :=
  ⟨fun B0 => PI.imp (pi_range1 hg hm (pma_cons ha pma_nil hs).pax hs) fun σ H R ⟨T0, env, items, env', Rl, e, k⟩ => by
    unfold mRng1 at e
    cases e1 : ma env with
    | none => simp [e1] at e
    | some z =>
      obtain ⟨o, env1⟩ := z
      cases e2 : gRng1 (peek o env1) with
      | none => simp [e1, e2] at e
      | some it =>
        simp [e1, e2] at e
        obtain ⟨rfl, rfl⟩ := e
        unfold gRng1 at e2
        split at e2
        · rename_i n q
          split at e2
          · rename_i hb
            cases e2
            refine ⟨B0, T0, env, [o], env1, Rl, by simp [mCons, mNil, e1], fun vs H1 k1 s1 o1 => ?_⟩
            obtain ⟨x, rfl, h1, R1⟩ := opds1 o1
            have hx := at_int (peek_at h1 R1 q)
            subst hx
            exact ⟨n, rfl, hb.1, hb.2, k _ H1 k1 s1 R1 src_range⟩
          · cases e2
        · cases e2⟩
def gRng2 : Option D → Option D → Option (List D)
  | some (.int m), some (.int n) => if -(2 ^ 62) ≤ m ∧ m < 2 ^ 62 ∧ -(2 ^ 62) ≤ n ∧ n < 2 ^ 62 then some ((List.range (n - m).toNat).map fun (i : Nat) => PyData.int (m + (i : Int))) else none
  | _, _ => none
def mRng2 (ma : MA) : MI := fun env => (ma env).bind fun (os, env1) => match os with
  | [o1, o2] => (gRng2 (peek o1 env1) (peek o2 env1)).bind fun items => some (items, env1)
  | _ => none
theorem pmi_range2 (hg : Gl X "range") (hm : X.mg "range" = none) (ha : PMA W X [a, b] (mCons ma (mCons mb mNil))) (hs : starEach [a, b] X.env = [(false, eval a X.env), (false, eval b X.env)] := by rfl) (hs2 : starEach [b] X.env = [(false, eval b X.env)] := by rfl) :
    PMI W X tg (.Call (.Name "range" p) [a, b] [] pos) (mRng2 (mCons ma (mCons mb mNil))) :=
  ⟨fun B0 => PI.imp (pi_range2 hg hm (ha.pa B0) hs hs2) fun σ H R ⟨T0, env, items, env', Rl, e, k⟩ => by
    unfold mRng2 at e
    cases e1 : mCons ma (mCons mb mNil) env with
    | none => simp [e1] at e
    | some z =>
      obtain ⟨os, env1⟩ := z
      refine ⟨T0, env, os, env1, Rl, e1, fun vs H1 k1 s1 o1 => ?_⟩
      simp only [e1, Option.bind] at e
      split at e
      · rename_i q1 q2
        obtain ⟨x, y, T1, rfl, s2, h1, h2, R1, R0⟩ := opds2 o1
        cases e2 : gRng2 (peek q1 env1) (peek q2 env1) with
        | none => simp [e2] at e
        | some it =>
          simp [e2] at e
          obtain ⟨rfl, rfl⟩ := e
          unfold gRng2 at e2
          split at e2
          · rename_i m n w1 w2
            split at e2
            · rename_i hb
              cases e2
              have hx := at_int (peek_at h1 R0 w1)
              have hy := at_int (peek_at h2 R1 w2)
              subst hx; subst hy
              exact ⟨m, n, rfl, hb, k _ H1 k1 s1 R0 src_range⟩
            · cases e2
          · cases e2
      · cases e⟩
/-- a list -/
def mItL (ma : MX) : MI := fun env => (ma env).bind fun (o, env1) => (toDat o env1).bind fun (d, env2) => match d with
  | .list ds => some (ds, env2)
  | _ => none
theorem src_list {K : PySem.W.Frag} {T : AS} {H : Hp} {q : Addr} {xs : List V} {ds : List D} (n : ¬ T q) (hq : H q = some (.lst xs)) (l : AtL T H xs ds) : Src (Itl K q) T H ds := by
  refine ⟨fun Hi T' M dm i d e => ?_, fun Hi T' M => ?_⟩
  · obtain ⟨e1, _⟩ := M.mv _ _ n hq
    obtain ⟨v, hv, hd⟩ := (AtL.move M ds xs l).get e
    refine ⟨⟨xs, v, SqL.of e1, hv⟩, fun x H3 y => ?_⟩
    obtain ⟨rfl, y⟩ := y
    have := y xs (SqL.of e1)
    rw [hv] at this
    cases this
    exact ⟨Keep.refl, hd⟩
  · obtain ⟨e1, _⟩ := M.mv _ _ n hq
    exact ⟨xs, SqL.of e1, Nat.le_of_eq l.length⟩
theorem pmi_list (ha : PM W X a ma) : PMI W X tg a (mItL ma) :=
  ⟨fun B0 => PI.imp (pi_list (ha.pe B0)) fun σ H R ⟨T0, env, items, env', Rl, e, k⟩ => by
    unfold mItL at e
    cases e1 : ma env with
    | none => simp [e1] at e
    | some z =>
      obtain ⟨o, env1⟩ := z
      cases e2 : toDat o env1 with
      | none => simp [e1, e2] at e
      | some y =>
        obtain ⟨d, env2⟩ := y
        simp only [e1, e2, Option.bind] at e
        refine ⟨T0, env, o, env1, Rl, e1, fun v H1 k1 s1 o1 => ?_⟩
        split at e
        · rename_i ds
          cases e
          obtain ⟨R2, s2⟩ := toDat_rel (opdK_base o1) e2
          have at1 := toDat_at o1 Osub.refl (opdK_base o1) e2
          cases at1 with
          | lst n e l => exact ⟨_, rfl, ⟨_, SqL.of e⟩, k _ H1 k1 (s1.trans s2) R2 (src_list n e l)⟩
        · cases e⟩
/-- enumerate(list) -/
def enumD (ds : List D) : List D := ds.mapIdx fun i d => PyData.tuple [.int (i : Int), d]
def mEnum (ma : MX) : MI := fun env => (ma env).bind fun (o, env1) => (toDat o env1).bind fun (d, env2) => match d with
  | .list ds => some (enumD ds, env2)
  | _ => none
theorem src_enum {K : PySem.W.Frag} {T : AS} {H : Hp} {q : Addr} {xs : List V} {ds : List D} (n : ¬ T q) (hq : H q = some (.lst xs)) (l : AtL T H xs ds) : Src (Ite K q) T H (enumD ds) := by
  refine ⟨fun Hi T' M dm i d e => ?_, fun Hi T' M => ?_⟩
  · obtain ⟨e1, _⟩ := M.mv _ _ n hq
    unfold enumD at e
    rw [List.getElem?_mapIdx] at e
    cases w : ds[i]? with
    | none => rw [w] at e; cases e
    | some d0 =>
      rw [w] at e
      cases e
      obtain ⟨v, hv, hd⟩ := (AtL.move M ds xs l).get w
      refine ⟨⟨xs, v, SqL.of e1, hv⟩, fun x H3 y => ?_⟩
      obtain ⟨t, u, rfl, ht, rfl, y⟩ := y
      have := y xs (SqL.of e1)
      rw [hv] at this
      cases this
      have kp : Keep AS.emp Hi (upd Hi t (.tup [.int (i : Nat), v])) := Keep.new ht
      exact ⟨kp, .tup (fun z => dm t z ht) upd_same (.cons (.int _) (.cons (At.move (Move.keep kp fun _ z => z.elim) d0 v hd) .nil))⟩
  · obtain ⟨e1, _⟩ := M.mv _ _ n hq
    exact ⟨xs, SqL.of e1, by unfold enumD; rw [List.length_mapIdx]; exact Nat.le_of_eq l.length⟩
theorem pmi_enum {elts : List Expr} {kk : Nat} {tpos : Pos} (hg : Gl X "enumerate") (hm : X.mg "enumerate" = none) (ha : PM W X a ma) (hs : starEach [a] X.env = [(false, eval a X.env)] := by rfl) : PMI W X (.Tuple elts kk tpos) (.Call (.Name "enumerate" p) [a] [] pos) (mEnum ma) :=
  ⟨fun B0 => PI.imp (pi_enum hg hm (pma_cons ha pma_nil hs).pax hs) fun σ H R ⟨T0, env, items, env', Rl, e, k⟩ => by
    unfold mEnum at e
    cases e1 : ma env with
    | none => simp [e1] at e
    | some z =>
      obtain ⟨o, env1⟩ := z
      cases e2 : toDat o env1 with
      | none => simp [e1, e2] at e
      | some y =>
        obtain ⟨d, env2⟩ := y
        simp only [e1, e2, Option.bind] at e
        refine ⟨B0, T0, env, [o], env1, Rl, by simp [mCons, mNil, e1], fun vs H1 k1 s1 o1 => ?_⟩
        obtain ⟨x, rfl, h1, R1⟩ := opds1 o1
        split at e
        · rename_i ds
          cases e
          obtain ⟨R2, s2⟩ := toDat_rel R1 e2
          have at1 := toDat_at h1 Osub.refl R1 e2
          cases at1 with
          | lst n e l => exact ⟨_, _, rfl, SqL.of e, k _ H1 k1 (s1.trans s2) R2 (src_enum n e l)⟩
        · cases e⟩
end

/-! ### targets -/
structure Tgt where
  is : List Nat
  put : D → MEnv → Option MEnv
def tsOf (is : List Nat) : List (Nat × Bool) := is.map fun i => (i, false)
def tgName (i : Nat) : Tgt := ⟨[i], fun d env => setAll (tsOf [i]) [.dat d] env⟩
def putT (is : List Nat) : D → MEnv → Option MEnv
  | .tuple ds, env => if ds.length = is.length then setAll (tsOf is) (ds.map Opd.dat) env else none
  | _, _ => none
def tgTup (is : List Nat) : Tgt := ⟨is, putT is⟩
def TgOk (t : Tgt) (g : TG) : Prop := ∀ (W : Wd) (T0 : AS) (σ : L2.St) (H : Hp) (env : MEnv) (x : V) (d : D) (env1 : MEnv) (Q : L2.St → Hp → Prop), Rel W T0 σ H env → At (Tot T0 σ env) H x d → t.put d env = some env1 →
  (∀ (vs : List V), vs.length = t.is.length → Stp W σ H env (setV (tsOf t.is) vs σ) H env1 → Rel W T0 (setV (tsOf t.is) vs σ) H env1 → Osub env env1 → Q (setV (tsOf t.is) vs σ) H) → g x σ H Q
theorem flat_dats {W : Wd} {T0 : AS} {σ : L2.St} {H : Hp} {env : MEnv} {vs : List V} {ds : List D} (R : Rel W T0 σ H env) (l : AtL (Tot T0 σ env) H vs ds) : Flat W T0 T0 σ H env vs (ds.map Opd.dat) := by
  refine ⟨R, fun _ z => z, fun j v o a b => ?_, fun j p d a b => ?_, fun j k p d e _ _ _ b => ?_, by rw [List.length_map]; exact l.length⟩
  · rw [List.getElem?_map] at b
    cases q : ds[j]? with
    | none => rw [q] at b; cases b
    | some d =>
      rw [q] at b
      cases b
      obtain ⟨u, hu, hd⟩ := l.get q
      rw [a] at hu
      cases hu
      exact hd
  · rw [List.getElem?_map] at b
    cases q : ds[j]? with
    | none => rw [q] at b; cases b
    | some d => rw [q] at b; cases b
  · rw [List.getElem?_map] at b
    cases q : ds[j]? with
    | none => rw [q] at b; cases b
    | some d => rw [q] at b; cases b
theorem osub_set {ts : List (Nat × Bool)} {os : List Opd} {vs : List V} {W : Wd} {T0 T' : AS} {σ : L2.St} {H : Hp} {env env' : MEnv} (F : Flat W T0 T' σ H env vs os) (e : setAll ts os env = some env') (hf : ∀ p ∈ ts, p.2 = false) : Osub env env' := by
  obtain ⟨a1, a2, a3, a4⟩ := setAll_spec (vs := vs) (σ := σ) e F.len F.rel.len
  intro i l d q
  by_cases m : i ∈ ts.map (·.1)
  · obtain ⟨j, b, o, s, v, q1, q2, q3, q4, q5, q6⟩ := a4 i m
    rw [q5] at q
    cases q
    have : b = false := hf _ (List.mem_of_getElem? q1)
    subst this
    obtain ⟨rfl, _⟩ := slotOf_own q3
    cases q3
  · rw [(a3 i m).1] at q
    exact ⟨d, q⟩
theorem tsOf_false (is : List Nat) : ∀ p ∈ tsOf is, p.2 = false := fun p h => by
  obtain ⟨i, _, rfl⟩ := List.mem_map.mp h
  rfl
theorem dats_go {W : Wd} {T0 : AS} {σ : L2.St} {H : Hp} {env env1 : MEnv} {vs : List V} {ds : List D} {is : List Nat} (R : Rel W T0 σ H env) (l : AtL (Tot T0 σ env) H vs ds) (e : setAll (tsOf is) (ds.map Opd.dat) env = some env1) :
    Stp W σ H env (setV (tsOf is) vs σ) H env1 ∧ Rel W T0 (setV (tsOf is) vs σ) H env1 ∧ Osub env env1 := by
  have F := flat_dats R l
  obtain ⟨R1, par⟩ := set_rel F e
  exact ⟨⟨fun _ _ _ _ q => q, fun i d q => let ⟨a, b⟩ := par i d q; ⟨a, d, b⟩⟩, R1, osub_set F e (tsOf_false is)⟩
theorem tg_name (i : Nat) : TgOk (tgName i) (gName i) := by
  intro W T0 σ H env x d env1 Q R a e k
  obtain ⟨s, r, o⟩ := dats_go (is := [i]) (vs := [x]) (ds := [d]) R (.cons a .nil) e
  exact k [x] rfl s r o
def gNames : List Nat → TGs
  | [] => gNil
  | i :: is => gCons (gName i) (gNames is)
theorem gNames_run : ∀ {is : List Nat} {vs : List V} {σ : L2.St} {H : Hp} {Q : L2.St → Hp → Prop}, vs.length = is.length → Q (setV (tsOf is) vs σ) H → gNames is vs σ H Q
  | [], [], _, _, _, _, q => ⟨rfl, q⟩
  | [], _ :: _, _, _, _, h, _ => by simp at h
  | _ :: _, [], _, _, _, h, _ => by simp at h
  | i :: is, v :: vs, σ, H, Q, h, q => ⟨v, vs, rfl, gNames_run (is := is) (vs := vs) (by simpa using h) q⟩
theorem tg_tup (K : PySem.W.Frag) (is : List Nat) : TgOk (tgTup is) (gTup K is.length (gNames is)) := by
  intro W T0 σ H env x d env1 Q R a e k
  cases a with
  | tup n q l =>
    rename_i ds
    have e' : (if ds.length = is.length then setAll (tsOf is) (ds.map Opd.dat) env else none) = some env1 := e
    split at e'
    · rename_i hl
      obtain ⟨s, r, o⟩ := dats_go R l e'
      exact ⟨_, _, rfl, SqT.of q, l.length.trans hl, gNames_run (l.length.trans hl) (k _ (l.length.trans hl) s r o)⟩
    · cases e'
  | non => cases e
  | bl b => cases e
  | int i => cases e
  | str y => cases e
  | lst _ _ _ => cases e
  | dic _ _ _ => cases e
  | dit _ _ _ _ => cases e

/-! ### for -/
def mLoop (t : D → MEnv → Option MEnv) (body : MS) : List D → MEnv → Option (Fl × MEnv)
  | [], env => some (.nx, env)
  | d :: ds, env => (t d env).bind fun env1 => (body env1).bind fun (f, env2) => match f with
    | .nx => mLoop t body ds env2
    | .ct => mLoop t body ds env2
    | .bk => some (.nx, env2)
    | .rt o => some (.rt o, env2)
def mFor (t : Tgt) (mi : MI) (body : MS) : MS := fun env => (mi env).bind fun (items, env1) => mLoop t.put body items env1
def tSx (W : Wd) (m : MS) : TS := fun E σ H => ∃ B0, tS (W.at B0) m E σ H
theorem PMB.psx {W : Wd} {X : Cx} {st : List Stmt} {m : MS} (h : PMB W X st m) : PSs X st (tSx W m) := ⟨fun pins s σ H E I ⟨B0, q⟩ => (h.ps B0).run pins s σ H E I q⟩
/-- a run with more to stay is a run -/
theorem Stp.at {W : Wd} {B0 : AS} {σ σ' : L2.St} {H H' : Hp} {env env' : MEnv} (h : Stp W σ H env σ' H' env') (s : ∀ a, B0 a → W.B0 a) : Stp (W.at B0) σ H env σ' H' env' := ⟨fun a o z => h.prot a o (s a z), h.par⟩
theorem PostS.at {W : Wd} {B0 T0 : AS} {σ : L2.St} {H : Hp} {env env' : MEnv} {E : Ends} {f : Fl} (h : PostS W T0 σ H env env' E f) (s : ∀ a, W.B0 a → B0 a) : PostS (W.at B0) T0 σ H env env' E f := by
  have less : ∀ {T1 : AS} {σ' H' env'}, Rel (W.at B0) T1 σ' H' env' → Rel W T1 σ' H' env' := fun R => R.at (B0 := W.B0) (fun a z => R.bdom a (s a z)) fun a z => .inl (s a z)
  cases f with
  | nx => exact fun σ' H' S R => h σ' H' (S.at (B0 := W.B0) s) (less R)
  | bk => exact fun σ' H' S R => h σ' H' (S.at (B0 := W.B0) s) (less R)
  | ct => exact fun σ' H' S R => h σ' H' (S.at (B0 := W.B0) s) (less R)
  | rt o => exact fun σ' H' v S O => h σ' H' v (S.at (B0 := W.B0) s) ((O.imp fun T R => less R).at (B0 := W.B0) s)
theorem for_split {W : Wd} {t : Tgt} {g : TG} {mi : MI} {body : MS} {E : Ends} {σ : L2.St} {H : Hp} (tk : TgOk t g) (h : tS W (mFor t mi body) E σ H) : tFor (tI W mi) g (tSx W body) E σ H := by
  obtain ⟨T0, env, f, env', R, e, k⟩ := h
  unfold mFor at e
  cases e1 : mi env with
  | none => simp [e1] at e
  | some z =>
    obtain ⟨items, env1⟩ := z
    have e2 : mLoop t.put body items env1 = some (f, env') := by simpa [e1] using e
    refine ⟨T0, env, items, env1, R, e1, fun J H1 k1 s1 R1 S => ?_⟩
    -- what the items are made of stays
    have hB : ∃ B1 : AS, B1 = fun a => W.B0 a ∨ (H1 a ≠ none ∧ ¬ Tot T0 σ env1 a) := ⟨_, rfl⟩
    obtain ⟨B1, rfl⟩ := hB
    have R1' : Rel (W.at fun a => W.B0 a ∨ (H1 a ≠ none ∧ ¬ Tot T0 σ env1 a)) T0 σ H1 env1 := R1.at (fun a z => z.elim (R1.bdom a) (·.1)) fun a z => z.elim .inl fun q => .inr q.2
    have k' := (k.from (Stp.of k1 s1) R1).at (B0 := fun a => W.B0 a ∨ (H1 a ≠ none ∧ ¬ Tot T0 σ env1 a)) fun a z => .inl z
    refine ⟨fun i m σi Hi => m = items.length - i ∧ i ≤ items.length ∧ ∃ envi, Rel (W.at fun a => W.B0 a ∨ (H1 a ≠ none ∧ ¬ Tot T0 σ env1 a)) T0 σi Hi envi ∧ Stp (W.at fun a => W.B0 a ∨ (H1 a ≠ none ∧ ¬ Tot T0 σ env1 a)) σ H1 env1 σi Hi envi ∧ mLoop t.put body (items.drop i) envi = some (f, env'),
      ⟨_, rfl, Nat.zero_le _, env1, R1', Stp.refl, by simpa using e2⟩, ?_⟩
    rintro i m σi Hi ⟨rfl, hi, envi, Ri, Si, run⟩
    have M : Move (Tot T0 σ env1) (Tot T0 σi envi) H1 Hi := ⟨fun a o n q => by
      have b : W.B0 a ∨ (H1 a ≠ none ∧ ¬ Tot T0 σ env1 a) := .inr ⟨by rw [q]; exact fun z => (nomatch z), n⟩
      refine ⟨Si.prot a o b (fun z => n (.inr z)) q, fun z => ?_⟩
      rcases z with z | ⟨j, ⟨l, d, ej⟩, es⟩
      · exact n (.inl z)
      · cases l with
        | true =>
          obtain ⟨v, ev, pp, hp, c, n0⟩ := Ri.ok j _ ej
          rw [es] at ev
          cases ev
          cases hp
          exact (n0 rfl).2 b
        | false =>
          obtain ⟨w, d', w2⟩ := Si.par j d ej
          exact n (.inr ⟨j, ⟨false, d', w2⟩, w ▸ es⟩)⟩
    by_cases hlt : i < items.length
    · have hd : items.drop i = items[i] :: items.drop (i + 1) := List.drop_eq_getElem_cons hlt
      rw [hd] at run
      unfold mLoop at run
      cases e3 : t.put items[i] envi with
      | none => simp [e3] at run
      | some envA =>
        cases e4 : body envA with
        | none => simp [e3, e4] at run
        | some y =>
          obtain ⟨fl, envB⟩ := y
          simp only [e3, e4, Option.bind] at run
          obtain ⟨go, st⟩ := S.step Hi (Tot T0 σi envi) M (fun a z => Ri.totDom z) i items[i] (by simp [hlt])
          refine .inr ⟨go, fun σ' H' => i + 1 ≤ items.length ∧ ∃ envi, Rel (W.at fun a => W.B0 a ∨ (H1 a ≠ none ∧ ¬ Tot T0 σ env1 a)) T0 σ' H' envi ∧ Stp (W.at fun a => W.B0 a ∨ (H1 a ≠ none ∧ ¬ Tot T0 σ env1 a)) σ H1 env1 σ' H' envi ∧ mLoop t.put body (items.drop (i + 1)) envi = some (f, env'),
            fun σ' H' ⟨a, b⟩ => ⟨items.length - (i + 1), by omega, rfl, a, b⟩, fun x H3 y => ?_⟩
          obtain ⟨kp, ax⟩ := st x H3 y
          have R3 : Rel (W.at fun a => W.B0 a ∨ (H1 a ≠ none ∧ ¬ Tot T0 σ env1 a)) T0 σi H3 envi := Ri.grow kp
          have S3 : Stp (W.at fun a => W.B0 a ∨ (H1 a ≠ none ∧ ¬ Tot T0 σ env1 a)) σ H1 env1 σi H3 envi := Si.trans Ri ⟨fun a o _ _ q => kp a o (fun z => z) q, fun j d q => ⟨rfl, d, q⟩⟩
          refine tk _ T0 σi H3 envi x items[i] envA _ R3 ax e3 fun vs hv sA RA _ => ?_
          have S4 := S3.trans R3 sA
          refine ⟨_, T0, envA, fl, envB, RA, e4, ?_⟩
          cases fl with
          | nx => exact fun σ' H' s r => ⟨hlt, envB, r, S4.trans RA s, run⟩
          | ct => exact fun σ' H' s r => ⟨hlt, envB, r, S4.trans RA s, run⟩
          | bk =>
            simp at run
            obtain ⟨rfl, rfl⟩ := run
            exact fun σ' H' s r => k' σ' H' (S4.trans RA s) r
          | rt o =>
            simp at run
            obtain ⟨rfl, rfl⟩ := run
            exact fun σ' H' v s r => k' σ' H' v (S4.trans RA s) r
    · have hi' : i = items.length := by omega
      subst hi'
      rw [List.drop_length] at run
      cases run
      exact .inl ⟨S.fin Hi _ M, k' σi Hi Si Ri⟩
theorem pms_for {W : Wd} {X : Cx} {tg iter : Expr} {body : List Stmt} {t : Tgt} {g : TG} {mi : MI} {mb : MS} {pos : Pos} (hp : PassesOwn (model X.prog X.w) X.A X.env X.xe) (hc : X.calm = true) (hi : PMI W X tg iter mi) (tk : TgOk t g) (hg : PG X tg g) (hb : PMB W X body mb)
    (hs : ∀ x, foldedSetIterable iter X.env x = pure x := by intro _; rfl) : PMS W X (.For tg iter body [] pos) (mFor t mi mb) :=
  ⟨fun B0 => PS.imp (ps_for hp hc (hi.pi B0) hg hb.psx hs) fun E σ H h => for_split (W := W.at B0) tk h⟩
end Mx

set_option Elab.async false
set_option autoImplicit false
set_option linter.all false
set_option maxRecDepth 100000
/-! Mx7: comprehensions, several stores, stores into lists, methods of lists, built-in functions. -/
namespace Mx
open PySem PySem.Spec PyProof.Rows L2
/-! ### slots forgotten -/
def wipeE : MEnv → List Nat → MEnv
  | env, [] => env
  | env, v :: vs => (wipeE env vs).set v none
theorem wipe_get {α : Type} {f : List (Option α) → List Nat → List (Option α)} (h0 : ∀ l, f l [] = l) (h1 : ∀ l v vs, f l (v :: vs) = (f l vs).set v none) (l : List (Option α)) : ∀ (is : List Nat), (f l is).length = l.length ∧ ∀ k, (f l is)[k]? = if k ∈ is ∧ k < l.length then some none else l[k]?
  | [] => by rw [h0]; exact ⟨rfl, fun k => by simp⟩
  | v :: vs => by
    obtain ⟨a, b⟩ := wipe_get h0 h1 l vs
    rw [h1]
    refine ⟨by rw [List.length_set, a], fun k => ?_⟩
    by_cases hk : k = v
    · subst hk
      by_cases hl : k < l.length
      · rw [List.getElem?_set_self (by rw [a]; exact hl), if_pos ⟨List.mem_cons_self, hl⟩]
      · have e1 : l[k]? = none := List.getElem?_eq_none_iff.mpr (Nat.le_of_not_lt hl)
        rw [if_neg (fun z => hl z.2), e1, List.getElem?_eq_none_iff, List.length_set, a]
        exact Nat.le_of_not_lt hl
    · rw [List.getElem?_set_ne (Ne.symm hk), b]
      by_cases hm : k ∈ vs ∧ k < l.length
      · rw [if_pos hm, if_pos ⟨List.mem_cons_of_mem _ hm.1, hm.2⟩]
      · rw [if_neg hm, if_neg (fun z => hm ⟨(List.mem_cons.mp z.1).resolve_left hk, z.2⟩)]
theorem wipe_σ (σ : L2.St) (is : List Nat) : (wipe σ is).length = σ.length ∧ ∀ k, (wipe σ is)[k]? = if k ∈ is ∧ k < σ.length then some none else σ[k]? := wipe_get (fun _ => rfl) (fun _ _ _ => rfl) σ is
theorem wipe_E (env : MEnv) (is : List Nat) : (wipeE env is).length = env.length ∧ ∀ k, (wipeE env is)[k]? = if k ∈ is ∧ k < env.length then some none else env[k]? := wipe_get (fun _ => rfl) (fun _ _ _ => rfl) env is
theorem wipeE_some {env : MEnv} {is : List Nat} {k : Nat} {s : Slot} (h : (wipeE env is)[k]? = some (some s)) : k ∉ is ∧ env[k]? = some (some s) := by
  rw [(wipe_E env is).2] at h
  split at h
  · cases h
  · rename_i n
    have hk := (List.getElem?_eq_some_iff.mp h).1
    exact ⟨fun z => n ⟨z, hk⟩, h⟩
section
variable {W : Wd} {T0 : AS} {σ : L2.St} {H : Hp} {env : MEnv} {is : List Nat}
theorem osub_wipe : Osub env (wipeE env is) := fun i l d h => ⟨d, (wipeE_some h).2⟩
/-- slots are forgotten, in the frame and in what is known -/
theorem rel_wipe (R : Rel W T0 σ H env) : Rel W T0 (wipe σ is) H (wipeE env is) := by
  have keep : ∀ k s, (wipeE env is)[k]? = some (some s) → ∀ v, σ[k]? = some v → (wipe σ is)[k]? = some v := fun k s h v e => by
    rw [(wipe_σ σ is).2, if_neg (fun z => (wipeE_some h).1 z.1)]
    exact e
  have own : ∀ i a, OwnAt (wipe σ is) (wipeE env is) i a → OwnAt σ env i a := fun i a ⟨⟨l, d, e⟩, es⟩ => by
    obtain ⟨n, e'⟩ := wipeE_some e
    rw [(wipe_σ σ is).2, if_neg (fun z => n z.1)] at es
    exact ⟨⟨l, d, e'⟩, es⟩
  have M : Move (Tot T0 σ env) (Tot T0 (wipe σ is) (wipeE env is)) H H := Move.sub fun a z => z.elim .inl fun ⟨i, w⟩ => .inr ⟨i, own i a w⟩
  refine ⟨by rw [(wipe_σ σ is).1, (wipe_E env is).1]; exact R.len, R.dom, R.bdom, fun i s e => ?_, fun i j a hi hj => R.inj i j a (own i a hi) (own j a hj)⟩
  obtain ⟨v, ev, o⟩ := R.ok i s (wipeE_some e).2
  refine ⟨v, keep i s e _ ev, ?_⟩
  cases s with
  | dat d => exact At.move M d v o
  | brd n gs => exact BrdAt.move M o
  | scr ns => exact ScrAt.move M o
  | brds l9 => exact BrdsAt.move M o
  | raw v0 => exact o
  | own l d => obtain ⟨p, rfl, c, n⟩ := o; exact ⟨p, rfl, c.move M fun _ q => q, n⟩
/-- more of the frame is there than is known -/
theorem rel_unwipe (R : Rel W T0 (wipe σ is) H env) : Rel W T0 σ H env := by
  have keep : ∀ k v, (wipe σ is)[k]? = some (some v) → σ[k]? = some (some v) := fun k v h => (wipe_some h).1
  have own : ∀ i a, OwnAt σ env i a → OwnAt (wipe σ is) env i a := fun i a ⟨⟨l, d, e⟩, es⟩ => by
    obtain ⟨v, ev, o⟩ := R.ok i _ e
    have := keep i v ev
    rw [es] at this
    cases this
    exact ⟨⟨l, d, e⟩, ev⟩
  have M : Move (Tot T0 (wipe σ is) env) (Tot T0 σ env) H H := Move.sub fun a z => z.elim .inl fun ⟨i, w⟩ => .inr ⟨i, own i a w⟩
  refine ⟨by rw [← (wipe_σ σ is).1]; exact R.len, R.dom, R.bdom, fun i s e => ?_, fun i j a hi hj => R.inj i j a (own i a hi) (own j a hj)⟩
  obtain ⟨v, ev, o⟩ := R.ok i s e
  refine ⟨v, keep i v ev, ?_⟩
  cases s with
  | dat d => exact At.move M d v o
  | brd n gs => exact BrdAt.move M o
  | scr ns => exact ScrAt.move M o
  | brds l9 => exact BrdsAt.move M o
  | raw v0 => exact o
  | own l d => obtain ⟨p, rfl, c, n⟩ := o; exact ⟨p, rfl, c.move M fun _ q => q, n⟩
end
theorem setV_get : ∀ {is : List Nat} {vs : List V} {σ : L2.St}, (setV (tsOf is) vs σ).length = σ.length ∧ ∀ k, k ∉ is → (setV (tsOf is) vs σ)[k]? = σ[k]?
  | [], vs, σ => by cases vs <;> exact ⟨rfl, fun _ _ => rfl⟩
  | i :: is, [], σ => ⟨rfl, fun _ _ => rfl⟩
  | i :: is, v :: vs, σ => by
    obtain ⟨a, b⟩ := setV_get (is := is) (vs := vs) (σ := σ.set i (some v))
    refine ⟨by rw [← List.length_set (as := σ) (i := i) (a := some v)]; exact a, fun k hk => ?_⟩
    have := b k fun z => hk (List.mem_cons_of_mem _ z)
    rw [List.getElem?_set_ne (fun z => hk (by rw [z]; exact List.mem_cons_self))] at this
    exact this
theorem wipe_setV {is js : List Nat} {vs : List V} {σ : L2.St} (h : ∀ i ∈ is, i ∈ js) : wipe (setV (tsOf is) vs (wipe σ js)) js = wipe σ js := by
  apply List.ext_getElem?
  intro k
  have l1 := (setV_get (is := is) (vs := vs) (σ := wipe σ js)).1
  rw [(wipe_σ _ js).2, (wipe_σ σ js).2, l1, (wipe_σ σ js).1]
  split
  · rfl
  · rename_i n
    by_cases hk : k ∈ js
    · have hl : σ.length ≤ k := Nat.le_of_not_lt fun z => n ⟨hk, z⟩
      have e1 : (setV (tsOf is) vs (wipe σ js))[k]? = none := List.getElem?_eq_none_iff.mpr (by rw [l1, (wipe_σ σ js).1]; exact hl)
      rw [e1, List.getElem?_eq_none_iff.mpr hl]
    · rw [setV_get.2 k fun z => hk (h k z), (wipe_σ σ js).2, if_neg (fun z => hk z.1)]

/-! ### comprehensions -/
def mComp (t : D → MEnv → Option MEnv) (js : List Nat) (tt : MT) (me : MX) : List D → List D → MEnv → Option (List D × MEnv)
  | [], acc, env => some (acc, env)
  | d :: ds, acc, env => (t d env).bind fun env1 => (tt env1).bind fun (b, env2) => if b = true then
      (me env2).bind fun (o, env3) => (toDat o env3).bind fun (x, env4) => if acc.length < 16777216 then mComp t js tt me ds (acc ++ [x]) (wipeE env4 js) else none
    else mComp t js tt me ds acc (wipeE env2 js)
def mLc (t : Tgt) (js : List Nat) (mi : MI) (tt : MT) (me : MX) : MX := fun env => (mi env).bind fun (items, env1) => (mComp t.put js tt me items [] (wipeE env1 js)).bind fun (ds, env2) => some (.new (.list ds), env2)
def mYes : MT := fun env => some (true, env)
structure PMTs (W : Wd) (X : Cx) (ifs : List Expr) (m : MT) : Prop where
  pts : ∀ B0, PTs X ifs (tT (W.at B0) m)
theorem PTs.imp {X : Cx} {e : List Expr} {t t' : TT} (h : PTs X e t) (k : ∀ σ H Q, t' σ H Q → t σ H Q) : PTs X e t' := ⟨fun pins s σ H Q I q => h.run pins s σ H Q I (k σ H Q q)⟩
theorem pmts_nil {W : Wd} {X : Cx} : PMTs W X [] mYes := ⟨fun B0 => PTs.imp pts_nil fun σ H Q ⟨T0, env, b, env', R, e, k⟩ => by
  cases e
  exact k H Keep.refl Osub.refl R⟩
theorem pmts_one {W : Wd} {X : Cx} {c : Expr} {m : MT} (h : PMT W X c m) : PMTs W X [c] m := ⟨fun B0 => pts_one (h.pt B0)⟩
def tTx (W : Wd) (m : MT) : TT := fun σ H Q => ∃ B0, tT (W.at B0) m σ H Q
theorem PMTs.ptx {W : Wd} {X : Cx} {c : List Expr} {m : MT} (h : PMTs W X c m) : PTs X c (tTx W m) := ⟨fun pins s σ H Q I ⟨B0, q⟩ => (h.pts B0).run pins s σ H Q I q⟩
theorem lc_split {W : Wd} {t : Tgt} {g : TG} {js : List Nat} {mi : MI} {tt : MT} {me : MX} {σ : L2.St} {H : Hp} {Q : VK} (tk : TgOk t g) (hj : ∀ i ∈ t.is, i ∈ js) (h : tM W (mLc t js mi tt me) σ H Q) : tLc (tI W mi) g (tTx W tt) (tMx W me) js σ H Q := by
  obtain ⟨T0, env, o, env', R, e, k⟩ := h
  unfold mLc at e
  cases e1 : mi env with
  | none => simp [e1] at e
  | some z =>
    obtain ⟨items, env1⟩ := z
    cases e2 : mComp t.put js tt me items [] (wipeE env1 js) with
    | none => simp [e1, e2] at e
    | some y =>
      obtain ⟨res, env2⟩ := y
      simp [e1, e2] at e
      obtain ⟨rfl, rfl⟩ := e
      refine ⟨T0, env, items, env1, R, e1, fun J H1 k1 s1 R1 S p hp => ?_⟩
      have np : ¬ Tot T0 σ env1 p := R1.fresh hp
      have kp : Keep AS.emp H1 (upd H1 p (.lst [])) := Keep.new hp
      -- all that stood stays, but what is owned
      have hB : ∃ B1 : AS, B1 = fun a => W.B0 a ∨ (H1 a ≠ none ∧ ¬ Tot T0 σ env1 a) := ⟨_, rfl⟩
      obtain ⟨B1, eB⟩ := hB
      have bB : ∀ a, W.B0 a → B1 a := fun a z => by rw [eB]; exact .inl z
      have cB : ∀ a o, ¬ Tot T0 σ env1 a → H1 a = some o → B1 a := fun a o n q => by rw [eB]; exact .inr ⟨by rw [q]; exact fun z => (nomatch z), n⟩
      have dB : ∀ a, B1 a → H1 a ≠ none := fun a z => by rw [eB] at z; exact z.elim (R1.bdom a) (·.1)
      have R1' : Rel (W.at B1) T0 σ H1 env1 := R1.at dB fun a z => by rw [eB] at z; exact z.elim .inl fun q => .inr q.2
      have Rw : Rel (W.at B1) (T0.or (.one p)) (wipe σ js) (upd H1 p (.lst [])) (wipeE env1 js) := rel_wipe (R1'.more hp kp (mu_upd fun _ z => nomatch z))
      refine ⟨fun i m Hi => m = items.length - i ∧ i ≤ items.length ∧ ∃ envi acc accV, Rel (W.at B1) (T0.or (.one p)) (wipe σ js) Hi envi ∧ Hi p = some (.lst accV) ∧ AtL (Tot (T0.or (.one p)) (wipe σ js) envi) Hi accV acc ∧
          Keep (Own σ env1) H1 Hi ∧ Osub env1 envi ∧ mComp t.put js tt me (items.drop i) acc envi = some (res, env2),
        ⟨_, rfl, Nat.zero_le _, wipeE env1 js, [], [], Rw, upd_same, .nil, fun a u _ q => kp a u (fun z => z) q, osub_wipe, by simpa using e2⟩, ?_⟩
      rintro i m Hi ⟨rfl, hi, envi, acc, accV, Ri, hacc, lacc, Ki, Oi, run⟩
      have Ru : Rel (W.at B1) (T0.or (.one p)) σ Hi envi := rel_unwipe Ri
      have ownw : ∀ a, Own (wipe σ js) envi a → Own σ env1 a := fun a ⟨j, ⟨l, d, ej⟩, es⟩ => by
        obtain ⟨d', e'⟩ := Oi j l d ej
        exact ⟨j, ⟨l, d', e'⟩, (wipe_some es).1⟩
      have M : Move (Tot T0 σ env1) (Tot (T0.or (.one p)) (wipe σ js) envi) H1 Hi := ⟨fun a u n q => ⟨Ki a u (fun z => n (.inr z)) q, fun z => by
        rcases z with (z | z) | z
        · exact n (.inl z)
        · rw [show a = p from z, hp] at q
          cases q
        · exact n (.inr (ownw a z))⟩⟩
      by_cases hlt : i < items.length
      · have hd : items.drop i = items[i] :: items.drop (i + 1) := List.drop_eq_getElem_cons hlt
        rw [hd] at run
        unfold mComp at run
        cases e3 : t.put items[i] envi with
        | none => simp [e3] at run
        | some envA =>
          cases e4 : tt envA with
          | none => simp [e3, e4] at run
          | some y =>
            obtain ⟨b, envB⟩ := y
            simp only [e3, e4, Option.bind] at run
            obtain ⟨go, st⟩ := S.step Hi _ M (fun a z => Ri.totDom z) i items[i] (by simp [hlt])
            refine .inr ⟨go, fun H' => i + 1 ≤ items.length ∧ ∃ envi acc accV, Rel (W.at B1) (T0.or (.one p)) (wipe σ js) H' envi ∧ H' p = some (.lst accV) ∧ AtL (Tot (T0.or (.one p)) (wipe σ js) envi) H' accV acc ∧
                Keep (Own σ env1) H1 H' ∧ Osub env1 envi ∧ mComp t.put js tt me (items.drop (i + 1)) acc envi = some (res, env2),
              fun H' ⟨a, b⟩ => ⟨items.length - (i + 1), by omega, rfl, a, b⟩, fun x H3 y => ?_⟩
            obtain ⟨kx, ax⟩ := st x H3 y
            have R3 := Ri.grow kx
            refine tk _ (T0.or (.one p)) (wipe σ js) H3 envi x items[i] envA _ R3 ax e3 fun vs hv sA RA OA => ?_
            refine ⟨wipe_setV hj, ?_⟩
            have ownA : ∀ a, Own (setV (tsOf t.is) vs (wipe σ js)) envA a → Own σ env1 a := fun a ⟨j, ⟨l, d, ej⟩, es⟩ => by
              obtain ⟨d', e'⟩ := OA j l d ej
              obtain ⟨v, ev, pp, hpp, _⟩ := RA.ok j _ ej
              -- the slot is none of the targets: an own slot was own before
              by_cases hm : j ∈ t.is
              · obtain ⟨v0, ev0, _⟩ := Ri.ok j _ e'
                exact absurd (hj j hm) (wipe_some ev0).2
              · rw [setV_get.2 j hm] at es
                exact ownw a ⟨j, ⟨l, d', e'⟩, es⟩
            have npA : ¬ Own (setV (tsOf t.is) vs (wipe σ js)) envA p := fun z => np (.inr (ownA p z))
            refine ⟨B1, T0.or (.one p), envA, b, envB, RA, e4, fun H4 k4 s4 R4 => ?_⟩
            have K4 : Keep (Own σ env1) H1 H4 := fun a u n q => k4 a u (fun z => n (ownA a z)) (kx a u (fun z => z) (Ki a u n q))
            have hacc4 : H4 p = some (.lst accV) := k4 p _ npA (kx p _ (fun z => z) hacc)
            have accM : ∀ {H' : Hp} {e' : MEnv}, Keep (Own σ env1) H1 H' → Osub envi e' → (∀ a u, ¬ Tot (T0.or (.one p)) (wipe σ js) envi a → Hi a = some u → H' a = some u) → AtL (Tot (T0.or (.one p)) (wipe σ js) e') H' accV acc := fun {H' e'} _ so kk =>
              AtL.move ⟨fun a u n q => ⟨kk a u n q, fun z => n (z.elim .inl fun w => .inr (so.own a w))⟩⟩ acc accV lacc
            have kk4 : ∀ a u, ¬ Tot (T0.or (.one p)) (wipe σ js) envi a → Hi a = some u → H4 a = some u := fun a u n q => by
              refine k4 a u (fun ⟨j, ⟨l, d, ej⟩, es⟩ => ?_) (kx a u (fun z => z) q)
              obtain ⟨d', e'⟩ := OA j l d ej
              by_cases hm : j ∈ t.is
              · obtain ⟨v0, ev0, _⟩ := Ri.ok j _ e'
                exact absurd (hj j hm) (wipe_some ev0).2
              · rw [setV_get.2 j hm] at es
                exact n (.inr ⟨j, ⟨l, d', e'⟩, es⟩)
            cases b with
            | false =>
              rw [if_neg Bool.false_ne_true] at run
              refine iteF ?_
              have R5 := rel_wipe (is := js) R4
              rw [wipe_setV hj] at R5
              exact ⟨hlt, wipeE envB js, acc, accV, R5, hacc4, accM K4 ((OA.trans s4).trans osub_wipe) kk4, K4, Oi.trans ((OA.trans s4).trans osub_wipe), run⟩
            | true =>
              rw [if_pos rfl] at run
              refine iteT ?_
              cases e5 : me envB with
              | none => simp [e5] at run
              | some w =>
                obtain ⟨o5, envC⟩ := w
                cases e6 : toDat o5 envC with
                | none => simp [e5, e6] at run
                | some u =>
                  obtain ⟨x6, envD⟩ := u
                  simp only [e5, e6] at run
                  split at run
                  · rename_i hsz
                    refine ⟨B1, T0.or (.one p), envB, o5, envC, R4, e5, fun v5 H5 k5 s5 o5' => ?_⟩
                    have npB : ¬ Own (setV (tsOf t.is) vs (wipe σ js)) envB p := fun z => npA (s4.own p z)
                    have R5 := opdK_base o5'
                    obtain ⟨R6, s6⟩ := toDat_rel R5 e6
                    have at6 := toDat_at o5' Osub.refl R5 e6
                    have hacc5 : H5 p = some (.lst accV) := k5 p _ npB hacc4
                    have K5 : Keep (Own σ env1) H1 H5 := fun a u n q => k5 a u (fun z => n (ownA a (s4.own a z))) (K4 a u n q)
                    have pin : Tot (T0.or (.one p)) (setV (tsOf t.is) vs (wipe σ js)) envD p := .inl (.inr rfl)
                    -- the list grows
                    have kU : Move (Tot (T0.or (.one p)) (setV (tsOf t.is) vs (wipe σ js)) envD) (Tot (T0.or (.one p)) (setV (tsOf t.is) vs (wipe σ js)) envD) H5 (upd H5 p (.lst (accV ++ [v5]))) :=
                      ⟨fun a u n q => ⟨by rw [upd_ne (fun z => n (by rw [z]; exact pin))]; exact q, n⟩⟩
                    have R7 : Rel (W.at B1) (T0.or (.one p)) (setV (tsOf t.is) vs (wipe σ js)) (upd H5 p (.lst (accV ++ [v5]))) envD := by
                      have up : ∀ a, H5 a ≠ none → upd H5 p (.lst (accV ++ [v5])) a ≠ none := fun a z => by
                        by_cases ha : a = p
                        · rw [ha, upd_same]; exact fun z => (nomatch z)
                        · rw [upd_ne ha]; exact z
                      have noD : ¬ Own (setV (tsOf t.is) vs (wipe σ js)) envD p := fun z => npB ((s5.trans s6).own p z)
                      refine ⟨R6.len, fun a z => (by
                        by_cases ha : a = p
                        · rw [ha]; exact mu_upd fun _ y => nomatch y
                        · exact (R6.dom a z).keep fun o q => by rw [upd_ne ha]; exact q), fun a z => up a (R6.bdom a z), fun j s ej => ?_, R6.inj⟩
                      obtain ⟨v, ev, ok⟩ := R6.ok j s ej
                      refine ⟨v, ev, ?_⟩
                      cases s with
                      | dat d => exact At.move kU d v ok
                      | brd n gs => exact BrdAt.move kU ok
                      | scr ns => exact ScrAt.move kU ok
                      | brds l9 => exact BrdsAt.move kU ok
                      | raw v0 => exact ok
                      | own l d =>
                        obtain ⟨q, rfl, c, n⟩ := ok
                        have qp : q ≠ p := fun z => noD ⟨j, ⟨l, d, ej⟩, z ▸ ev⟩
                        exact ⟨q, rfl, c.move kU fun o w => by rw [upd_ne qp]; exact w, n⟩
                    have R8 := rel_wipe (is := js) R7
                    rw [wipe_setV hj] at R8
                    have kk5 : ∀ a u, ¬ Tot (T0.or (.one p)) (wipe σ js) envi a → Hi a = some u → upd H5 p (.lst (accV ++ [v5])) a = some u := fun a u n q => by
                      rw [upd_ne (fun z => n (.inl (.inr z)))]
                      refine k5 a u (fun w => ?_) (kk4 a u n q)
                      obtain ⟨j, ⟨l, d, ej⟩, es⟩ := w
                      obtain ⟨d', e'⟩ := (OA.trans s4) j l d ej
                      by_cases hm : j ∈ t.is
                      · obtain ⟨v0, ev0, _⟩ := Ri.ok j _ e'
                        exact absurd (hj j hm) (wipe_some ev0).2
                      · rw [setV_get.2 j hm] at es
                        exact n (.inr ⟨j, ⟨l, d', e'⟩, es⟩)
                    have K6 : Keep (Own σ env1) H1 (upd H5 p (.lst (accV ++ [v5]))) := fun a u n q => by
                      rw [upd_ne (fun z => by rw [z, hp] at q; cases q)]
                      exact K5 a u n q
                    have so : Osub envi (wipeE envD js) := ((OA.trans s4).trans (s5.trans s6)).trans osub_wipe
                    refine ⟨accV, hacc5, ?_, hlt, wipeE envD js, acc ++ [x6], accV ++ [v5], R8, upd_same, (accM K6 so kk5).append (.cons ?_ .nil), K6, Oi.trans so, run⟩
                    · rw [lacc.length]
                      exact Nat.lt_of_lt_of_le hsz (by rw [sizeLine_eq]; exact Nat.le_refl _)
                    · refine At.move (kU.trans (Move.sub fun a z => z.elim .inl fun ⟨j, ⟨l, d, ej⟩, es⟩ => ?_)) x6 v5 at6
                      obtain ⟨nj, ej'⟩ := wipeE_some ej
                      refine .inr ⟨j, ⟨l, d, ej'⟩, ?_⟩
                      rw [setV_get.2 j fun z => nj (hj j z)]
                      exact es
                  · cases run
      · have hi' : i = items.length := by omega
        subst hi'
        rw [List.drop_length] at run
        cases run
        have less : ∀ {T : AS}, Rel (W.at B1) T σ Hi env2 → Rel W T σ Hi env2 := fun r => r.at (B0 := W.B0) (fun a z => r.bdom a (bB a z)) fun a z => .inl (bB a z)
        refine .inl ⟨S.fin Hi _ M, k _ Hi (k1.trans Ki fun a z => s1.own a z) (s1.trans Oi) ⟨p, rfl, ⟨fun z => np ?_, fun z => R1.bdom p z hp⟩, ⟨accV, hacc, ?_⟩, less Ru⟩⟩
        · exact z.elim .inl fun w => .inr (Oi.own p w)
        · refine AtL.move (Move.sub fun a z => ?_) _ accV lacc
          rcases z with z | ⟨j, ⟨l, d, ej⟩, es⟩
          · exact .inl z
          · obtain ⟨v, ev, _⟩ := Ri.ok j _ ej
            have := (wipe_some ev).1
            rw [es] at this
            cases this
            exact .inr ⟨j, ⟨l, d, ej⟩, ev⟩
theorem pm_lc {W : Wd} {X : Cx} {elt tg iter : Expr} {ifs : List Expr} {scope : Scope} {own : List (Str × Nat)} {pos : Pos} {t : Tgt} {g : TG} {mi : MI} {tt : MT} {me : MX} (hc : X.calm = true) (hN : X.N.Nodup) (hi : PMI W X tg iter mi) (ok : BlkOk X.N X.env.scope scope own)
    (tk : TgOk t g) (hj : ∀ i ∈ t.is, i ∈ own.map (·.2)) (hg : ∀ (s : Shared) (H : Hp) (C : Addr) (cl : List (Str × Addr)) (fp : List Addr), PG (X.blk s H scope (compEnvC scope cl C X.env) fp) tg g)
    (ht : ∀ (s : Shared) (H : Hp) (C : Addr) (cl : List (Str × Addr)) (fp : List Addr), PMTs W (X.blk s H scope (compEnvC scope cl C X.env) fp) ifs tt) (he : ∀ (s : Shared) (H : Hp) (C : Addr) (cl : List (Str × Addr)) (fp : List Addr), PM W (X.blk s H scope (compEnvC scope cl C X.env) fp) elt me)
    (hs : ∀ x, foldedSetIterable iter X.env x = pure x := by intro _; rfl) : PM W X (.ListComp elt [⟨tg, iter, ifs, 0⟩] scope pos) (mLc t (own.map (·.2)) mi tt me) :=
  ⟨fun B0 => PE.imp (pe_lc hc hN (hi.pi B0) ok hg (fun s H C cl fp => (ht s H C cl fp).ptx) (fun s H C cl fp => (he s H C cl fp).pex) hs) fun σ H Q h => lc_split (W := W.at B0) tk hj h⟩
end Mx

set_option Elab.async false
set_option autoImplicit false
set_option linter.all false
set_option maxRecDepth 100000
/-! Mx8: several stores, stores into lists, methods of lists, built-in functions, a Board's fields. -/
namespace Mx
open PySem PySem.Spec PyProof.Rows L2
/-! ### a, b = x, y -/
def mPar (ts : List (Nat × Bool)) (ma : MA) : MS := fun env => (ma env).bind fun (os, env1) => (norms os env1).bind fun (os', env2) => (setAll ts os' env2).bind fun env3 => some (.nx, env3)
theorem setAll_len : ∀ {ts : List (Nat × Bool)} {os : List Opd} {env env' : MEnv}, setAll ts os env = some env' → os.length = ts.length
  | [], [], _, _, _ => rfl
  | [], _ :: _, _, _, e => by cases e
  | (_, _) :: _, [], _, _, e => by cases e
  | (i, b) :: ts, o :: os, env, env', e => by
    unfold setAll at e
    split at e
    · cases q : slotOf b o with
      | none => rw [q] at e; cases e
      | some s =>
        rw [q] at e
        have := setAll_len (show setAll ts os _ = some env' from e)
        simp [this]
    · cases e
theorem opds_true {W : Wd} {σ : L2.St} {H : Hp} {env : MEnv} {T0 : AS} {vs : List V} {os : List Opd} (h : OpdsK W σ H env T0 vs os (fun T => Rel W T σ H env)) : OpdsK W σ H env T0 vs os (fun T => True ∧ Rel W T σ H env) := h.imp fun _ r => ⟨trivial, r⟩
theorem par_split {W : Wd} {ts : List (Nat × Bool)} {ma : MA} {E : Ends} {σ : L2.St} {H : Hp} (h : tS W (mPar ts ma) E σ H) : tMA W ma σ H fun vs H1 => vs.length = ts.length ∧ E.nx (setV ts vs σ) H1 := by
  obtain ⟨T0, env, f, env', R, e, k⟩ := h
  unfold mPar at e
  cases e1 : ma env with
  | none => simp [e1] at e
  | some z =>
    obtain ⟨os, env1⟩ := z
    cases e2 : norms os env1 with
    | none => simp [e1, e2] at e
    | some y =>
      obtain ⟨os', env2⟩ := y
      cases e3 : setAll ts os' env2 with
      | none => simp [e1, e2, e3] at e
      | some env3 =>
        simp [e1, e2, e3] at e
        obtain ⟨rfl, rfl⟩ := e
        refine ⟨T0, env, os, env1, R, e1, fun vs H1 k1 s1 o1 => ?_⟩
        obtain ⟨T', _, F, s2⟩ := flat_of (P := fun _ => True) (opds_true o1) Osub.refl e2
        obtain ⟨R3, par⟩ := set_rel F e3
        exact ⟨F.len.trans (setAll_len e3), k _ H1 ⟨fun a u _ n q => k1 a u n q, fun j d q => by
          obtain ⟨q1, q2⟩ := par j d q
          exact ⟨q1, (s1.trans s2) j false d q2⟩⟩ R3⟩
section
variable {W : Wd} {X : Cx} {a b c : Expr} {m : MA} {pos : Pos}
theorem pms_par2 {i j : Nat} {bi bj : Bool} {x y : Str} {px py pt : Pos} {kt k2 pt2} (hc : X.calm = true) (hN : X.N.Nodup) (hi : X.N[i]? = some x) (hj : X.N[j]? = some y) (hij : i ≠ j) (hx : X.env.scope.names.lookup x = some .local) (hy : X.env.scope.names.lookup y = some .local)
    (ha : PMA W X [a, b] m) (hw : swappedStores [.Tuple [.Name x px, .Name y py] kt pt] (.Tuple [a, b] k2 pt2) X.env = pure (some [x, y])) (hs : swapsWithSole [.Tuple [.Name x px, .Name y py] kt pt] (.Tuple [a, b] k2 pt2) pos.line X.env = pure false := by rfl) :
    PMS W X (.Assign [.Tuple [.Name x px, .Name y py] kt pt] (.Tuple [a, b] k2 pt2) pos) (mPar [(i, bi), (j, bj)] m) :=
  ⟨fun B0 => PS.imp (ps_par hc hN hi hj hij hx hy (ha.pa B0) hw hs) fun E σ H h => by
    obtain ⟨T0, env, os, env', R, e, k⟩ := par_split h
    refine ⟨T0, env, os, env', R, e, fun vs H1 k1 s1 o1 => ?_⟩
    obtain ⟨hl, q⟩ := k vs H1 k1 s1 o1
    match vs, hl, q with
    | [v, w], _, q => exact ⟨v, w, rfl, q⟩⟩
theorem pms_par3 {i j l : Nat} {bi bj bl : Bool} {x y z : Str} {px py pz pt : Pos} {kt k2 pt2} (hc : X.calm = true) (hN : X.N.Nodup) (hi : X.N[i]? = some x) (hj : X.N[j]? = some y) (hl : X.N[l]? = some z) (hij : i ≠ j) (hil : i ≠ l) (hjl : j ≠ l)
    (hx : X.env.scope.names.lookup x = some .local) (hy : X.env.scope.names.lookup y = some .local) (hz : X.env.scope.names.lookup z = some .local) (ha : PMA W X [a, b, c] m)
    (hw : swappedStores [.Tuple [.Name x px, .Name y py, .Name z pz] kt pt] (.Tuple [a, b, c] k2 pt2) X.env = pure (some [x, y, z])) (hs : swapsWithSole [.Tuple [.Name x px, .Name y py, .Name z pz] kt pt] (.Tuple [a, b, c] k2 pt2) pos.line X.env = pure false := by rfl) :
    PMS W X (.Assign [.Tuple [.Name x px, .Name y py, .Name z pz] kt pt] (.Tuple [a, b, c] k2 pt2) pos) (mPar [(i, bi), (j, bj), (l, bl)] m) :=
  ⟨fun B0 => PS.imp (ps_par3 hc hN hi hj hl hij hil hjl hx hy hz (ha.pa B0) hw hs) fun E σ H h => by
    obtain ⟨T0, env, os, env', R, e, k⟩ := par_split h
    refine ⟨T0, env, os, env', R, e, fun vs H1 k1 s1 o1 => ?_⟩
    obtain ⟨hl, q⟩ := k vs H1 k1 s1 o1
    match vs, hl, q with
    | [u, v, w], _, q => exact ⟨u, v, w, rfl, q⟩⟩
end

/-! ### a list that a slot owns is written -/
theorem own_write {W : Wd} {T0 : AS} {σ : L2.St} {H : Hp} {env : MEnv} {i : Nat} {l : Bool} {d0 d : D} {p : Addr} {u : HO} (R : Rel W T0 σ H env) (e : env[i]? = some (some (.own l d0))) (hp : σ[i]? = some (some (.ref p)))
    (c : Cont (Tot T0 σ env) (upd H p u) p d) : Rel W T0 σ (upd H p u) (env.set i (some (.own l d))) ∧ Osub env (env.set i (some (.own l d))) ∧ Keep (Own σ env) H (upd H p u) := by
  have hi : i < env.length := (List.getElem?_eq_some_iff.mp e).1
  have pO : Own σ env p := ⟨i, ⟨l, d0, e⟩, hp⟩
  have sub : Osub env (env.set i (some (.own l d))) := fun j l' d' h => by
    by_cases hj : j = i
    · subst hj
      rw [List.getElem?_set_self hi] at h
      cases h
      exact ⟨d0, e⟩
    · rw [List.getElem?_set_ne (Ne.symm hj)] at h
      exact ⟨d', h⟩
  have M : Move (Tot T0 σ env) (Tot T0 σ (env.set i (some (.own l d)))) H (upd H p u) := ⟨fun a o n q => ⟨by rw [upd_ne (fun z => n (by rw [z]; exact .inr pO))]; exact q, fun z => n (sub.tot a z)⟩⟩
  have up : ∀ a, H a ≠ none → upd H p u a ≠ none := fun a z => by
    by_cases ha : a = p
    · rw [ha, upd_same]; exact fun z => (nomatch z)
    · rw [upd_ne ha]; exact z
  refine ⟨⟨by rw [List.length_set]; exact R.len, fun a z => (by
    by_cases ha : a = p
    · rw [ha]; exact Cont.mu c
    · exact (R.dom a z).keep fun o q => by rw [upd_ne ha]; exact q), fun a z => up a (R.bdom a z), fun j s h => ?_, fun j k a hj hk => ?_⟩, sub, Keep.set pO⟩
  · by_cases hj : j = i
    · subst hj
      rw [List.getElem?_set_self hi] at h
      cases h
      obtain ⟨v, ev, q, rfl, _, n⟩ := R.ok j _ e
      rw [hp] at ev
      cases ev
      exact ⟨_, hp, p, rfl, c.move (Move.sub sub.tot) fun _ q => q, n⟩
    · rw [List.getElem?_set_ne (Ne.symm hj)] at h
      obtain ⟨v, ev, o⟩ := R.ok j s h
      refine ⟨v, ev, ?_⟩
      cases s with
      | dat d => exact At.move M d v o
      | brd n gs => exact BrdAt.move M o
      | scr ns => exact ScrAt.move M o
      | brds l9 => exact BrdsAt.move M o
      | raw v0 => exact o
      | own l' d' =>
        obtain ⟨q, rfl, c1, n⟩ := o
        have qp : q ≠ p := fun z => hj (R.inj j i p ⟨⟨l', d', h⟩, z ▸ ev⟩ ⟨⟨l, d0, e⟩, hp⟩)
        exact ⟨q, rfl, c1.move M fun o w => by rw [upd_ne qp]; exact w, n⟩
  · obtain ⟨⟨l1, d1, e1⟩, es1⟩ := hj
    obtain ⟨⟨l2, d2, e2⟩, es2⟩ := hk
    obtain ⟨d1', e1'⟩ := sub j l1 d1 e1
    obtain ⟨d2', e2'⟩ := sub k l2 d2 e2
    exact R.inj j k a ⟨⟨l1, d1', e1'⟩, es1⟩ ⟨⟨l2, d2', e2'⟩, es2⟩
def ownL : Option (Option Slot) → Option (Bool × List D)
  | some (some (.own l (.list ds))) => some (l, ds)
  | _ => none
theorem ownL_some {o : Option (Option Slot)} {l : Bool} {ds : List D} (h : ownL o = some (l, ds)) : o = some (some (.own l (.list ds))) := by
  unfold ownL at h
  split at h
  · cases h; rfl
  · cases h
/-- x[k] = e -/
def mSub (i : Nat) (mi me : MX) : MS := fun env => (mCons me (mCons (mVar i) (mCons mi mNil)) env).bind fun (os, env1) => match os with
  | [o, _, oi] => (gInt (peek oi env1)).bind fun k => (toDat o env1).bind fun (d, env2) => (ownL env2[i]?).bind fun (l, ds) => (ixN ds.length k).bind fun j => some (.nx, env2.set i (some (.own l (.list (ds.set j d)))))
  | _ => none
theorem mVar_slot {i : Nat} {env env1 : MEnv} {o : Opd} (e : mVar i env = some (o, env1)) : o = .slot i ∧ env1 = env := by
  unfold mVar at e
  split at e
  · cases e; exact ⟨rfl, rfl⟩
  · cases e
theorem pms_sub {W : Wd} {X : Cx} {o ix e : Expr} {i : Nat} {mi me : MX} {p1 pos : Pos} (ho : PM W X o (mVar i)) (hi : PM W X ix mi) (he : PM W X e me) (ha : ∀ v, assign (.Subscript o ix p1) X.env v = (do
      let ov ← holding [v] (eval o X.env)
      let iv ← holding [v, ov] (eval ix X.env)
      standAt p1
      holding [v, ov, iv] (setItem ov iv v)
      release [v, ov, iv] []) := by intro _; rfl)
    (hs : swapsWithSole [.Subscript o ix p1] e pos.line X.env = pure false := by rfl) (hw : swappedStores [.Subscript o ix p1] e X.env = pure none := by rfl) (h1 : (assignEach [.Subscript o ix p1] X.env).map (·.2) = [assign (.Subscript o ix p1) X.env] := by rfl) :
    PMS W X (.Assign [.Subscript o ix p1] e pos) (mSub i mi me) :=
  ⟨fun B0 => PS.imp (ps_asg (he.pe B0) (pg_sub ho.pex hi.pex set_list ha) hs hw h1) fun E σ H ⟨T0, env, f, env', R, e, k⟩ => by
    unfold mSub at e
    cases e1 : mCons me (mCons (mVar i) (mCons mi mNil)) env with
    | none => simp [e1] at e
    | some z =>
      obtain ⟨os, env1⟩ := z
      simp only [e1, Option.bind] at e
      have q : tMA (W.at B0) (mCons me (mCons (mVar i) (mCons mi mNil))) σ H (fun vs H1 => ∃ v x y, vs = [v, x, y] ∧ rSetL x y v H1 fun H3 => E.nx σ H3) := by
        refine ⟨T0, env, os, env1, R, e1, fun vs H1 k1 s1 o1 => ?_⟩
        split at e
        · rename_i o2 oX oi
          -- the middle operand is the slot
          have hX : oX = .slot i := by
            unfold mCons at e1
            cases f1 : me env with
            | none => simp [f1] at e1
            | some w =>
              obtain ⟨a1, b1⟩ := w
              cases f2 : mVar i b1 with
              | none => simp [f1, f2] at e1
              | some w2 =>
                obtain ⟨a2, b2⟩ := w2
                obtain ⟨rfl, rfl⟩ := mVar_slot f2
                cases f3 : mi b2 with
                | none => simp [f1, f2, f3] at e1
                | some w3 =>
                  simp [f1, f2, f3, mNil] at e1
                  exact e1.1.2.1.symm
          subst hX
          cases e2 : gInt (peek oi env1) with
          | none => simp [e2] at e
          | some n =>
            cases e3 : toDat o2 env1 with
            | none => simp [e2, e3] at e
            | some w =>
              obtain ⟨d, env2⟩ := w
              simp only [e2, e3] at e
              cases e4 : ownL env2[i]? with
              | none => simp [e4] at e
              | some w2 =>
                obtain ⟨l, ds⟩ := w2
                simp only [e4] at e
                cases e5 : ixN ds.length n with
                | none => simp [e5] at e
                | some j =>
                  simp [e5] at e
                  obtain ⟨rfl, rfl⟩ := e
                  cases vs with
                  | nil => exact o1.elim
                  | cons v vs =>
                    obtain ⟨T1, s1', h1', h2'⟩ := opdsK_cons o1
                    obtain ⟨x, y, T2, rfl, s2', h3', h4', R2, R1⟩ := opds2 h2'
                    have R0 := R1.less s1'
                    have hy := at_int (peek_at h4' R2 (gInt_some e2))
                    subst hy
                    obtain ⟨R3, s3⟩ := toDat_rel R0 e3
                    have av := toDat_at h1' Osub.refl R0 e3
                    have hs := ownL_some e4
                    have hx : σ[i]? = some (some x) := h3'.1
                    obtain ⟨p, rfl, ⟨xs, hp, la⟩, n0⟩ := slot_get R3 hx hs
                    refine ⟨v, _, _, rfl, p, xs, n, j, rfl, rfl, hp, by rw [la.length]; exact e5, ?_⟩
                    have M : Move (Tot T0 σ env2) (Tot T0 σ env2) H1 (upd H1 p (.lst (xs.set j v))) := ⟨fun a o nn q => ⟨by rw [upd_ne (fun z => nn (by rw [z]; exact .inr ⟨i, ⟨l, _, hs⟩, hx⟩))]; exact q, nn⟩⟩
                    obtain ⟨R4, s4, k4⟩ := own_write (u := .lst (xs.set j v)) (d := .list (ds.set j d)) R3 hs hx ⟨_, upd_same, AtL.set (At.move M d v av) j (AtL.move M ds xs la)⟩
                    exact k σ _ (Stp.of (k1.trans k4 fun a z => (s1.trans s3).own a z) ((s1.trans s3).trans s4)) R4
        · cases e
      refine tM_mono (mcons_split q) fun v H1 q1 => ?_
      obtain ⟨B1, q1⟩ := q1
      refine ⟨B1, tM_mono (mcons_split q1) fun x H2 q2 => ?_⟩
      obtain ⟨B2, q2⟩ := q2
      refine ⟨B2, tM_mono (split1 q2) fun y H3 ⟨v', x', y', e, q3⟩ => ?_⟩
      cases e
      exact q3⟩
/-- x.append(e) as a statement -/
def mApp (i : Nat) (me : MX) : MS := fun env => (ownL env[i]?).bind fun _ => (me env).bind fun (o, env1) => (toDat o env1).bind fun (d, env2) => (ownL env2[i]?).bind fun (l, ds) =>
  if ds.length < 16777216 then some (.nx, env2.set i (some (.own l (.list (ds ++ [d]))))) else none
theorem pms_app {W : Wd} {X : Cx} {o e : Expr} {i : Nat} {me : MX} {apos cpos pos : Pos} (ho : PM W X o (mVar i)) (he : PM W X e me) (hpe : ∀ {to : TE} {t : TA}, PE X o to → PA X [e] t → PE X (.Call (.Attribute o "append" apos) [e] [] cpos) (tBM X.K "list" rAppend to t))
    (hse : starEach [e] X.env = (false, eval e X.env) :: starEach [] X.env := by rfl) (hs : swapsWith (.Call (.Attribute o "append" apos) [e] [] cpos) none pos.line X.env = pure false := by rfl) : PMS W X (.Expr (.Call (.Attribute o "append" apos) [e] [] cpos) pos) (mApp i me) :=
  ⟨fun B0 => PS.imp (ps_expr (hpe (ho.pe B0) (pma_cons he pma_nil hse).pax) hs) fun E σ H ⟨T0, env, f, env', R, e, k⟩ => by
    unfold mApp at e
    cases e0 : ownL env[i]? with
    | none => simp [e0] at e
    | some w0 =>
      obtain ⟨l0, ds0⟩ := w0
      cases e1 : me env with
      | none => simp [e0, e1] at e
      | some z =>
        obtain ⟨o2, env1⟩ := z
        cases e3 : toDat o2 env1 with
        | none => simp [e0, e1, e3] at e
        | some w =>
          obtain ⟨d, env2⟩ := w
          cases e4 : ownL env2[i]? with
          | none => simp [e0, e1, e3, e4] at e
          | some w2 =>
            obtain ⟨l, ds⟩ := w2
            simp only [e0, e1, e3, e4, Option.bind] at e
            split at e
            · rename_i hl
              cases e
              have hs0 := ownL_some e0
              refine ⟨T0, env, .slot i, env, R, by unfold mVar; rw [hs0], fun x H1 k1 s1 o1 => ?_⟩
              obtain ⟨hx, R1⟩ := o1
              obtain ⟨p, rfl, ⟨xs0, hp0, la0⟩, n0⟩ := slot_get R1 hx hs0
              refine ⟨.inl ⟨rfl, xs0, SqL.of hp0⟩, B0, T0, env, [o2], env1, R1, by simp [mCons, mNil, e1], fun vs H2 k2 s2 o2' => ?_⟩
              obtain ⟨y, rfl, h2', R2⟩ := opds1 o2'
              obtain ⟨R3, s3⟩ := toDat_rel R2 e3
              have av := toDat_at h2' Osub.refl R2 e3
              have hs := ownL_some e4
              obtain ⟨p', hp', ⟨xs, hp, la⟩, _⟩ := slot_get R3 hx hs
              cases hp'
              refine ⟨p, xs, y, rfl, rfl, hp, by rw [la.length, sizeLine_eq]; exact hl, ?_⟩
              have M : Move (Tot T0 σ env2) (Tot T0 σ env2) H2 (upd H2 p (.lst (xs ++ [y]))) := ⟨fun a o nn q => ⟨by rw [upd_ne (fun z => nn (by rw [z]; exact .inr ⟨i, ⟨l, _, hs⟩, hx⟩))]; exact q, nn⟩⟩
              obtain ⟨R4, s4, k4⟩ := own_write (u := .lst (xs ++ [y])) (d := .list (ds ++ [d])) R3 hs hx ⟨_, upd_same, (AtL.move M ds xs la).append (.cons (At.move M d y av) .nil)⟩
              exact k σ _ (Stp.of ((k1.trans k2 fun a z => s1.own a z).trans k4 fun a z => (s2.trans s3).own a z) ((s2.trans s3).trans s4)) R4
            · cases e⟩
end Mx

set_option Elab.async false
set_option autoImplicit false
set_option linter.all false
set_option maxRecDepth 100000
/-! Mx9: repr, len, min, max, list, tuple, str, int, isinstance, the script, a Board's fields. -/
namespace Mx
open PySem PySem.Spec PyProof.Rows L2
/-! ### what the library reads of data -/
def Known (H : Hp) (as : List Addr) : Prop := ∀ a ∈ as, (∃ xs, H a = some (.lst xs)) ∨ (∃ kvs, H a = some (.dK kvs)) ∨ ∃ kvs, H a = some (.dT kvs)
theorem Known.nil {H : Hp} : Known H [] := fun _ h => by cases h
theorem Known.app {H : Hp} {as bs : List Addr} (h : Known H as) (k : Known H bs) : Known H (as ++ bs) := fun a m => (List.mem_append.mp m).elim (h a) (k a)
theorem key_reads {h : Heap} {k : Key} {u : Value} (e : keyIs k u = true) : Reads h u (kD k) [] := by
  rcases keyIs_shape e with ⟨i, t, rfl, rfl⟩ | ⟨x, t, rfl, rfl⟩
  · exact Reads.int i t
  · exact Reads.str x t
theorem kV_reads {h : Heap} {k : Key} {u : Value} (r : RelV (kV k) u) : Reads h u (kD k) [] := by
  cases k with
  | inl i => obtain ⟨t, rfl⟩ := (show ∃ t, u = .int i t from r); exact Reads.int i t
  | inr x => obtain ⟨t, rfl⟩ := (show ∃ t, u = .str x t from r); exact Reads.str x t
theorem kVs_reads {h : Heap} : ∀ {ks : List Key} {us : List Value}, Vals (ks.map kV) us → ReadsAll h us (ks.map kD) []
  | [], _, r => by cases r; exact ReadsAll.nil
  | k :: ks, _, r => by
    rw [List.map_cons] at r
    cases r with
    | cons a b => exact ReadsAll.cons (kV_reads a) (kVs_reads b)
section
variable {X : Cx} {pins : List (Addr × Obj)} {σ : L2.St} {H : Hp} {s : Shared} {T : AS}
mutual
theorem At.reads (hI : Inv X pins σ H s) : ∀ (d : PyData) (v : V) (u : Value), At T H v d → RelV v u → ∃ as, Reads s.heap u d as ∧ Known H as
  | .none, _, _, h, r => by
    cases h
    cases r
    exact ⟨_, Reads.none, .nil⟩
  | .bool b, _, _, h, r => by
    cases h
    cases r
    exact ⟨_, Reads.bool b, .nil⟩
  | .int i, _, _, h, r => by
    cases h
    obtain ⟨t, rfl⟩ := r
    exact ⟨_, Reads.int i t, .nil⟩
  | .str x, _, _, h, r => by
    cases h
    obtain ⟨t, rfl⟩ := r
    exact ⟨_, Reads.str x t, .nil⟩
  | .list ds, _, _, h, r => by
    cases h with
    | @lst a0 xs0 _ n e l =>
      cases r
      obtain ⟨its, rv, ⟨o, m, ho, hc, _, hd⟩, _⟩ := hI.list (SqL.of e)
      obtain ⟨as, hr, ka⟩ := AtL.reads hI ds _ its l rv
      exact ⟨_, Reads.list ho hc hd hr, fun a m => (List.mem_cons.mp m).elim (fun z => .inl ⟨xs0, by rw [z]; exact e⟩) (ka a)⟩
  | .tuple ds, _, _, h, r => by
    cases h with
    | tup n e l =>
      cases r
      obtain ⟨its, rv, ⟨o, ho, hc, m, hd⟩, _⟩ := hI.tuple (SqT.of e)
      obtain ⟨as, hr, ka⟩ := AtL.reads hI ds _ its l rv
      exact ⟨_, Reads.tuple ho hc hd hr, ka⟩
  | .dict ds, _, _, h, r => by
    cases h with
    | @dic a kvs _ n e l =>
      cases r
      obtain ⟨_, _, vs, rkv, o, es, ep, ho, hx, hd, _, hp, _⟩ := (show ObjOk X.prog X.w H s.heap a (.dK kvs) from hI.hok a _ e)
      obtain ⟨as, bs, h1, h2, k2⟩ := AtM.reads hI ds kvs vs es.toList l rkv hp
      refine ⟨_, Reads.dict ho hx.1 hd h1 h2, fun b m => ?_⟩
      rcases List.mem_append.mp m with m | m
      · rcases List.mem_cons.mp m with z | z
        · exact .inr (.inl ⟨_, by rw [z]; exact e⟩)
        · exact (k2.1 b z)
      · exact k2.2 b m
    | @dit a kvs _ n e z l =>
      cases r
      obtain ⟨_, _, xs, rkv, o, es, ep, ho, hx, hd, hp, _⟩ := (show ObjOk X.prog X.w H s.heap a (.dT kvs) from hI.hok a _ e)
      obtain ⟨as, bs, h1, h2, k2⟩ := AtT.reads hI ds kvs xs l rkv
      rw [← hp] at h1 h2
      refine ⟨_, Reads.dict ho hx.1 hd h1 h2, fun b m => ?_⟩
      rcases List.mem_append.mp m with m | m
      · rcases List.mem_cons.mp m with z | z
        · exact .inr (.inr ⟨_, by rw [z]; exact e⟩)
        · exact (k2.1 b z)
      · exact k2.2 b m
theorem AtL.reads (hI : Inv X pins σ H s) : ∀ (ds : List PyData) (vs : List V) (us : List Value), AtL T H vs ds → Vals vs us → ∃ as, ReadsAll s.heap us ds as ∧ Known H as
  | [], _, _, h, r => by
    cases h
    cases r
    exact ⟨_, ReadsAll.nil, .nil⟩
  | d :: ds, _, _, h, r => by
    cases h with
    | cons h1 h2 =>
      cases r with
      | cons r1 r2 =>
        obtain ⟨as, q1, k1⟩ := At.reads hI d _ _ h1 r1
        obtain ⟨bs, q2, k2⟩ := AtL.reads hI ds _ _ h2 r2
        exact ⟨_, ReadsAll.cons q1 q2, k1.app k2⟩
theorem AtM.reads (hI : Inv X pins σ H s) : ∀ (ds : List (PyData × PyData)) (kvs : List (Key × V)) (vs : List (Key × Value)) (es : List DictEntry), AtM T H kvs ds → KV kvs vs → Pairs (mixKind X.prog X.w) es vs →
    ∃ as bs, ReadsAll s.heap (es.map (·.key)) (ds.map (·.1)) as ∧ ReadsAll s.heap (es.map (·.val)) (ds.map (·.2)) bs ∧ Known H as ∧ Known H bs
  | [], _, _, _, h, r, p => by
    cases h
    cases r
    cases p
    exact ⟨_, _, ReadsAll.nil, ReadsAll.nil, .nil, .nil⟩
  | (_, d) :: ds, _, _, _, h, r, p => by
    cases h with
    | cons h1 h2 =>
      cases r with
      | cons r1 r2 =>
        cases p with
        | cons p1 p2 p3 =>
          obtain ⟨as, bs, q1, q2, k1, k2⟩ := AtM.reads hI ds _ _ _ h2 r2 p3
          obtain ⟨cs, q3, k3⟩ := At.reads hI d _ _ h1 r1.2
          rw [← p2] at q3
          have kr := key_reads (h := s.heap) (mixKind_is _ _ _ _ ▸ p1)
          rw [← r1.1] at kr
          exact ⟨_, _, ReadsAll.cons kr q1, ReadsAll.cons q3 q2, Known.nil.app k1, k3.app k2⟩
theorem AtT.reads (hI : Inv X pins σ H s) : ∀ (ds : List (PyData × PyData)) (kvs : List (List Key × V)) (xs : List (List Key × Addr × Value)), AtT T H kvs ds → KT H kvs xs →
    ∃ as bs, ReadsAll s.heap ((xs.map (entryOfKey (tupleKind (mixKind X.prog X.w)))).map (·.key)) (ds.map (·.1)) as ∧ ReadsAll s.heap ((xs.map (entryOfKey (tupleKind (mixKind X.prog X.w)))).map (·.val)) (ds.map (·.2)) bs ∧ Known H as ∧ Known H bs
  | [], _, _, h, r => by
    cases h
    cases r
    exact ⟨_, _, ReadsAll.nil, ReadsAll.nil, .nil, .nil⟩
  | (_, d) :: ds, _, _, h, r => by
    cases h with
    | cons h1 h2 =>
      cases r with
      | cons r1 r2 =>
        obtain ⟨as, bs, q1, q2, k1, k2⟩ := AtT.reads hI ds _ _ h2 r2
        obtain ⟨cs, q3, k3⟩ := At.reads hI d _ _ h1 r1.2.2
        obtain ⟨its, rv, ⟨o, ho, hc, m, hd⟩, _⟩ := hI.tuple (SqT.of r1.2.1)
        have kr := Reads.tuple ho hc hd (kVs_reads (h := s.heap) rv)
        exact ⟨_, _, ReadsAll.cons kr q1, ReadsAll.cons q3 q2, Known.nil.app k1, k3.app k2⟩
end
end

/-! ### repr -/
/-- a dict stands nowhere in it but, with plain values, at its top -/
def flatShow : D → Bool
  | .dict kvs => kvs.all fun p => (match p.1 with
    | .tuple _ => false
    | _ => true) && match p.2 with
    | .list _ => false
    | .tuple _ => false
    | .dict _ => false
    | _ => true
  | d => !d.hasDict
def gRepr (deep : Bool) : List D → Option D
  | [d] => if d.showable = true ∧ d.depth ≤ 30 ∧ d.shown.length ≤ 16777216 ∧ (deep = true ∨ flatShow d = true) then some (.str d.shown) else none
  | _ => none
/-- the dict of modules is no list of ours -/
def SysAt (K : PySem.W.Frag) (H : Hp) : Prop := (∃ o, H sysModules = some (.frz o (.own 0))) ∨ ∃ o es n, K.lookup sysModules = some o ∧ o.data = .dict es n
theorem known_sys {X : Cx} {pins : List (Addr × Obj)} {σ : L2.St} {H : Hp} {s : Shared} {as : List Addr} (hI : Inv X pins σ H s) (k : Known H as) (h : SysAt X.K X.H_0) : sysModules ∉ as := fun m => by
  rcases k _ m with ⟨xs, e'⟩ | ⟨kvs, e'⟩ | ⟨kvs, e'⟩
  · rcases h with ⟨o, e⟩ | ⟨o, es, n, e, d⟩
    · have e2 := hI.base.frzs _ _ _ e
      rw [e2] at e'; cases e'
    · have e2 := hI.kIn _ _ e
      obtain ⟨_, its, n', _, e3⟩ := (show ObjOk X.prog X.w H s.heap sysModules (.lst xs) from hI.hok _ _ e')
      rw [e2] at e3
      cases e3
      have d' : Data.seq its.toArray n' = Data.dict es n := d
      cases d'
  · obtain ⟨_, ne, _⟩ := (show ObjOk X.prog X.w H s.heap sysModules (.dK kvs) from hI.hok _ _ e')
    simp at ne
  · obtain ⟨_, ne, _⟩ := (show ObjOk X.prog X.w H s.heap sysModules (.dT kvs) from hI.hok _ _ e')
    simp at ne
theorem flat_reads {h : Heap} {as : List Addr} {u : Value} {kvs : List (D × D)} (hf : flatShow (.dict kvs) = true) (r : Reads h u (.dict kvs) as) (hk : ∀ p ∈ kvs, ∃ k, p.1 = kD k) : ∃ a, u = .ref a ∧ ∀ b ∈ as, b = a := by
  cases r with
  | @dict a o es n _ as bs e1 e2 e3 h1 h2 =>
    have all1 : ∀ (l : List D) (us : List Value) (as : List Addr), ReadsAll h us l as → (∀ d ∈ l, ∃ k, d = kD k) → as = [] := by
      intro l
      induction l with
      | nil => intro us as r _; cases r; rfl
      | cons d l ih =>
        intro us as r hd
        cases r with
        | cons r1 r2 =>
          obtain ⟨k, rfl⟩ := hd _ List.mem_cons_self
          rw [ih _ _ r2 fun d m => hd d (List.mem_cons_of_mem _ m)]
          cases k <;> (cases r1; rfl)
    have all2 : ∀ (l : List D) (us : List Value) (as : List Addr), ReadsAll h us l as → (∀ d ∈ l, (match d with | .list _ => false | .tuple _ => false | .dict _ => false | _ => true) = true) → as = [] := by
      intro l
      induction l with
      | nil => intro us as r _; cases r; rfl
      | cons d l ih =>
        intro us as r hd
        cases r with
        | cons r1 r2 =>
          have := hd _ List.mem_cons_self
          rw [ih _ _ r2 fun d m => hd d (List.mem_cons_of_mem _ m)]
          cases d <;> first | (cases r1; rfl) | cases this
    refine ⟨a, rfl, fun b m => ?_⟩
    rw [all1 _ _ _ h1 fun d m => by
      obtain ⟨p, hp, rfl⟩ := List.mem_map.mp m
      exact hk p hp, all2 _ _ _ h2 fun d m => by
      obtain ⟨p, hp, rfl⟩ := List.mem_map.mp m
      exact (Bool.and_eq_true_iff.mp (List.all_eq_true.mp hf p hp)).2] at m
    simpa using m
theorem atm_keys {T : AS} {H : Hp} : ∀ {ds : List (D × D)} {kvs : List (Key × V)}, AtM T H kvs ds → ∀ p ∈ ds, ∃ k, p.1 = kD k
  | [], _, _, p, m => by cases m
  | q :: ds, _, h, p, m => by
    cases h with
    | cons a b =>
      rcases List.mem_cons.mp m with rfl | m
      · exact ⟨_, rfl⟩
      · exact atm_keys b p m
/-- repr, where nothing else is being shown -/
def rRepr (deep : Bool) : List V → Hp → VK → Prop := fun vs H Q => ∃ v d y, vs = [v] ∧ At AS.emp H v d ∧ gRepr deep [d] = some (.str y) ∧ Q (.str y) H
theorem call_repr {X : Cx} {deep : Bool} (hg : X.A.guards = some []) (hu : X.A.units + 64 < cLine) (hs : deep = true → SysAt X.K X.H_0) : CallR X (.builtin "repr") (rRepr deep) := by
  intro pins s σ H xs us Q hI r h
  obtain ⟨v, d, y, rfl, a, e, q⟩ := h
  obtain ⟨u, rfl, ru⟩ := vals1 r
  unfold gRepr at e
  simp only at e
  split at e
  · rename_i hc
    obtain ⟨h1, h2, h3, h4⟩ := hc
    cases e
    have h3' : d.shown.length ≤ sizeLine := by rw [sizeLine_eq]; exact h3
    obtain ⟨as, rd, ka⟩ := a.reads hI d v u ru
    have hsm : d.hasDict = true → sysModules ∉ as := fun hd => by
      rcases h4 with h4 | h4
      · exact known_sys hI ka (hs h4)
      · cases d with
        | dict kvs =>
          cases a with
          | @dic p kv _ n e l =>
            cases (show u = Value.ref p from ru)
            obtain ⟨p', hp', all⟩ := flat_reads h4 rd (atm_keys l)
            cases hp'
            obtain ⟨_, ne, _⟩ := (show ObjOk X.prog X.w H s.heap p (.dK kv) from hI.hok p _ e)
            exact fun m => by
              have := all _ m
              rw [this] at ne
              simp at ne
          | @dit p kv _ n e z l =>
            exfalso
            cases l with
            | nil => exact z rfl
            | cons a b =>
              have := (Bool.and_eq_true_iff.mp (List.all_eq_true.mp h4 _ List.mem_cons_self)).1
              cases this
        | none => simp [PyData.hasDict] at hd
        | bool b => simp [PyData.hasDict] at hd
        | int i => simp [PyData.hasDict] at hd
        | str x => simp [PyData.hasDict] at hd
        | list l => simp only [flatShow, hd] at h4; cases h4
        | tuple l => simp only [flatShow, hd] at h4; cases h4
    have fin : ∀ h' w tk, (∀ b o, s.heap.get? b = some o → h'.get? b = some o) → EP X pins σ Q (.str d.shown w) { s with heap := h', toks := tk } := fun h' w tk kk => ⟨.str _, H, hI.kept kk, ⟨w, rfl⟩, q⟩
    cases d with
    | none => cases a; cases ru; exact PySem.P.repr_of_none ⟨.str _, H, hI.tok _, ⟨_, rfl⟩, q⟩
    | bool b => cases a; cases ru; exact PySem.P.repr_of_bool ⟨.str _, H, hI.tok _, ⟨_, rfl⟩, by cases b <;> exact q⟩
    | int i =>
      cases a
      obtain ⟨t, rfl⟩ := ru
      exact PySem.P.repr_of_int (by simpa [PyData.showable] using h1) ⟨.str _, H, hI.tok _, ⟨_, rfl⟩, q⟩
    | str x =>
      cases a
      obtain ⟨t, rfl⟩ := ru
      exact PySem.P.repr_of_str ⟨.str _, H, hI.tok _, ⟨_, rfl⟩, q⟩ h3'
    | list l => cases a; cases ru; exact repr_of_reads' rd h1 hsm hg (by omega) (fun _ _ z => z) fin h3'
    | tuple l => cases a; cases ru; exact repr_of_reads' rd h1 hsm hg (by omega) (fun _ _ z => z) fin h3'
    | dict l => cases a <;> cases ru <;> exact repr_of_reads' rd h1 hsm hg (by omega) (fun _ _ z => z) fin h3'
  · cases e
def fRepr (deep : Bool) : FX := fPure (gRepr deep)
theorem prim_repr {W : Wd} {deep : Bool} : Prim W (rRepr deep) (fRepr deep) := by
  refine prim_pure fun vs H ds d v Q l e ev q => ?_
  have e' := e
  unfold gRepr at e'
  split at e'
  · rename_i d0
    obtain ⟨x, rfl, hx⟩ := atl1 l
    split at e'
    · cases e'
      cases ev
      exact ⟨x, d0, _, rfl, hx, e, q⟩
    · cases e'
  · cases e'

/-! ### len, max, min, list, tuple, str, int -/
def gLen : List D → Option D
  | [.list ds] => some (.int ds.length)
  | [.tuple ds] => some (.int ds.length)
  | _ => none
def scrOf : Option (Option Slot) → Option (List Int)
  | some (some (.scr ns)) => some ns
  | _ => none
theorem scrOf_some {o : Option (Option Slot)} {ns : List Int} (h : scrOf o = some ns) : o = some (some (.scr ns)) := by
  unfold scrOf at h
  split at h
  · cases h; rfl
  · cases h
def fLen : FX := fPure gLen
/-- len(script) -/
def fLenS : FX
  | [.slot i], env => (scrOf env[i]?).bind fun ns => some (.dat (.int ns.length), env)
  | _, _ => none
abbrev rLen (K : PySem.W.Frag) : List V → Hp → VK → Prop := fun xs H Q => ∃ p ys, xs = [.ref p] ∧ (SqL K H p ys ∨ SqT K H p ys) ∧ Q (.int ys.length) H
theorem prim_len {W : Wd} {K : PySem.W.Frag} : Prim W (rLen K) fLen := prim_pure fun vs H ds d v Q l e ev q => by
  unfold gLen at e
  split at e
  · rename_i es
    obtain ⟨x, rfl, hx⟩ := atl1 l
    cases e
    cases ev
    cases hx with
    | lst n e l => exact ⟨_, _, rfl, .inl (SqL.of e), by rw [l.length]; exact q⟩
  · rename_i es
    obtain ⟨x, rfl, hx⟩ := atl1 l
    cases e
    cases ev
    cases hx with
    | tup n e l => exact ⟨_, _, rfl, .inr (SqT.of e), by rw [l.length]; exact q⟩
  · cases e
theorem prim_lenS {W : Wd} : Prim W (rLen W.K) fLenS := by
  intro T0 σ H env vs os o env' Q ho e k
  unfold fLenS at e
  split at e
  · rename_i i
    obtain ⟨x, rfl, h1, R0⟩ := opds1 ho
    cases e1 : scrOf env[i]? with
    | none => simp [e1] at e
    | some ns =>
      simp [e1] at e
      obtain ⟨rfl, rfl⟩ := e
      have sl : ScrAt W.K (Tot T0 σ env) H x ns := slot_get R0 h1.1 (scrOf_some e1)
      obtain ⟨a, rfl, sq⟩ := sl.sq
      exact ⟨a, _, rfl, .inl sq, by rw [List.length_map]; exact k _ H Keep.refl Osub.refl ⟨.int _, R0⟩⟩
  · cases e
/-- script[k] -/
def fIxS : FX
  | [.slot i, o2], env => (scrOf env[i]?).bind fun ns => (gInt (peek o2 env)).bind fun j => (atI ns j).bind fun n => some (.dat (.int n), env)
  | _, _ => none
theorem atI_map {ns : List Int} {j n : Int} (h : atI ns j = some n) : atI (ns.map V.int) j = some (V.int n) := by
  unfold atI at h ⊢
  rw [List.length_map]
  cases q : ixN ns.length j with
  | none => rw [q] at h; cases h
  | some m =>
    rw [q] at h
    show (ns.map V.int)[m]? = _
    rw [List.getElem?_map, show ns[m]? = some n from h]
    rfl
theorem prim_ixS {W : Wd} : Prim W (R2P (rIx W.K)) fIxS := by
  intro T0 σ H env vs os o env' Q ho e k
  unfold fIxS at e
  split at e
  · rename_i i o2
    obtain ⟨x, y, T1, rfl, s1, h1, h2, R1, R0⟩ := opds2 ho
    cases e1 : scrOf env[i]? with
    | none => simp [e1] at e
    | some ns =>
      cases e2 : gInt (peek o2 env) with
      | none => simp [e1, e2] at e
      | some j =>
        cases e3 : atI ns j with
        | none => simp [e1, e2, e3] at e
        | some n =>
          simp [e1, e2, e3] at e
          obtain ⟨rfl, rfl⟩ := e
          have hy := at_int (peek_at h2 R1 (gInt_some e2))
          subst hy
          have sl : ScrAt W.K (Tot T0 σ env) H x ns := slot_get R0 h1.1 (scrOf_some e1)
          obtain ⟨a, rfl, sq⟩ := sl.sq
          exact ⟨_, _, rfl, .inl ⟨a, _, j, _, rfl, rfl, sq, atI_map e3, k _ H Keep.refl Osub.refl ⟨.int _, R0⟩⟩⟩
  · cases e
def gMax : List D → Option D
  | [.int i, .int j] => some (.int (if j > i then j else i))
  | _ => none
def gMin : List D → Option D
  | [.int i, .int j] => some (.int (if j < i then j else i))
  | _ => none
theorem prim_max {W : Wd} : Prim W (fun xs H Q => ∃ i j, xs = [.int i, .int j] ∧ Q (.int (if j > i then j else i)) H) (fPure gMax) := prim_pure fun vs H ds d v Q l e ev q => by
  unfold gMax at e
  split at e
  · obtain ⟨x, y, rfl, hx, hy⟩ := atl2 l
    cases e
    cases ev
    exact ⟨_, _, by rw [at_int hx, at_int hy], q⟩
  · cases e
theorem prim_min {W : Wd} : Prim W (fun xs H Q => ∃ i j, xs = [.int i, .int j] ∧ Q (.int (if j < i then j else i)) H) (fPure gMin) := prim_pure fun vs H ds d v Q l e ev q => by
  unfold gMin at e
  split at e
  · obtain ⟨x, y, rfl, hx, hy⟩ := atl2 l
    cases e
    cases ev
    exact ⟨_, _, by rw [at_int hx, at_int hy], q⟩
  · cases e
/-- list(xs), tuple(xs) of a list or a tuple -/
def fToList : FX
  | [o1], env => (gSeq (peek o1 env)).bind fun ds => some (.new (.list ds), env)
  | _, _ => none
theorem prim_toList {W : Wd} {K : PySem.W.Frag} : Prim W (fun xs H Q => ∃ p ys, xs = [.ref p] ∧ (SqL K H p ys ∨ SqT K H p ys) ∧ ∀ l, H l = none → Q (.ref l) (upd H l (.lst ys))) fToList := by
  intro T0 σ H env vs os o env' Q ho e k
  unfold fToList at e
  split at e
  · rename_i o1
    obtain ⟨x, rfl, h1, R0⟩ := opds1 ho
    cases e1 : gSeq (peek o1 env) with
    | none => simp [e1] at e
    | some ds =>
      simp [e1] at e
      obtain ⟨rfl, rfl⟩ := e
      unfold gSeq at e1
      split at e1
      · rename_i ds' q
        cases e1
        obtain ⟨p, xs, rfl, hp, l⟩ := peek_list h1 R0 q
        exact ⟨p, xs, rfl, .inl (SqL.of hp), fun t ht => k _ _ (Keep.new ht) Osub.refl (mk_list R0 ht l)⟩
      · rename_i ds' q
        cases e1
        obtain ⟨p, xs, rfl, hp, l⟩ := peek_tuple h1 R0 q
        exact ⟨p, xs, rfl, .inr (SqT.of hp), fun t ht => k _ _ (Keep.new ht) Osub.refl (mk_list R0 ht l)⟩
      · cases e1
  · cases e
def fToTup : FX
  | [o1], env => (gList (peek o1 env)).bind fun ds => some (.dat (.tuple ds), env)
  | _, _ => none
theorem prim_toTup {W : Wd} {K : PySem.W.Frag} : Prim W (fun xs H Q => ∃ p ys, xs = [.ref p] ∧ ((SqL K H p ys ∧ ∀ l, H l = none → Q (.ref l) (upd H l (.tup ys))) ∨ (SqT K H p ys ∧ Q (.ref p) H))) fToTup := by
  intro T0 σ H env vs os o env' Q ho e k
  unfold fToTup at e
  split at e
  · rename_i o1
    obtain ⟨x, rfl, h1, R0⟩ := opds1 ho
    cases e1 : gList (peek o1 env) with
    | none => simp [e1] at e
    | some ds =>
      simp [e1] at e
      obtain ⟨rfl, rfl⟩ := e
      obtain ⟨p, xs, rfl, hp, l⟩ := peek_list h1 R0 (gList_some e1)
      exact ⟨p, xs, rfl, .inl ⟨SqL.of hp, fun t ht => k _ _ (Keep.new ht) Osub.refl (mk_tup R0 ht l)⟩⟩
  · cases e
def gStrI : List D → Option D
  | [.int i] => if i.natAbs.log2 < 1920 then some (.str (toString i)) else none
  | _ => none
theorem prim_strI {W : Wd} : Prim W (fun xs H Q => ∃ i, xs = [.int i] ∧ i.natAbs.log2 < 1920 ∧ Q (.str (toString i)) H) (fPure gStrI) := prim_pure fun vs H ds d v Q l e ev q => by
  unfold gStrI at e
  split at e
  · obtain ⟨x, rfl, hx⟩ := atl1 l
    split at e
    · rename_i hc
      cases e
      cases ev
      exact ⟨_, by rw [at_int hx], hc, q⟩
    · cases e
  · cases e
def gIntB : List D → Option D
  | [.int i] => some (.int i)
  | [.bool b] => some (.int (if b then 1 else 0))
  | _ => none
theorem prim_int {W : Wd} : Prim W (fun xs H Q => (∃ i, xs = [.int i] ∧ Q (.int i) H) ∨ ∃ k, xs = [.bl k] ∧ Q (.int (if k then 1 else 0)) H) (fPure gIntB) := prim_pure fun vs H ds d v Q l e ev q => by
  unfold gIntB at e
  split at e
  · obtain ⟨x, rfl, hx⟩ := atl1 l
    cases e
    cases ev
    exact .inl ⟨_, by rw [at_int hx], q⟩
  · obtain ⟨x, rfl, hx⟩ := atl1 l
    cases e
    cases ev
    exact .inr ⟨_, by rw [at_bl hx], q⟩
  · cases e
def gAll : List D → Option D
  | [.list ds] => (ds.mapM fun (d : D) => gBool (some d)).map fun bs => .bool (bs.all id)
  | _ => none
theorem bools_of {T : AS} {H : Hp} : ∀ {ds : List D} {xs : List V} {bs : List Bool}, AtL T H xs ds → (ds.mapM fun (d : D) => gBool (some d)) = some bs → xs = bs.map V.bl
  | [], xs, bs, l, e => by
    cases l
    simp at e
    subst e
    rfl
  | d :: ds, xs, bs, l, e => by
    cases l with
    | cons a b =>
      rw [List.mapM_cons] at e
      cases q : gBool (some d) with
      | none => rw [q] at e; cases e
      | some x =>
        cases q2 : (ds.mapM fun (d : D) => gBool (some d)) with
        | none => rw [q, q2] at e; cases e
        | some ys =>
          rw [q, q2] at e
          cases e
          have := gBool_some q
          cases this
          cases a
          rw [bools_of b q2]
          rfl
theorem prim_all {W : Wd} {K : PySem.W.Frag} : Prim W (rAll K) (fPure gAll) := prim_pure fun vs H ds d v Q l e ev q => by
  unfold gAll at e
  split at e
  · rename_i es
    obtain ⟨x, rfl, hx⟩ := atl1 l
    cases q2 : (es.mapM fun (d : D) => gBool (some d)) with
    | none => rw [q2] at e; cases e
    | some bs =>
      rw [q2] at e
      cases e
      cases ev
      cases hx with
      | lst n e l => exact ⟨_, bs, rfl, by rw [← bools_of l q2]; exact SqL.of e, q⟩
  · cases e

/-! ### isinstance -/
def dTy : D → String
  | .none => "NoneType"
  | .bool _ => "bool"
  | .int _ => "int"
  | .str _ => "str"
  | .list _ => "list"
  | .tuple _ => "tuple"
  | .dict _ => "dict"
theorem ty_at {K : PySem.W.Frag} {T : AS} {H : Hp} {v : V} {d : D} (h : At T H v d) : TyX K H v (.type (dTy d)) := by
  cases h with
  | non => exact .base .non
  | bl b => exact .base (.bl b)
  | int i => exact .base (.int i)
  | str x => exact .base (.str x)
  | lst n e l => exact .base (.lst e)
  | tup n e l => exact .base (.tup e)
  | dic n e l => exact .base (.dK e)
  | dit n e z l => exact .base (.dT e)
def gIsi (ty : String) : List D → Option D
  | [d] => (kitB (dTy d) ty).map .bool
  | _ => none
theorem pm_isi {W : Wd} {X : Cx} {x : Str} {ty : String} {p p2 pos : Pos} {e : Expr} {me : MX} (hg : Gl X "isinstance") (hm : X.mg "isinstance" = none) (hv : bootBuiltins "isinstance" = some (.builtin "isinstance")) (he : PM W X e me) (ht : PE X (.Name x p2) (tC (.ty ty)))
    (hse : starEach (e :: [.Name x p2]) X.env = (false, eval e X.env) :: starEach [.Name x p2] X.env := by rfl) (hse2 : starEach [.Name x p2] X.env = (false, eval (.Name x p2) X.env) :: starEach [] X.env := by rfl) (hpl : (backTo pos (starEach [.Name x p2] X.env)).any (·.1) = false := by rfl) :
    PM W X (.Call (.Name "isinstance" p) [e, .Name x p2] [] pos) (mPrim (fPure (gIsi ty)) (mCons me mNil)) :=
  ⟨fun B0 => PE.imp (pe_callB call_isi hg hm hv (pa_cons (he.pe B0) (pa_cons ht pa_nil hse2) hse) (by decide) (by decide) hse hpl) fun σ H Q h => by
    have P : Prim (W.at B0) (fun vs H Q => ∃ x, vs = [x] ∧ rIsi X.K [x, .ty ty] H Q) (fPure (gIsi ty)) := prim_pure fun vs H ds d v Q l e ev q => by
      unfold gIsi at e
      split at e
      · rename_i d0
        obtain ⟨x, rfl, hx⟩ := atl1 l
        cases e1 : kitB (dTy d0) ty with
        | none => rw [e1] at e; cases e
        | some b =>
          rw [e1] at e
          cases e
          cases ev
          exact ⟨x, rfl, x, .ty ty, _, _, b, rfl, .ty ty, ty_at hx, kit_ty e1, q⟩
      · cases e
    exact tM_mono (split1 (prim_split P h)) fun x H1 ⟨x', e, q⟩ => by
      cases e
      exact q⟩

/-! ### a Board's fields -/
def brdS : Option (Option Slot) → Option (Int × List D)
  | some (some (.brd n gs)) => some (n, gs)
  | _ => none
def brdOf : Opd → MEnv → Option (Int × List D)
  | .brd n gs, _ => some (n, gs)
  | .slot i, env => brdS env[i]?
  | _, _ => none
theorem brd_at {W : Wd} {T0 : AS} {σ : L2.St} {H : Hp} {env : MEnv} {v : V} {R : AS → Prop} {o : Opd} {n : Int} {gs : List D} (h : OpdK W T0 σ H env v R o) (Rl : Rel W T0 σ H env) (e : brdOf o env = some (n, gs)) : BrdAt W.B (Tot T0 σ env) H v n gs := by
  cases o with
  | brd m g => cases e; exact h.1
  | dat d => cases e
  | new d => cases e
  | slot i =>
    have e' : brdS env[i]? = some (n, gs) := e
    unfold brdS at e'
    split at e'
    · rename_i q
      cases e'
      exact slot_get Rl h.1 q
    · cases e'
def mLanes (me : MX) : MX := fun env => (me env).bind fun (o, env1) => (brdOf o env1).bind fun (n, _) => some (.dat (.int n), env1)
def mGates (me : MX) : MX := fun env => (me env).bind fun (o, env1) => (brdOf o env1).bind fun (_, gs) => some (.dat (.list gs), env1)
section
variable {W : Wd} {X : Cx} {e : Expr} {me : MX} {pos : Pos}
theorem pm_lanes (hK : X.K = W.K) (cl : Cls W.K W.B) (na : NoAttr W.K W.B "_lanes") (he : PM W X e me) (hb : attributeBase e "_lanes" X.env (eval e X.env) = eval e X.env := by rfl) : PM W X (.Attribute e "_lanes" pos) (mLanes me) :=
  ⟨fun B0 => PE.imp (pe_fld (he.pe B0) hb) fun σ H Q ⟨T0, env, o, env', R, ee, k⟩ => by
    unfold mLanes at ee
    cases e1 : me env with
    | none => simp [e1] at ee
    | some z =>
      obtain ⟨o1, env1⟩ := z
      cases e2 : brdOf o1 env1 with
      | none => simp [e1, e2] at ee
      | some y =>
        obtain ⟨n, gs⟩ := y
        simp [e1, e2] at ee
        obtain ⟨rfl, rfl⟩ := ee
        refine ⟨T0, env, o1, env1, R, e1, fun v H1 k1 s1 o1' => ?_⟩
        have R1 := opdK_base o1'
        obtain ⟨a, dx, g, xs, rfl, n1, n2, h1, h2, l⟩ := brd_at o1' R1 e2
        exact ⟨a, _, dx, _, _, rfl, h1, by rw [hK]; exact cl, by rw [hK]; exact na, rfl, k _ H1 k1 s1 ⟨.int _, R1⟩⟩⟩
theorem pm_gates (hK : X.K = W.K) (cl : Cls W.K W.B) (na : NoAttr W.K W.B "_gates") (he : PM W X e me) (hb : attributeBase e "_gates" X.env (eval e X.env) = eval e X.env := by rfl) : PM W X (.Attribute e "_gates" pos) (mGates me) :=
  ⟨fun B0 => PE.imp (pe_fld (he.pe B0) hb) fun σ H Q ⟨T0, env, o, env', R, ee, k⟩ => by
    unfold mGates at ee
    cases e1 : me env with
    | none => simp [e1] at ee
    | some z =>
      obtain ⟨o1, env1⟩ := z
      cases e2 : brdOf o1 env1 with
      | none => simp [e1, e2] at ee
      | some y =>
        obtain ⟨n, gs⟩ := y
        simp [e1, e2] at ee
        obtain ⟨rfl, rfl⟩ := ee
        refine ⟨T0, env, o1, env1, R, e1, fun v H1 k1 s1 o1' => ?_⟩
        have R1 := opdK_base o1'
        obtain ⟨a, dx, g, xs, rfl, n1, n2, h1, h2, l⟩ := brd_at o1' R1 e2
        exact ⟨a, _, dx, _, _, rfl, h1, by rw [hK]; exact cl, by rw [hK]; exact na, by rfl, k _ H1 k1 s1 ⟨.lst n2 h2 l, R1⟩⟩⟩
end
end Mx

set_option Elab.async false
set_option autoImplicit false
set_option linter.all false
set_option maxRecDepth 100000
/-! Mx10: defs that are called where nothing is being shown (repr of lists is known there); the law's own call. -/
namespace Mx
open PySem PySem.Spec PyProof.Rows L2
structure FnG (P : Program) (w : World) (K : PySem.W.Frag) (mg : Str → Option Value) (base : Heap) (k : Nat) (f : Addr) (fd : FuncData) (ps : List Str) (sp : Sp) : Prop where
  len : ∀ vs H Q E, sp vs H Q E → vs.length = ps.length
  run : ∀ (A : Around) (outer : List Env) (s : Shared) (H : Hp) (args : Args) (us : List Value) (vs : List V) (Q : VK), A.guards = some [] → SysAt K H → Room k A → Env0 P w K mg base A outer s H → BindsTo s fd args (ps.zip us) → Vals vs us → sp vs H Q E0 →
    codeAny (model P w) A (.call (.ref f) args) (CR CX0 outer P w H s Q E0) s
section
variable {P : Program} {w : World} {K : PySem.W.Frag} {mg : Str → Option Value} {base : Heap} {k : Nat} {f : Addr} {fd : FuncData} {ps : List Str} {sp : Sp}
theorem FnG.of (F : FnOk P w K mg base CX0 k f fd ps sp) : FnG P w K mg base k f fd ps sp := ⟨F.len, fun A outer s H args us vs Q _ _ hr he hb hv hs => F.run A outer s H args us vs Q E0 hr he hb hv hs⟩
theorem FnG.imp {sp' : Sp} (F : FnG P w K mg base k f fd ps sp) (h : ∀ vs H Q E, sp' vs H Q E → sp vs H Q E) : FnG P w K mg base k f fd ps sp' :=
  ⟨fun vs H Q E q => F.len vs H Q E (h _ _ _ _ q), fun A outer s H args us vs Q a b hr he hb hv hs => F.run A outer s H args us vs Q a b hr he hb hv (h _ _ _ _ hs)⟩
/-- what this kind of body knows of its surroundings -/
structure Quiet (X : Cx) : Prop where
  guards : X.A.guards = some []
  sys : SysAt X.K X.H_0
theorem calleeG {X : Cx} {f : Addr} {fd : FuncData} {ps : List Str} {sp : Sp} (F : FnG X.prog X.w X.K X.mg X.base k f fd ps sp) (q : Quiet X) (hr : Room k X.A) (hb : Binds X.K fd ps []) : Callee X f sp := fun pins σ H s Q us vs inv r hs => by
  have many : us.length = ps.length := r.length.symm.trans (F.len _ _ _ _ hs)
  have bind0 := hb s us inv.kIn (by rw [List.append_nil]; exact many)
  rw [List.append_nil] at bind0
  have sysH : SysAt X.K H := q.sys.elim (fun ⟨o, e⟩ => .inl ⟨o, inv.base.frzs _ _ _ e⟩) .inr
  have go := F.run X.A X.stack s H ⟨us, []⟩ us vs Q q.guards sysH hr inv.env0 bind0 r hs
  refine wpAny_call (codeAny_mono go fun res s' told => ?_)
  match res, told with
  | .error _, told => exact False.elim told
  | .ok (.ret _), told => exact inv.after told
  | .ok .next, told => exact False.elim told
  | .ok .brk, told => exact False.elim told
  | .ok .cont, told => exact False.elim told
/-- in a comprehension's block -/
theorem callee_blkG {X : Cx} {f : Addr} {fd : FuncData} {ps : List Str} {sp : Sp} (F : FnOk X.prog X.w X.K X.mg X.base CX0 k f fd ps sp) (hr : Room k X.A) (hb : Binds X.K fd ps []) : Callee X f sp := callee_of F hr hb
theorem bodyG {name qual : Str} {params : Arguments} {body : List Stmt} {scope : Scope} {dV kV doc pm cdv ct oc : Value} {an od : Option Addr} {osl : Array (Option Value)} {N : List Str}
    (lk : K.lookup f = some ⟨oc, od, .func (PySem.W.fnOf name qual params body scope dV kV doc pm an cdv ct), osl⟩) (hcd : PySem.W.codeIn K cdv qual = true) (S : FnScope N ps scope) (len : ∀ vs H Q E, sp vs H Q E → vs.length = ps.length)
    (hbody : ∀ (A : Around) (outer : List Env) (s : Shared) (H : Hp) (vs : List V) (Q : VK), A.guards = some [] → SysAt K H → Room k (A.deeper (envOfC qual scope s.heap.objs.size f cdv)) → sp vs H Q E0 →
      ∃ t, PSs (cxOf CX0 P w K mg base N qual scope f cdv A outer s H E0) body t ∧ t { nx := fun _ H' => Q .non H', rt := Q } (L2.start N vs) H) :
    FnG P w K mg base (k + 1) f (PySem.W.fnOf name qual params body scope dV kV doc pm an cdv ct) ps sp := by
  refine ⟨len, fun A outer s H args us vs Q ag sys room start0 binds told want => ?_⟩
  have many := len vs H Q E0 want
  have stands : ∀ b o, base.get? b = some o → s.heap.get? b = some o := fun b o e => (start0.bs b o e).1
  have inK : K.In s.heap := start0.mod.kin.keeps stands
  have nolim : s.heap.NoLimit := start0.mod.nolimit.keeps stands
  have kinds : ∀ y ∈ ps.zip us, scope.names.lookup y.1 = some .local ∨ (scope.names.lookup y.1 = some .cell ∧ ((cellsFrom (s.heap.objs.size + 1) scope.names []).lookup y.1).isSome = true) := by
    rintro ⟨nm, v⟩ hy
    cases S.par nm (List.of_mem_zip hy).1 with
    | inl loc => exact Or.inl loc
    | inr cel => exact Or.inr ⟨cel, PySem.W.cellsFrom_some _ _ _ (Or.inl cel)⟩
  refine codeAny_call_function room.depth (inK _ _ lk) rfl S.co S.gen rfl (PySem.W.codeRec_of inK hcd) (binds _ _ _ _ ?_)
  refine wpAny_newFunctionEnv_cells S.kind kinds fun env isEnv s1 made => ?_
  cases isEnv
  refine ⟨nolim.keeps made.toInCall.keep, codeAny_func ?_⟩
  obtain ⟨t, does, reading⟩ := hbody A outer s H vs Q ag sys (room.deeper _) want
  have inv0 := inv_start (CX := CX0) (P := P) (w := w) (mg := mg) (E := E0) S room.hd start0 many told made
  have go := does.run [] s1 _ H _ inv0 reading
  refine wpAny_mono go (fun fl s' told' => ?_) fun _ _ z => z
  cases fl with
  | next =>
    obtain ⟨σ', H', inv', q⟩ := told'
    exact ⟨V.non, H', inv'.os, inv'.bare, inv'.base, inv'.hok, rfl, q⟩
  | ret u =>
    obtain ⟨v, σ', H', inv', rv, q⟩ := told'
    exact ⟨v, H', inv'.os, inv'.bare, inv'.base, inv'.hok, rv, q⟩
  | brk => obtain ⟨_, _, _, q⟩ := told'; exact q.elim
  | cont => obtain ⟨_, _, _, q⟩ := told'; exact q.elim
theorem quiet_cx {N : List Str} {qual : Str} {scope : Scope} {cd : Value} {A : Around} {outer : List Env} {s : Shared} {H : Hp} {E : XK} (ag : A.guards = some []) (sys : SysAt K H) : Quiet (cxOf CX0 P w K mg base N qual scope f cd A outer s H E).nox :=
  ⟨by
    show (A.deeper _).guards = some []
    first
      | exact ag
      | (simp [Around.deeper, ag]), sys⟩
theorem fn_mkG {B : Addr} {x qual : Str} {st : Stmt} {N : List Str} {n m : Nat} {ms : MS} (F : Fun K x qual st f fd) (S : FnScope N ps (defScope st)) (hn : ps.length = n) (hN : N.length = n + m)
    (hb : ∀ (cdv : Value) (A : Around) (outer : List Env) (s : Shared) (H : Hp), Room k (A.deeper (envOfC qual (defScope st) s.heap.objs.size f cdv)) → Quiet (cxOf CX0 P w K mg base N qual (defScope st) f cdv A outer s H E0).nox →
      PMB ⟨K, B, AS.emp⟩ (cxOf CX0 P w K mg base N qual (defScope st) f cdv A outer s H E0).nox (defBody st) ms) : FnG P w K mg base (k + 1) f fd ps (spF K B n (denOf m ms)) := by
  obtain ⟨oc, od, kV, doc, pm, an, cdv, ct, osl, rfl, lk, hcd⟩ := F.ex
  refine bodyG lk hcd S (fun vs H Q E h => (spF_len h).trans hn.symm) fun A outer s H vs Q ag sys hr h => ?_
  exact ⟨_, ((hb cdv A outer s H hr (quiet_cx ag sys)).ps (domOf H)).nox, body_ok h hN⟩
theorem fn_toG {B : Addr} {n : Nat} {F G : Den} (h : FnG P w K mg base k f fd ps (spF K B n F)) (e : ∀ args r, args.length = n → G args = some r → F args = some r) : FnG P w K mg base k f fd ps (spF K B n G) :=
  h.imp fun vs H Q E q => sp_ext e vs H Q E q
end

/-! ### the law's own call -/
theorem law_G {P : Program} {w : World} {K : PySem.W.Frag} {mg mb : Str → Option Value} {k : Nat} {fa a : Addr} {fd : FuncData} {x : Str} {sp : Sp} {s1 : Shared} {vs : List Value} {ns : List Int} (inK : K.In s1.heap) (gl : s1.heap.Ns mainGlobals mg) (bl : s1.heap.Ns builtinsNs mb)
    (blt : ∀ x : Str, x ≠ "__name__" → mb x = bootBuiltins x) (nolim : s1.heap.NoLimit) (sysD : ∃ mm, s1.heap.Ns sysModules mm) (hg : s1.gens = #[]) (ha : s1.heap.get? a = some { cls := .type "list", data := .seq vs.toArray }) (hi : IntsAre vs ns) (hl : ns.length ≤ sizeLine) (hr : Room k callerA)
    (F : ∀ base : Heap, K.In base → base.Ns mainGlobals mg → FnG P w K mg base k fa fd [x] sp) (binds : ∀ (s : Shared) (u : Value), BindsTo s fd ⟨[u], []⟩ [(x, u)])
    (hsp : ∀ H : Hp, SqL K H a (ns.map V.int) → sp [.ref a] H (fun v _ => v = .bl true) E0) :
    codeAny (model P w) callerA (.call (.ref fa) ⟨[.ref a], []⟩) (fun r s' => r = .ok (.ret (.bool true)) ∧ OldK s1.heap s'.heap ∧ s'.os = s1.os ∧ AllBare s'.gens) s1 := by
  obtain ⟨mm, oS, es, ep, hS, hSd, _⟩ := sysD
  have dictNo : ∀ {b : Addr} {ob : Obj} {es : Array DictEntry} {ep : Nat}, s1.heap.get? b = some ob → ob.data = .dict es ep → b ≠ a := by
    intro b ob es ep e d z
    rw [z, ha] at e
    cases e
    have d' : Data.seq vs.toArray _ = Data.dict es ep := d
    cases d'
  have aS : sysModules ≠ a := dictNo hS hSd
  have lenV := hi.length
  -- from any heap in which only objects that are known stand
  have core : ∀ H : Hp, SqL K H a (ns.map V.int) → SysAt K H → HOk P w H s1.heap → (∀ b o, H b = some o → ∃ ob u, o = .frz ob u) → (∀ b, H b ≠ none → (b = a ∨ b = sysModules) ∧ K.lookup b = none) →
      codeAny (model P w) callerA (.call (.ref fa) ⟨[.ref a], []⟩) (fun r s' => r = .ok (.ret (.bool true)) ∧ OldK s1.heap s'.heap ∧ s'.os = s1.os ∧ AllBare s'.gens) s1 := by
    intro H sq sys hok onlyF onlyA
    have nsOf : ∀ {b : Addr} {m : Str → Option Value}, b ≠ sysModules → s1.heap.Ns b m → (hidT s1.heap H).Ns b m := by
      rintro b m nb ⟨o, es, ep, e, d, r⟩
      refine ⟨o, es, ep, hidT_get e ?_, d, r⟩
      cases q : H b with
      | none => rfl
      | some u =>
        have told := onlyA b (by rw [q]; exact fun z => (nomatch z))
        exact told.1.elim (fun z => absurd z (dictNo e d)) fun z => absurd z nb
    have baseK : K.In (hidT s1.heap H) := fun b o e => hidT_get (inK b o e) (by
      cases q : H b with
      | none => rfl
      | some u =>
        have told := onlyA b (by rw [q]; exact fun z => (nomatch z))
        rw [told.2] at e
        cases e)
    have glB := nsOf (by decide) gl
    have md : Mod K mg (hidT s1.heap H) := ⟨baseK, glB, ⟨mb, nsOf (by decide) bl, blt⟩, let ⟨mc, h1, h2⟩ := nolim; ⟨mc, nsOf (by decide) h1, h2⟩⟩
    have st0 : Env0 P w K mg (hidT s1.heap H) callerA [] s1 H :=
      { frames := rfl, mod := md, bs := fun b o e => of_hidT e, bsz := Nat.le_of_eq (hidT_size _ _), funs := trivial, frf := fun b hb => absurd (show b ∈ ([] : List Addr) from hb) (by simp), hok := hok, bare := .of_eq hg }
    have go := (F _ baseK glB).run callerA [] s1 H ⟨[.ref a], []⟩ [.ref a] [.ref a] (fun v _ => v = .bl true) rfl sys hr st0 (binds s1 (.ref a)) (.cons rfl .nil) (hsp H sq)
    refine codeAny_mono go fun r s' told => ?_
    match r, told with
    | .error _, told => exact False.elim told
    | .ok .next, told => exact False.elim told
    | .ok .brk, told => exact False.elim told
    | .ok .cont, told => exact False.elim told
    | .ok (.ret u), told =>
      obtain ⟨v, H', os, bare, un, hok', rv, isT⟩ := told
      subst isT
      cases (show u = Value.bool true from rv)
      refine ⟨rfl, OldK.of_keep fun b o e => ?_, os, bare⟩
      cases q : H b with
      | none => exact un.keep b o e q (by intro z; exact absurd (show b ∈ ([] : List Addr) from z) (by simp)) (by simp)
      | some u =>
        obtain ⟨ob, u', rfl⟩ := onlyF b u q
        obtain ⟨e1, _⟩ := hok b _ q
        obtain ⟨e2, _⟩ := hok' b _ (un.frzs b ob u' q)
        rw [e] at e1
        cases e1
        exact e2
  have rv := vals_ints hi
  -- the four kinds of ground: is the script, is the dict of modules written out?
  have hB : ∃ H : Hp, H = fun b => if b = a ∧ K.lookup a = none then some (.frz { cls := .type "list", data := .seq vs.toArray } (.lst (ns.map V.int))) else if b = sysModules ∧ K.lookup sysModules = none then some (.frz oS (.own 0)) else none := ⟨_, rfl⟩
  obtain ⟨H, eH⟩ := hB
  have Ha : K.lookup a = none → H a = some (.frz { cls := .type "list", data := .seq vs.toArray } (.lst (ns.map V.int))) := fun z => by rw [eH]; exact if_pos ⟨rfl, z⟩
  have Hs : K.lookup sysModules = none → H sysModules = some (.frz oS (.own 0)) := fun z => by rw [eH]; exact (if_neg (fun y => aS y.1)).trans (if_pos ⟨rfl, z⟩)
  have Hx : ∀ b o, H b = some o → (b = a ∧ K.lookup a = none ∧ o = .frz { cls := .type "list", data := .seq vs.toArray } (.lst (ns.map V.int))) ∨ (b = sysModules ∧ K.lookup sysModules = none ∧ o = .frz oS (.own 0)) := fun b o e => by
    rw [eH] at e
    by_cases c1 : b = a ∧ K.lookup a = none
    · have e' := (if_pos c1).symm.trans e
      exact .inl ⟨c1.1, c1.2, (Option.some.inj e').symm⟩
    · have e' := (if_neg c1).symm.trans e
      by_cases c2 : b = sysModules ∧ K.lookup sysModules = none
      · exact .inr ⟨c2.1, c2.2, (Option.some.inj ((if_pos c2).symm.trans e')).symm⟩
      · cases (if_neg c2).symm.trans e'
  refine core H ?_ ?_ (fun b o e => ?_) (fun b o e => ?_) fun b nb => ?_
  · cases q : K.lookup a with
    | none => exact .inl (.inr ⟨_, Ha q⟩)
    | some o =>
      have e := inK a o q
      rw [ha] at e
      cases e
      exact .inr ⟨_, vs.toArray, _, q, rfl, rfl, rfl, by rw [List.size_toArray, lenV]; exact hl, by simpa using rv⟩
  · cases q : K.lookup sysModules with
    | none => exact .inl ⟨oS, Hs q⟩
    | some o =>
      have e := inK _ o q
      rw [hS] at e
      cases e
      exact .inr ⟨_, es, ep, q, hSd⟩
  · rcases Hx b o e with ⟨rfl, _, rfl⟩ | ⟨rfl, _, rfl⟩
    · exact ⟨ha, by rw [List.length_map]; exact hl, vs, _, rv, ha⟩
    · exact ⟨hS, oS, hS⟩
  · rcases Hx b o e with ⟨_, _, h⟩ | ⟨_, _, h⟩
    · exact ⟨_, _, h⟩
    · exact ⟨_, _, h⟩
  · cases q : H b with
    | none => exact absurd q nb
    | some o =>
      rcases Hx b o q with ⟨h1, h2, _⟩ | ⟨h1, h2, _⟩
      · exact ⟨.inl h1, by rw [h1]; exact h2⟩
      · exact ⟨.inr h1, by rw [h1]; exact h2⟩
/-- the law's end -/
theorem walkG {l : PySem.W.OpenLaw} {n k : Nat} {q : Program} {loose : List Str} {XP : (Str → Option Value) → Heap → Prop} {YP : World → Heap → Prop} {d : DefRec} {K : Params → PySem.W.Frag} {sp : PySem.W.Frag → Sp} {x : Str} (hn : l.most = some n) (hn2 : n ≤ sizeLine) (hdf : d.params.defaults = [])
    (hr : Room k callerA) (him : PyProof.Rows.importsNone q = true) (hY : ∀ (w : World) (h : Heap), YP w h → (K w.params).In h)
    (F : ∀ (w : World) (mg : Str → Option Value) (fa : Addr) (h : Heap), (K w.params).In h → h.Ns mainGlobals mg → mg d.name = some (.ref fa) →
      ∃ fd : FuncData, (∀ (s : Shared) (u : Value), BindsTo s fd ⟨[u], []⟩ [(x, u)]) ∧ ∀ base : Heap, (K w.params).In base → base.Ns mainGlobals mg → FnG l.prog w (K w.params) mg base k fa fd [x] (sp (K w.params)))
    (hsp : ∀ (K : PySem.W.Frag) (H : Hp) (a : Addr) (ns : List Int), ns.length ≤ n → SqL K H a (ns.map V.int) → sp K [.ref a] H (fun v _ => v = .bl true) E0) : PySem.W.WalkO q loose XP YP l.row.toRowW d [] (fun f vs => PySem.call f vs) := by
  refine Att.attach_call hn hdf ?_
  intro w s0 s1 mg mb fa o pm cd doc a vs ns G Y ho hd hcd hmg hobj hints hlen hg
  have inK := hY w _ Y
  obtain ⟨fd, binds, told⟩ := F w mg fa _ inK G.T.g hmg
  exact law_G inK G.T.g G.T.b G.T.builtins G.T.nolimit (let ⟨mm, z, _⟩ := (G.T.seer him).mods; ⟨mm, z⟩) hg hobj hints (Nat.le_trans hlen hn2) hr told binds fun H sq => hsp _ H a ns hlen sq
end Mx

set_option Elab.async false
set_option autoImplicit false
set_option linter.all false
set_option maxRecDepth 100000
/-! Mx11: sums of any kind, chains, a pair turned round, join, str. -/
namespace Mx
open PySem PySem.Spec PyProof.Rows L2
open L2 (Inv)
/-! ### two operations in one: the kinds of the values say which -/
def fOr (f g : FX) : FX := fun os env => match f os env with
  | some r => some r
  | none => g os env
theorem prim_or {W : Wd} {r r' : List V → Hp → VK → Prop} {f g : FX} (P : Prim W r f) (P' : Prim W r' g) : Prim W (fun vs H Q => r vs H Q ∨ r' vs H Q) (fOr f g) := by
  intro T0 σ H env vs os o env' Q ho e k
  unfold fOr at e
  cases q : f os env with
  | some z =>
    rw [q] at e
    cases e
    exact .inl (P T0 σ H env vs os o env' Q ho q k)
  | none =>
    rw [q] at e
    exact .inr (P' T0 σ H env vs os o env' Q ho e k)
theorem prim_imp {W : Wd} {r r' : List V → Hp → VK → Prop} {f : FX} (P : Prim W r f) (h : ∀ vs H Q, r vs H Q → r' vs H Q) : Prim W r' f := fun T0 σ H env vs os o env' Q ho e k => h _ _ _ (P T0 σ H env vs os o env' Q ho e k)
def gAddS : List D → Option D
  | [.str x, .str y] => if x.length + y.length ≤ 16777216 then some (.str (x ++ y)) else none
  | _ => none
theorem prim_addS {W : Wd} : Prim W (R2P fun x y H Q => ∃ i j, x = .str i ∧ y = .str j ∧ i.length + j.length ≤ sizeLine ∧ Q (.str (i ++ j)) H) (fPure gAddS) := prim_pure fun vs H ds d v Q l e ev q => by
  unfold gAddS at e
  split at e
  · obtain ⟨x, y, rfl, hx, hy⟩ := atl2 l
    split at e
    · rename_i hc
      cases e
      cases ev
      exact ⟨x, y, rfl, _, _, at_str hx, at_str hy, szl hc, q⟩
    · cases e
  · cases e
def fAddU : FX := fOr fAdd (fOr fCat (fPure gAddS))
def fMulU : FX := fOr fMul fRep
section
variable {W : Wd} {X : Cx} {a b c : Expr} {ma mb mc : MX} {pos : Pos}
theorem pm_addU (ha : PM W X a ma) (hb : PM W X b mb) : PM W X (.BinOp a .Add b pos) (mPrim fAddU (mCons ma (mCons mb mNil))) :=
  pm_bin (op_add.or (op_cat.or op_add_str)) (fun _ => prim_imp (prim_or (prim_i0 (g' := fun i j => .int (i + j)) fun _ _ => rfl) (prim_or prim_cat prim_addS)) fun vs H Q h => by
    rcases h with ⟨x, y, e, h⟩ | ⟨x, y, e, h⟩ | ⟨x, y, e, h⟩
    · exact ⟨x, y, e, .inl h⟩
    · exact ⟨x, y, e, .inr (.inl h)⟩
    · exact ⟨x, y, e, .inr (.inr h)⟩) ha hb
theorem pm_mulU (ha : PM W X a ma) (hb : PM W X b mb) : PM W X (.BinOp a .Mult b pos) (mPrim fMulU (mCons ma (mCons mb mNil))) :=
  pm_bin (op_mulW.or op_rep) (fun _ => prim_imp (prim_or (prim_i2 (C' := CMulW) (g' := fun i j => .int (i * j)) (fun _ _ => rfl) fun _ _ h => h) prim_rep) fun vs H Q h => by
    rcases h with ⟨x, y, e, h⟩ | ⟨x, y, e, h⟩
    · exact ⟨x, y, e, .inl h⟩
    · exact ⟨x, y, e, .inr h⟩) ha hb
def gNeg : List D → Option D
  | [.int i] => some (.int (-i))
  | _ => none
def fNeg : FX := fPure gNeg
theorem pm_neg (ha : PM W X a ma) : PM W X (.UnaryOp .USub a pos) (mPrim fNeg (mCons ma mNil)) := ⟨fun B0 => PE.imp (pe_un un_neg (ha.pe B0)) fun σ H Q h => by
  have P : Prim (W.at B0) (fun vs H Q => ∃ x, vs = [x] ∧ rU (fun i => .int (-i)) x H Q) fNeg := prim_pure fun vs H ds d v Q l e ev q => by
    unfold gNeg at e
    split at e
    · obtain ⟨x, rfl, hx⟩ := atl1 l
      cases e
      cases ev
      exact ⟨x, rfl, _, at_int hx, q⟩
    · cases e
  exact tM_mono (split1 (prim_split P h)) fun x H1 ⟨x', e, q⟩ => by
    cases e
    exact q⟩
/-- a <= b <= c over ints -/
def mChain (ma mb mc : MX) : MX := fun env => (ma env).bind fun (o1, env1) => (gInt (peek o1 env1)).bind fun i => (mb env1).bind fun (o2, env2) => (gInt (peek o2 env2)).bind fun j =>
  if i ≤ j then (mc env2).bind fun (o3, env3) => (gInt (peek o3 env3)).bind fun k => some (.dat (.bool (decide (j ≤ k))), env3) else some (.dat (.bool false), env2)
theorem pm_chain (ha : PM W X a ma) (hb : PM W X b mb) (hc : PM W X c mc) (hm : lastMarks [.LtE, .LtE] [b, c] = false := by rfl) : PM W X (.Compare a [.LtE, .LtE] [b, c] pos) (mChain ma mb mc) :=
  ⟨fun B0 => PE.imp (pe_chain op_le op_le (ha.pe B0) (hb.pe B0) (hc.pe B0) (hm := hm)) fun σ H Q ⟨T0, env, o, env', R, e, k⟩ => by
    unfold mChain at e
    cases e1 : ma env with
    | none => simp [e1] at e
    | some z =>
      obtain ⟨o1, env1⟩ := z
      cases e2 : gInt (peek o1 env1) with
      | none => simp [e1, e2] at e
      | some i =>
        cases e3 : mb env1 with
        | none => simp [e1, e2, e3] at e
        | some y =>
          obtain ⟨o2, env2⟩ := y
          cases e4 : gInt (peek o2 env2) with
          | none => simp [e1, e2, e3, e4] at e
          | some j =>
            simp only [e1, e2, e3, e4, Option.bind] at e
            refine ⟨T0, env, o1, env1, R, e1, fun x H1 k1 s1 p1 => ?_⟩
            have R1 := opdK_base p1
            have hx := at_int (peek_at p1 R1 (gInt_some e2))
            subst hx
            refine ⟨T0, env1, o2, env2, R1, e3, fun y H2 k2 s2 p2 => ?_⟩
            have R2 := opdK_base p2
            have hy := at_int (peek_at p2 R2 (gInt_some e4))
            subst hy
            refine ⟨i, j, rfl, rfl, decide (i ≤ j), rfl, ?_⟩
            by_cases hij : i ≤ j
            · rw [if_pos hij] at e
              rw [if_pos (decide_eq_true hij)]
              cases e5 : mc env2 with
              | none => simp [e5] at e
              | some w =>
                obtain ⟨o3, env3⟩ := w
                cases e6 : gInt (peek o3 env3) with
                | none => simp [e5, e6] at e
                | some n =>
                  simp [e5, e6] at e
                  obtain ⟨rfl, rfl⟩ := e
                  refine ⟨T0, env2, o3, env3, R2, e5, fun z H3 k3 s3 p3 => ?_⟩
                  have R3 := opdK_base p3
                  have hz := at_int (peek_at p3 R3 (gInt_some e6))
                  subst hz
                  exact ⟨j, n, rfl, rfl, k _ H3 ((k1.trans k2 fun a z => s1.own a z).trans k3 fun a z => (s1.trans s2).own a z) ((s1.trans s2).trans s3) ⟨.bl _, R3⟩⟩
            · rw [if_neg hij] at e
              cases e
              rw [if_neg (by simpa using hij)]
              exact k _ H2 (k1.trans k2 fun a z => s1.own a z) (s1.trans s2) ⟨.bl _, R2⟩⟩
/-- xs[i:j] of a list -/
def mSl2 (ma mb mc : MX) : MX := fun env => (ma env).bind fun (o1, env1) => (mb env1).bind fun (o2, env2) => (gInt (peek o2 env2)).bind fun i => (mc env2).bind fun (o3, env3) => (gInt (peek o3 env3)).bind fun j =>
  (gList (peek o1 env3)).bind fun ds => some (.new (.list (cutD ds (some i) (some j))), env3)
theorem pm_sl2 {p2 : Pos} (ha : PM W X a ma) (hb : PM W X b mb) (hc : PM W X c mc) : PM W X (.Subscript a (.Slice (some b) (some c) none p2) pos) (mSl2 ma mb mc) :=
  ⟨fun B0 => PE.imp (pe_slice sl_list (ha.pe B0) (po_some (hb.pe B0)) (po_some (hc.pe B0))) fun σ H Q ⟨T0, env, o, env', R, e, k⟩ => by
    unfold mSl2 at e
    cases e1 : ma env with
    | none => simp [e1] at e
    | some z =>
      obtain ⟨o1, env1⟩ := z
      cases e2 : mb env1 with
      | none => simp [e1, e2] at e
      | some y =>
        obtain ⟨o2, env2⟩ := y
        cases e3 : gInt (peek o2 env2) with
        | none => simp [e1, e2, e3] at e
        | some i =>
          cases e4 : mc env2 with
          | none => simp [e1, e2, e3, e4] at e
          | some w =>
            obtain ⟨o3, env3⟩ := w
            cases e5 : gInt (peek o3 env3) with
            | none => simp [e1, e2, e3, e4, e5] at e
            | some j =>
              cases e6 : gList (peek o1 env3) with
              | none => simp [e1, e2, e3, e4, e5, e6] at e
              | some ds =>
                simp [e1, e2, e3, e4, e5, e6] at e
                obtain ⟨rfl, rfl⟩ := e
                refine ⟨T0, env, o1, env1, R, e1, fun x H1 k1 s1 p1 => ?_⟩
                obtain ⟨T1, R1, sub1, put1⟩ := opdK_rel p1
                refine ⟨T1, env1, o2, env2, R1, e2, fun y H2 k2 s2 p2 => ?_⟩
                have R2 := opdK_base p2
                have hy := at_int (peek_at p2 R2 (gInt_some e3))
                subst hy
                refine ⟨i, rfl, T1, env2, o3, env3, R2, e4, fun z H3 k3 s3 p3 => ?_⟩
                have R3 := opdK_base p3
                have hz := at_int (peek_at p3 R3 (gInt_some e5))
                subst hz
                have q1 := ((put1 (fun _ => True) trivial).step k2 s2 (R' := fun _ => True) fun _ z => z).step k3 s3 (R' := fun _ => True) fun _ z => z
                have R0 := R3.less sub1
                obtain ⟨p, xs, rfl, hp, l⟩ := peek_list q1 R0 (gList_some e6)
                exact ⟨j, rfl, p, xs, rfl, SqL.of hp, fun q hq => k _ _ ((k1.trans (k2.trans k3 fun a z => s2.own a z) fun a z => s1.own a z).trans (Keep.new hq) fun a z => ((s1.trans s2).trans s3).own a z) ((s1.trans s2).trans s3) (mk_list R0 hq (cut_at l _ _))⟩⟩
end
/-! ### (a, b)[::-1] -/
def tRevP (K : PySem.W.Frag) (te : TE) : TE := fun σ H Q => te σ H fun x H1 => ∃ a u w, x = .ref a ∧ SqT K H1 a [u, w] ∧ ∀ p, H1 p = none → Q (.ref p) (upd H1 p (.tup [w, u]))
theorem back_applied {prog : Program} {w : World} {A : Around} {E : Value → Shared → Prop} {s : Shared} {sl : Addr} {t : Tok} {Q : Int × Int × Nat → Shared → Prop} (hs : s.heap.IsSliceOf sl .none .none (.int (-1) t)) (h : Q (1, -1, 2) s) :
    wpAny (model prog w) A (Builtin.Slice.sliceApplied (.ref sl) (pure (2 : Int))) Q E s := by
  obtain ⟨os, hos, hcs, hds⟩ := id hs
  unfold Builtin.Slice.sliceApplied Builtin.Slice.sliceFields
  refine wpAny_bind (wpAny_bind (wpAny_field hos hds (x := .none) rfl (wpAny_bind (wpAny_field hos hds (x := .none) rfl (wpAny_bind (wpAny_field hos hds (x := .int (-1) t) rfl (wpAny_pure ?_)))))))
  refine wpAny_bind (slicePart_int ?_)
  show wpAny _ _ (if ((-1 : Int) == 0) = true then _ else _) _ _ s
  rw [if_neg (by decide)]
  refine wpAny_bind (slicePart_none (wpAny_bind (slicePart_none (wpAny_bind (wpAny_pure ?_)))))
  exact wpAny_pure h
theorem pair_back {prog : Program} {w : World} {A : Around} {E : Value → Shared → Prop} {s : Shared} {t sl : Addr} {x y : Value} {tk : Tok} {Q : Value → Shared → Prop} (ht : IsTup s.heap t #[x, y]) (hs : s.heap.IsSliceOf sl .none .none (.int (-1) tk))
    (h : Q (.ref s.heap.objs.size) { s with heap := s.heap.push { cls := .type "tuple", data := .seq #[y, x] } }) : wpAny (model prog w) A (getItem (.ref t) (.ref sl)) Q E s := by
  obtain ⟨os, hos, hcs, hds⟩ := id hs
  have isS : s.TypeIs (.ref sl) "slice" := ⟨os, hos, hcs⟩
  unfold getItem
  try with_reducible refine wpAny_holding ?_
  first | refine wpAny_bind (wpAny_pure ?_) | skip
  refine wpAny_bind (wpAny_sequenceKey ht.typeIs (by decide) ?_)
  refine wpAny_bind (wpAny_callSpecial?_slot (name := Str.ofString "__getitem__") ht.typeIs PyProof.Rows.slot_tuple_getitem (wpAny_call_entry PyProof.Rows.slot_tuple_getitem ht.typeIs entry_tuple_getitem ?_ (args_tuple_getitem _ _)))
  show wpAny _ _ (Builtin.Tuple.tupleItemsOf (.ref t) >>= _) _ _ s
  refine wpAny_bind (tupleItemsOf_ ht (wpAny_bind (wpAny_typeOf isS ?_)))
  rw [if_pos (by decide)]
  refine wpAny_bind (back_applied hs ?_)
  show wpAny _ _ (if ((1 : Int) == 0 && (-1 : Int) == 1 && 2 == 2) = true then _ else _) _ _ s
  rw [if_neg (by decide)]
  have two : ((List.range 2).filterMap fun (k : Nat) => (#[x, y] : Array Value)[((1 : Int) + (k : Int) * -1).toNat]?).toArray = #[y, x] := by rfl
  have fits : sizeOk (.seq (#[y, x] : Array Value)) := by show 2 ≤ sizeLine; decide
  rw [two]
  first
    | exact wpAny_bind (m := Builtin.Tuple.tupleExact _) (wpAny_newObj_type (wpAny_pure ⟨_, rfl, wpAny_pure h⟩) fits)
    | exact wpAny_bind (wpAny_bind (m := Builtin.Tuple.tupleExact _) (wpAny_newObj_type (wpAny_pure (wpAny_pure ⟨_, rfl, wpAny_pure h⟩)) fits))
    | exact wpAny_bind (wpAny_bind (m := Builtin.Tuple.tupleExact _) (wpAny_newObj_type (wpAny_pure ⟨_, rfl, wpAny_pure h⟩) fits))
    | exact wpAny_bind (m := Builtin.Tuple.tupleExact _) (wpAny_newObj_type (wpAny_bind (wpAny_pure (wpAny_pure ⟨_, rfl, wpAny_pure h⟩))) fits)
theorem pe_revP {X : Cx} {e : Expr} {te : TE} {k : Nat} {p1 p2 p3 pos : Pos} (he : PE X e te) : PE X (.Subscript e (.Slice none none (some (.UnaryOp .USub (.Constant (.int 1) k p1) p2)) p3) pos) (tRevP X.K te) := ⟨fun pins s σ H Q inv told => by
  refine Subscript_ (thn (he.run pins s σ H _ inv told) fun v s1 ⟨x, H1, inv1, r1, a, u, w, ex, hx, q⟩ => ?_)
  cases ex
  cases r1
  have step : PO X (some (.UnaryOp .USub (.Constant (.int 1) k p1) p2)) (tPart (tUn (rU fun i => .int (-i)) (tC (.int 1)))) := po_some (pe_un un_neg pe_int)
  have none1 := fun s2 H2 (i2 : Inv X pins σ H2 s2) => po_none.run pins s2 σ H2 (fun o H3 => o = none ∧ H3 = H2) i2 ⟨rfl, rfl⟩
  refine wpAny_Slice (thn (none1 s1 H1 inv1) fun vl s2 ⟨l, H2, inv2, pl, el, e2⟩ => ?_)
  cases el; cases e2
  refine thn (none1 s2 _ inv2) fun vu s3 ⟨l3, H3, inv3, pu, eu, e3⟩ => ?_
  cases eu; cases e3
  refine thn (step.run pins s3 σ H1 (fun o H4 => o = some (-1) ∧ H4 = H1) inv3 ⟨1, rfl, -1, rfl, rfl, rfl⟩) fun vs s4 ⟨o, H4, inv4, ps, eo, e4⟩ => ?_
  cases eo; cases e4
  cases pl; cases pu
  obtain ⟨tk, rfl⟩ : ∃ tk, vs = Value.int (-1) tk := by cases ps; exact ⟨_, rfl⟩
  have inv5 : L2.Inv X pins σ H1 { s4 with heap := s4.heap.push { cls := .type "slice", data := .fields #[.none, .none, .int (-1) tk] } } := inv4.kept (t' := s4.toks) fun b ob z => Heap.get?_push_of_some _ z
  obtain ⟨its, r, ht, hz⟩ := inv5.tuple hx
  obtain ⟨y1, y2, rfl, ry1, ry2⟩ := Vals.two r
  show wpAny (model X.prog X.w) X.A (subscriptTail e (.Slice none none (some (.UnaryOp .USub (.Constant (.int 1) k p1) p2)) p3) (.ref a) (.ref s4.heap.objs.size)) (EP X pins σ Q) X.xe _
  refine tail_any (ops := [.ref a, .ref s4.heap.objs.size]) ht.typeIs (PyProof.Rows.slot_tuple_getitem.lookup) ?_ (by with_unfolding_all rfl)
  refine pair_back ht (Heap.IsSliceOf.new _ .none .none (.int (-1) tk)) ?_
  exact ⟨.ref _, _, inv5.laid (t' := s4.toks) (o := .tup [w, u]) (fun b ob z => Heap.get?_push_of_some _ z) (Nat.le_refl _) ⟨by show 2 ≤ sizeLine; decide, [y2, y1], .cons ry2 (.cons ry1 .nil), IsTup.new _ _⟩, rfl, q _ (inv5.hok.fresh (Nat.le_refl _))⟩⟩
def fRevT : FX
  | [o1], env => match peek o1 env with
    | some (.tuple [d, e]) => some (.dat (.tuple [e, d]), env)
    | _ => none
  | _, _ => none
theorem pm_revT {W : Wd} {X : Cx} {a : Expr} {ma : MX} {k : Nat} {p1 p3 p4 pos : Pos} (ha : PM W X a ma) : PM W X (.Subscript a (.Slice none none (some (.UnaryOp .USub (.Constant (.int 1) k p1) p3)) p4) pos) (mPrim fRevT (mCons ma mNil)) :=
  ⟨fun B0 => PE.imp (pe_revP (ha.pe B0)) fun σ H Q h => by
    have P : Prim (W.at B0) (fun vs H Q => ∃ (a : Addr) (u w : V), vs = [.ref a] ∧ H a = some (.tup [u, w]) ∧ ∀ p, H p = none → Q (.ref p) (upd H p (.tup [w, u]))) fRevT := by
      intro T0 σ H env vs os o env' Q ho e k
      match os, ho, e with
      | [o1], ho, e =>
        obtain ⟨x, rfl, h1, R0⟩ := opds1 ho
        unfold fRevT at e
        simp only at e
        split at e
        · rename_i d1 d2 q
          cases e
          obtain ⟨p, xs, rfl, hp, l⟩ := peek_tuple h1 R0 q
          obtain ⟨u, w, rfl, hu, hw⟩ := atl2 l
          exact ⟨p, u, w, rfl, hp, fun q hq => k _ _ (Keep.new hq) Osub.refl (mk_tup R0 hq (.cons hw (.cons hu .nil)))⟩
        · cases e
    refine tM_mono (split1 (prim_split P h)) fun _ _ ⟨a, u, w, e, hp, q⟩ => ?_
    cases e
    exact ⟨a, u, w, rfl, SqT.of hp, q⟩⟩
/-! ### ''.join(xs), str(x) -/
def strsOf : List D → Option (List Str)
  | [] => some []
  | .str x :: ds => (strsOf ds).map fun xs => x :: xs
  | _ :: _ => none
theorem strs_at {T : AS} {H : Hp} : ∀ {ds : List D} {xs : List V} {ys : List Str}, AtL T H xs ds → strsOf ds = some ys → xs = ys.map V.str
  | [], xs, ys, l, e => by
    cases l
    cases e
    rfl
  | d :: ds, xs, ys, l, e => by
    cases l with
    | cons a b =>
      cases d with
      | str x =>
        have e' : (strsOf ds).map (fun xs => x :: xs) = some ys := e
        cases q : strsOf ds with
        | none => rw [q] at e'; cases e'
        | some zs =>
          rw [q] at e'
          cases e'
          cases a
          rw [strs_at b q]
          rfl
      | none => cases e
      | bool b => cases e
      | int i => cases e
      | list l => cases e
      | tuple l => cases e
      | dict l => cases e
def gJoin : List D → Option D
  | [.str a, .list ds] => (strsOf ds).bind fun ys => if (ys.map (·.length)).sum + ys.length * a.length ≤ 16777216 then some (.str (Txt.join a ys)) else none
  | _ => none
def fJoin : FX := fPure gJoin
def gStrS : List D → Option D
  | [.int i] => if i.natAbs.log2 < 1920 then some (.str (toString i)) else none
  | [.str x] => some (.str x)
  | _ => none
theorem call_strAny {X : Cx} : CallR X (.type "str") (fun xs H Q => (∃ i, xs = [.int i] ∧ i.natAbs.log2 < 1920 ∧ Q (.str (toString i)) H) ∨ ∃ a, xs = [.str a] ∧ Q (.str a) H) := call_str_int.or SkE.call_str_str
theorem prim_strS {W : Wd} : Prim W (fun xs H Q => (∃ i, xs = [.int i] ∧ i.natAbs.log2 < 1920 ∧ Q (.str (toString i)) H) ∨ ∃ a, xs = [.str a] ∧ Q (.str a) H) (fPure gStrS) := prim_pure fun vs H ds d v Q l e ev q => by
  unfold gStrS at e
  split at e
  · obtain ⟨x, rfl, hx⟩ := atl1 l
    split at e
    · rename_i hc
      cases e
      cases ev
      exact .inl ⟨_, by rw [at_int hx], hc, q⟩
    · cases e
  · obtain ⟨x, rfl, hx⟩ := atl1 l
    cases e
    cases ev
    exact .inr ⟨_, by rw [at_str hx], q⟩
  · cases e
theorem pm_join {W : Wd} {X : Cx} {o e : Expr} {mo me : MX} {apos pos : Pos} (ho : PM W X o mo) (he : PM W X e me) (h1 : starEach [e] X.env = [(false, eval e X.env)] := by rfl) (h2 : attributeBase o "join" X.env (eval o X.env) = eval o X.env := by rfl) (h3 : (apos.endLine == pos.line) = true := by rfl)
    (hty : ∀ B0 σ H Q, tM (W.at B0) mo σ H Q → tM (W.at B0) mo σ H fun x H1 => (∃ a, x = .str a) ∧ Q x H1) : PM W X (.Call (.Attribute o "join" apos) [e] [] pos) (mPrim fJoin (mCons mo (mCons me mNil))) :=
  ⟨fun B0 => PE.imp (pe_join (ho.pe B0) he.pex h1 h2 h3) fun σ H Q h => by
    have P : Prim (W.at B0) (fun vs H Q => ∃ (a : Str) (p : Addr) (ys : List Str), vs = [.str a, .ref p] ∧ H p = some (.lst (ys.map V.str)) ∧ (ys.map (·.length)).sum + ys.length * a.length ≤ 16777216 ∧ Q (.str (Txt.join a ys)) H) fJoin := prim_pure fun vs H ds d v Q l e ev q => by
      unfold gJoin at e
      split at e
      · rename_i a es
        obtain ⟨x, y, rfl, hx, hy⟩ := atl2 l
        cases e1 : strsOf es with
        | none => rw [e1] at e; cases e
        | some ys =>
          simp only [e1, Option.bind] at e
          split at e
          · rename_i hc
            cases e
            cases ev
            cases hy with
            | lst n e l => exact ⟨a, _, ys, by rw [at_str hx], by rw [e, strs_at l e1], hc, q⟩
          · cases e
      · cases e
    refine tM_mono (hty B0 σ H _ (split2 (prim_split P h))) fun x H1 ⟨hx, q⟩ => ⟨hx, tMx_mono q fun y H2 ⟨a, p, ys, e, hp, hc, q2⟩ => ?_⟩
    cases e
    exact ⟨a, p, ys, rfl, rfl, .inl (SqL.of hp), hc, q2⟩⟩
theorem ty_str {W : Wd} {x : Str} {σ : L2.St} {H : Hp} {Q : VK} (h : tM W (mC (.str x)) σ H Q) : tM W (mC (.str x)) σ H fun v H1 => (∃ a, v = .str a) ∧ Q v H1 := by
  obtain ⟨T0, env, o, env', R, e, k⟩ := h
  refine ⟨T0, env, o, env', R, e, fun v H1 k1 s1 o1 => ⟨?_, k v H1 k1 s1 o1⟩⟩
  cases e
  exact ⟨x, by cases o1.1; rfl⟩
end Mx

set_option Elab.async false
set_option autoImplicit false
set_option linter.all false
set_option maxRecDepth 100000
/-! Mx12: a, b = e; what is never come to; a Board: made, asked for its length, isinstance. -/
namespace Mx
open PySem PySem.Spec PyProof.Rows L2
open L2 (Inv)
/-! ### a, b = e -/
def mUnp (t : Tgt) (me : MX) : MS := fun env => (me env).bind fun (o, env1) => (toDat o env1).bind fun (d, env2) => (t.put d env2).bind fun env3 => some (.nx, env3)
theorem pms_unp {W : Wd} {X : Cx} {tg e : Expr} {t : Tgt} {g : TG} {me : MX} {pos : Pos} (he : PM W X e me) (tk : TgOk t g) (hg : PG X tg g) (hs : swapsWithSole [tg] e pos.line X.env = pure false := by rfl) (hw : swappedStores [tg] e X.env = pure none := by rfl)
    (h1 : (assignEach [tg] X.env).map (·.2) = [assign tg X.env] := by rfl) : PMS W X (.Assign [tg] e pos) (mUnp t me) :=
  ⟨fun B0 => PS.imp (ps_asg (he.pe B0) hg hs hw h1) fun E σ H ⟨T0, env, f, env', R, e, k⟩ => by
    unfold mUnp at e
    cases e1 : me env with
    | none => simp [e1] at e
    | some z =>
      obtain ⟨o, env1⟩ := z
      cases e2 : toDat o env1 with
      | none => simp [e1, e2] at e
      | some y =>
        obtain ⟨d, env2⟩ := y
        cases e3 : t.put d env2 with
        | none => simp [e1, e2, e3] at e
        | some env3 =>
          simp [e1, e2, e3] at e
          obtain ⟨rfl, rfl⟩ := e
          refine ⟨T0, env, o, env1, R, e1, fun v H1 k1 s1 o1 => ?_⟩
          have R1 := opdK_base o1
          obtain ⟨R2, s2⟩ := toDat_rel R1 e2
          have av := toDat_at o1 Osub.refl R1 e2
          refine tk _ T0 σ H1 env2 v d env3 _ R2 av e3 fun vs hv sA RA OA => ?_
          exact k _ H1 ((Stp.of k1 (s1.trans s2)).trans R2 sA) RA⟩
def mNever : MS := fun _ => none
theorem pms_never {W : Wd} {X : Cx} {st : Stmt} : PMS W X st mNever := ⟨fun B0 => PS.imp ps_never fun E σ H ⟨T0, env, f, env', R, e, k⟩ => by cases e⟩

/-! ### isinstance(x, Board), x a Board -/
structure BoardCls (K : PySem.W.Frag) (B : Addr) : Prop where
  cl : Cls K B
  c1 : PySem.W.findIn K (.ref B) "__class__" = some (some (.builtin "object.__class__"))
  c2 : PySem.W.specialIn K (.builtin "object.__class__") "__get__" = some (some (.builtin "getset_descriptor.__get__"))
  c3 : PySem.W.takesIn K (.builtin "object.__class__") = some true
  c4 : PySem.W.mroIn K B (.type "object") = some true
def fIsB : FX
  | [o1], env => (brdOf o1 env).bind fun _ => some (.dat (.bool true), env)
  | _, _ => none
theorem kit_self {K : PySem.W.Frag} {C : Addr} : PySem.W.kitOne K (.ref C) (.ref C) = some true := by
  unfold PySem.W.kitOne
  rw [if_pos (by simp)]
theorem pm_isBrd {W : Wd} {X : Cx} {x : Str} {p p2 pos : Pos} {e : Expr} {me : MX} (hK : X.K = W.K) (bc : BoardCls W.K W.B) (hg : Gl X "isinstance") (hm : X.mg "isinstance" = none) (hv : bootBuiltins "isinstance" = some (.builtin "isinstance")) (he : PM W X e me) (hgx : Gl X x) (hmx : X.mg x = some (.ref W.B))
    (hd : (x == ("__debug__" : Str)) = false := by decide) (hse : starEach (e :: [.Name x p2]) X.env = (false, eval e X.env) :: starEach [.Name x p2] X.env := by rfl) (hse2 : starEach [.Name x p2] X.env = (false, eval (.Name x p2) X.env) :: starEach [] X.env := by rfl)
    (hpl : (backTo pos (starEach [.Name x p2] X.env)).any (·.1) = false := by rfl) : PM W X (.Call (.Name "isinstance" p) [e, .Name x p2] [] pos) (mPrim fIsB (mCons me mNil)) :=
  ⟨fun B0 => PE.imp (pe_callB call_isi hg hm hv (pa_cons (he.pe B0) (pa_cons (pe_glob (v := .ref W.B) hgx hmx rfl hd) pa_nil hse2) hse) (by decide) (by decide) hse hpl) fun σ H Q h => by
    have P : Prim (W.at B0) (fun vs H Q => ∃ x, vs = [x] ∧ rIsi X.K [x, .ref W.B] H Q) fIsB := by
      intro T0 σ H env vs os o env' Q ho e k
      unfold fIsB at e
      split at e
      · rename_i o1
        obtain ⟨x, rfl, h1, R0⟩ := opds1 ho
        cases e1 : brdOf o1 env with
        | none => simp [e1] at e
        | some y =>
          obtain ⟨n, gs⟩ := y
          simp [e1] at e
          obtain ⟨rfl, rfl⟩ := e
          obtain ⟨a, dx, g, xs, rfl, n1, n2, e1, e2, l⟩ := brd_at h1 R0 e1
          exact ⟨_, rfl, .ref a, .ref W.B, .ref W.B, .ref W.B, true, rfl, .own W.B, .base (.ins e1 (by rw [hK]; exact bc.cl) (by rw [hK]; exact bc.c1) (by rw [hK]; exact bc.c2) (by rw [hK]; exact bc.c3) (by rw [hK]; exact bc.c4)), kit_self, k _ H Keep.refl Osub.refl ⟨.bl _, R0⟩⟩
      · cases e
    exact tM_mono (split1 (prim_split P h)) fun x H1 ⟨x', e, q⟩ => by
      cases e
      exact q⟩

/-! ### len(board) -/
def spLen (B : Addr) : Sp := fun vs H Q _ => ∃ (a dx g : Addr) (n : Int) (xs : List V), vs = [.ref a] ∧ H a = some (.ins B dx [("_lanes", .int n), ("_gates", .ref g)]) ∧ H g = some (.lst xs) ∧ xs.length ≤ sizeLine ∧ Q (.int xs.length) H
theorem call_lenB {X : Cx} {k : Nat} {f B : Addr} {fd : FuncData} (F : FnOk X.prog X.w X.K X.mg X.base CX0 k f fd ["self"] (spLen B)) (hr : Room (k + 1) X.A) (hb : Binds X.K fd ["self"] []) (hs : PySem.W.findIn X.K (.ref B) "__len__" = some (some (.ref f))) (hf : PySem.W.isFn X.K (.ref f) = true) :
    CallR X (.builtin "len") (fun xs H Q => ∃ (a dx g : Addr) (n : Int) (ys : List V), xs = [.ref a] ∧ H a = some (.ins B dx [("_lanes", .int n), ("_gates", .ref g)]) ∧ H g = some (.lst ys) ∧ ys.length ≤ sizeLine ∧ Q (.int ys.length) H) := by
  intro pins s σ H xs us Q inv r h
  obtain ⟨a, dx, g, n, ys, rfl, h1, h2, hz, q⟩ := h
  obtain ⟨u, rfl, ru⟩ := vals1 r
  cases (show u = Value.ref a from ru)
  obtain ⟨mA, O, _, _, _, _⟩ := ins_get inv.hok h1
  obtain ⟨od, IA, _⟩ := O.look
  obtain ⟨m, fr⟩ := inv.fr
  refine PySem.W.len_K fr inv.ok.mod.kin IA hs hf ?_
  have bind0 := hb s [.ref a] inv.kIn rfl
  have go := F.run X.A.in1 X.stack s H ⟨[.ref a], []⟩ [.ref a] [.ref a] (fun v H' => v = .int ys.length ∧ Q v H') E0 hr.in1 inv.env0.in1 bind0 (.cons rfl .nil) ⟨a, dx, g, n, ys, rfl, h1, h2, hz, rfl, q⟩
  refine wpAny_call (codeAny_mono go fun res s' told => ?_)
  match res, told with
  | .error _, told => exact False.elim told
  | .ok .next, told => exact False.elim told
  | .ok .brk, told => exact False.elim told
  | .ok .cont, told => exact False.elim told
  | .ok (.ret u), told =>
    obtain ⟨v, H', os, bare, un, hok, rv, rfl, q'⟩ := told
    obtain ⟨t, rfl⟩ := rv
    refine ⟨⟨Int.natCast_nonneg _, by have := sizeLine_eq; omega⟩, ?_⟩
    have inv' : Inv X pins σ H' s' := by
      have z := inv.call' (s' := s') (ch := []) os un hok bare fun b z => absurd z (by simp)
      exact z
    exact ⟨.int _, H', inv'.tok _, ⟨_, rfl⟩, q'⟩
def fLenB : FX
  | [o1], env => (brdOf o1 env).bind fun (_, gs) => if gs.length ≤ 16777216 then some (.dat (.int gs.length), env) else none
  | _, _ => none
theorem prim_lenB {W : Wd} : Prim W (fun xs H Q => ∃ (a dx g : Addr) (n : Int) (ys : List V), xs = [.ref a] ∧ H a = some (.ins W.B dx [("_lanes", .int n), ("_gates", .ref g)]) ∧ H g = some (.lst ys) ∧ ys.length ≤ sizeLine ∧ Q (.int ys.length) H) fLenB := by
  intro T0 σ H env vs os o env' Q ho e k
  unfold fLenB at e
  split at e
  · rename_i o1
    obtain ⟨x, rfl, h1, R0⟩ := opds1 ho
    cases e1 : brdOf o1 env with
    | none => simp [e1] at e
    | some y =>
      obtain ⟨n, gs⟩ := y
      simp only [e1, Option.bind] at e
      split at e
      · rename_i hl
        cases e
        obtain ⟨a, dx, g, xs, rfl, n1, n2, e1, e2, l⟩ := brd_at h1 R0 e1
        exact ⟨a, dx, g, n, xs, rfl, e1, e2, szl (by rw [l.length]; exact hl), by rw [l.length]; exact k _ H Keep.refl Osub.refl ⟨.int _, R0⟩⟩
      · cases e
  · cases e

/-! ### Board(lanes, gates) -/
def okGate (n : Int) : D → Bool
  | .tuple [.int i, .int j] => decide (0 ≤ i ∧ i < n ∧ 0 ≤ j ∧ j < n ∧ i ≠ j)
  | _ => false
def okBoard (n : Int) (gs : List D) : Bool := decide (2 ≤ n ∧ n ≤ 8 ∧ gs.length ≤ 24) && gs.all (okGate n)
/-- __init__ of good lanes and gates -/
def spInit (B : Addr) : Sp := fun vs H Q _ => ∃ (x dx p : Addr) (n : Int) (xs : List V) (gs : List D) (T : AS), vs = [.ref x, .int n, .ref p] ∧ H x = some (.ins B dx []) ∧ okBoard n gs = true ∧ ¬ T p ∧ H p = some (.lst xs) ∧ AtL T H xs gs ∧ (∀ a, T a → Mu H a) ∧
  ∀ (g : Addr) (ys : List V) (H' : Hp), H g = none → (∀ a o, a ≠ x → H a = some o → H' a = some o) → H' x = some (.ins B dx [("_lanes", .int n), ("_gates", .ref g)]) → H' g = some (.lst ys) → AtL T H' ys gs → Q .non H'
def fBoard : FX
  | [o1, o2], env => (gInt (peek o1 env)).bind fun n => (gList (peek o2 env)).bind fun gs => if okBoard n gs = true then some (.brd n gs, env) else none
  | _, _ => none
theorem okBoard_lay {n : Int} {gs : List D} (h : okBoard n gs = true) : gs.all (okGate n) = true := by
  unfold okBoard at h
  rw [Bool.and_eq_true] at h
  exact h.2
/-- gates are tuples of ints -/
theorem gate_move {T T' : AS} {H H' : Hp} {n : Int} {v : V} {d : D} (hg : okGate n d = true) (h : At T H v d) (k : ∀ a ys, ¬ T a → H a = some (.tup ys) → H' a = some (.tup ys) ∧ ¬ T' a) : At T' H' v d := by
  unfold okGate at hg
  split at hg
  · cases h with
    | tup n e l =>
      cases l with
      | cons a l =>
        cases l with
        | cons b l =>
          cases l
          cases a; cases b
          exact .tup (k _ _ n e).2 (k _ _ n e).1 (.cons (.int _) (.cons (.int _) .nil))
  · cases hg
theorem gates_move {T T' : AS} {H H' : Hp} {n : Int} : ∀ {gs : List D} {xs : List V}, gs.all (okGate n) = true → AtL T H xs gs → (∀ a ys, ¬ T a → H a = some (.tup ys) → H' a = some (.tup ys) ∧ ¬ T' a) → AtL T' H' xs gs
  | [], _, _, h, _ => by cases h; exact .nil
  | d :: gs, _, hg, h, k => by
    cases h with
    | cons a b =>
      rw [List.all_cons, Bool.and_eq_true] at hg
      exact .cons (gate_move hg.1 a k) (gates_move hg.2 b k)
theorem prim_board {W : Wd} : Prim W (fun vs H Q => ∀ x dx, H x = none → H dx = none → dx ≠ x → spInit W.B (.ref x :: (vs ++ [])) (upd (upd H dx (.own x)) x (.ins W.B dx [])) (fun v H2 => v = .non ∧ Q (.ref x) H2) E0) fBoard := by
  intro T0 σ H env vs os o env' Q ho e k
  unfold fBoard at e
  split at e
  · rename_i o1 o2
    obtain ⟨v1, v2, T1, rfl, s1, h1, h2, R1, R0⟩ := opds2 ho
    cases e1 : gInt (peek o1 env) with
    | none => simp [e1] at e
    | some n =>
      cases e2 : gList (peek o2 env) with
      | none => simp [e1, e2] at e
      | some gs =>
        simp only [e1, e2, Option.bind] at e
        split at e
        · rename_i hok
          cases e
          have hx1 := at_int (peek_at h1 R0 (gInt_some e1))
          subst hx1
          obtain ⟨p, xs, rfl, hp, l⟩ := peek_list h2 R1 (gList_some e2)
          intro x dx nx ndx dxx
          have k0 : ∀ a o, H a = some o → upd (upd H dx (.own x)) x (.ins W.B dx []) a = some o := fun a o q => by
            rw [upd_ne (ne_of_none q nx), upd_ne (ne_of_none q ndx)]
            exact q
          have lT : AtL (Tot T0 σ env) H xs gs := AtL.move (Move.sub fun a z => z.elim (fun q => .inl (s1 a q)) .inr) gs xs l
          refine ⟨x, dx, p, n, xs, gs, fun a => Tot T0 σ env a ∧ a ≠ p, rfl, upd_same, hok, fun z => z.2 rfl, k0 _ _ hp, AtL.move ⟨fun a o nn q => ⟨k0 a o q, fun z => nn z.1⟩⟩ gs xs lT, fun a ⟨t, _⟩ => (R0.totMu t).keep fun o q => k0 a o q, fun g ys H' hg kk hx hg' la => ⟨rfl, ?_⟩⟩
          have gH : H g = none := by
            cases q : H g with
            | none => rfl
            | some u => rw [k0 g u q] at hg; cases hg
          have kH : ∀ a o, H a = some o → H' a = some o := fun a o q => kk a o (ne_of_none q nx) (k0 a o q)
          have KE : Keep AS.emp H H' := fun a o _ q => kH a o q
          have R' : Rel W T0 σ H' env := R0.grow KE
          refine k (.ref x) H' (fun a o _ q => kH a o q) Osub.refl ⟨⟨x, dx, g, ys, rfl, R0.fresh nx, R0.fresh gH, hx, hg', gates_move (okBoard_lay hok) la fun a zs na e => ⟨e, fun t => na ⟨t, fun z => ?_⟩⟩⟩, R'⟩
          rw [z, kH p _ hp] at e
          cases e

        · cases e
  · cases e
end Mx

set_option Elab.async false
set_option autoImplicit false
set_option linter.all false
set_option maxRecDepth 100000
/-! Mx13: a def of the text by its name; Board(..). -/
namespace Mx
open PySem PySem.Spec PyProof.Rows L2
open L2 (Inv)
/-- the def that the top's name x stands for -/
structure Df (K : PySem.W.Frag) (mg : Str → Option Value) (x : Str) (st : Stmt) (ps : List Str) : Prop where
  ex : ∃ (f : Addr) (fd : FuncData), Fun K x x st f fd ∧ Binds K fd ps [] ∧ mg x = some (.ref f)
/-- .. keeps sp -/
structure Kn (P : Program) (w : World) (K : PySem.W.Frag) (mg : Str → Option Value) (base : Heap) (k : Nat) (x : Str) (ps : List Str) (sp : Sp) : Prop where
  ex : ∃ (f : Addr) (fd : FuncData), FnOk P w K mg base CX0 k f fd ps sp ∧ Binds K fd ps [] ∧ mg x = some (.ref f) ∧ PySem.W.keepIn K (.ref f) = true
structure KnG (P : Program) (w : World) (K : PySem.W.Frag) (mg : Str → Option Value) (base : Heap) (k : Nat) (x : Str) (ps : List Str) (sp : Sp) : Prop where
  ex : ∃ (f : Addr) (fd : FuncData), FnG P w K mg base k f fd ps sp ∧ Binds K fd ps [] ∧ mg x = some (.ref f) ∧ PySem.W.keepIn K (.ref f) = true
section
variable {P : Program} {w : World} {K : PySem.W.Frag} {mg : Str → Option Value} {base : Heap} {B : Addr} {x : Str} {st : Stmt} {N ps : List Str} {k n m : Nat} {ms : MS} {sp : Sp}
theorem Df.kn (d : Df K mg x st ps) (S : FnScope N ps (defScope st)) (hn : ps.length = n) (hN : N.length = n + m)
    (hb : ∀ (f : Addr) (cdv : Value) (A : Around) (outer : List Env) (s : Shared) (H : Hp) (E : XK), Room k (A.deeper (envOfC x (defScope st) s.heap.objs.size f cdv)) →
      PMB ⟨K, B, AS.emp⟩ (cxOf CX0 P w K mg base N x (defScope st) f cdv A outer s H E).nox (defBody st) ms) : Kn P w K mg base (k + 1) x ps (spF K B n (denOf m ms)) := by
  obtain ⟨f, fd, F, b, e⟩ := d.ex
  exact ⟨f, fd, fn_mk F S hn hN (hb f), b, e, F.kp⟩
theorem Df.knG (d : Df K mg x st ps) (S : FnScope N ps (defScope st)) (hn : ps.length = n) (hN : N.length = n + m)
    (hb : ∀ (f : Addr) (cdv : Value) (A : Around) (outer : List Env) (s : Shared) (H : Hp), Room k (A.deeper (envOfC x (defScope st) s.heap.objs.size f cdv)) → Quiet (cxOf CX0 P w K mg base N x (defScope st) f cdv A outer s H E0).nox →
      PMB ⟨K, B, AS.emp⟩ (cxOf CX0 P w K mg base N x (defScope st) f cdv A outer s H E0).nox (defBody st) ms) : KnG P w K mg base (k + 1) x ps (spF K B n (denOf m ms)) := by
  obtain ⟨f, fd, F, b, e⟩ := d.ex
  exact ⟨f, fd, fn_mkG F S hn hN (hb f), b, e, F.kp⟩
theorem Kn.to {F G : Den} (h : Kn P w K mg base k x ps (spF K B n F)) (e : ∀ args r, args.length = n → G args = some r → F args = some r) : Kn P w K mg base k x ps (spF K B n G) :=
  let ⟨f, fd, a, b, c, d⟩ := h.ex
  ⟨f, fd, fn_to a e, b, c, d⟩
theorem KnG.to {F G : Den} (h : KnG P w K mg base k x ps (spF K B n F)) (e : ∀ args r, args.length = n → G args = some r → F args = some r) : KnG P w K mg base k x ps (spF K B n G) :=
  let ⟨f, fd, a, b, c, d⟩ := h.ex
  ⟨f, fd, fn_toG a e, b, c, d⟩
end
theorem pm_kn {W : Wd} {X : Cx} {k n : Nat} {io : List Bool} {F : Den} {x : Str} {ps : List Str} {p pos : Pos} {e : Expr} {es : List Expr} {m : MA} (c : Kn X.prog X.w X.K X.mg X.base k x ps (spF W.K W.B n F)) (hr : Room k X.A) (hg : Gl X x) (ha : PMA W X (e :: es) m)
    (hdb : (x == ("__debug__" : Str)) = false := by decide) (he : starEach (e :: es) X.env = (false, eval e X.env) :: starEach es X.env := by rfl) (hpl : (backTo pos (starEach es X.env)).any (·.1) = false := by rfl) : PM W X (.Call (.Name x p) (e :: es) [] pos) (mPrim (fCall io n F) m) := by
  obtain ⟨f, fd, a, b, c, d⟩ := c.ex
  exact pm_call (callee_of a hr b) hg c d ha hdb he hpl
theorem pm_knG {W : Wd} {X : Cx} {k n : Nat} {io : List Bool} {F : Den} {x : Str} {ps : List Str} {p pos : Pos} {e : Expr} {es : List Expr} {m : MA} (c : KnG X.prog X.w X.K X.mg X.base k x ps (spF W.K W.B n F)) (q : Quiet X) (hr : Room k X.A) (hg : Gl X x) (ha : PMA W X (e :: es) m)
    (hdb : (x == ("__debug__" : Str)) = false := by decide) (he : starEach (e :: es) X.env = (false, eval e X.env) :: starEach es X.env := by rfl) (hpl : (backTo pos (starEach es X.env)).any (·.1) = false := by rfl) : PM W X (.Call (.Name x p) (e :: es) [] pos) (mPrim (fCall io n F) m) := by
  obtain ⟨f, fd, a, b, c, d⟩ := c.ex
  exact pm_call (calleeG a q hr b) hg c d ha hdb he hpl
/-- the class Board by its two own defs -/
structure KnB (P : Program) (w : World) (K : PySem.W.Frag) (mg : Str → Option Value) (base : Heap) (k : Nat) (B : Addr) : Prop where
  bc : BoardCls K B
  nm : mg "Board" = some (.ref B)
  ini : ∃ (f : Addr) (fd : FuncData), Mk K B f ∧ FnOk P w K mg base CX0 k f fd ["self", "lanes", "gates"] (spInit B) ∧ Binds K fd ["self", "lanes", "gates"] []
  ln : ∃ (f : Addr) (fd : FuncData), FnOk P w K mg base CX0 k f fd ["self"] (spLen B) ∧ Binds K fd ["self"] [] ∧ PySem.W.findIn K (.ref B) "__len__" = some (some (.ref f)) ∧ PySem.W.isFn K (.ref f) = true
theorem pm_board {W : Wd} {X : Cx} {k : Nat} {p pos : Pos} {e : Expr} {es : List Expr} {m : MA} (c : KnB X.prog X.w X.K X.mg X.base k W.B) (hr : Room (k + 1) X.A) (hg : Gl X "Board") (ha : PMA W X (e :: es) m)
    (he : starEach (e :: es) X.env = (false, eval e X.env) :: starEach es X.env := by rfl) (hpl : (backTo pos (starEach es X.env)).any (·.1) = false := by rfl) : PM W X (.Call (.Name "Board" p) (e :: es) [] pos) (mPrim fBoard m) := by
  obtain ⟨f, fd, M, F, b⟩ := c.ini
  exact ⟨fun B0 => PE.imp (pe_make M F hr hg c.nm b .nil pass0 (ha.pa B0) (by decide) he hpl) fun σ H Q h => prim_split (prim_board (W := W.at B0)) h⟩
theorem pm_lenB {W : Wd} {X : Cx} {k : Nat} {p pos : Pos} {e : Expr} {es : List Expr} {m : MA} (c : KnB X.prog X.w X.K X.mg X.base k W.B) (hr : Room (k + 1) X.A) (hg : Gl X "len") (hm : X.mg "len" = none) (ha : PMA W X (e :: es) m)
    (he : starEach (e :: es) X.env = (false, eval e X.env) :: starEach es X.env := by rfl) (hpl : (backTo pos (starEach es X.env)).any (·.1) = false := by rfl) : PM W X (.Call (.Name "len" p) (e :: es) [] pos) (mPrim fLenB m) := by
  obtain ⟨f, fd, F, b, h1, h2⟩ := c.ln
  exact pm_callB (call_lenB F hr b h1 h2) (fun B0 => prim_lenB) hg hm PySem.boot_len ha (by decide) (by decide) he hpl
end Mx
namespace Mx
open PySem PySem.Spec PyProof.Rows L2
theorem pm_glC {W : Wd} {X : Cx} {x : Str} {v : V} {d : D} {p : Pos} (hg : Gl X x) (h : ∃ u, X.mg x = some u ∧ RelV v u) (hv : scV d = some v) (hd : (x == ("__debug__" : Str)) = false := by decide) : PM W X (.Name x p) (mC d) :=
  let ⟨_, a, b⟩ := h
  pm_c (pe_glob hg a b hd) hv
end Mx

set_option Elab.async false
set_option autoImplicit false
set_option linter.all false
set_option maxRecDepth 100000
/-! Mx14: the law's end. -/
namespace Mx
open PySem PySem.Spec PyProof.Rows L2

theorem room65 {k : Nat} {A : Around} (hr : Room k A) : A.units + 65 < cLine := by
  have := hr.un
  omega
/-- what the law's function says of a script -/
def LawTrue (F : Mx.Den) (n : Nat) : Prop := ∀ ns : List Int, ns.length ≤ n → ∃ as, F [.scr ns] = some (.dat (.bool true), as)
theorem law_sp {K : PySem.W.Frag} {B a : Addr} {F : Mx.Den} {H : Hp} {n : Nat} {ns : List Int} (h : LawTrue F n) (hl : ns.length ≤ n) (sq : SqL K H a (ns.map V.int)) : spF K B 1 F [.ref a] H (fun v _ => v = .bl true) E0 := by
  obtain ⟨as, e⟩ := h ns hl
  have no : ∀ {i : Nat} {l : Bool} {d : D}, ([some (Slot.scr ns)] : MEnv)[i]? = some (some (Slot.own l d)) → False := fun {i l d} e => by
    match i, e with
    | 0, e => cases e
    | i + 1, e => simp at e
  refine ⟨AS.emp, [.scr ns], .dat (.bool true), as, ⟨rfl, fun _ z => z.elim, fun _ z => z, fun i s e => ?_, fun i j a ⟨⟨l, d, e⟩, _⟩ => (no e).elim⟩, rfl, e, fun v H' _ _ o => ?_⟩
  · match i, e with
    | 0, e =>
      cases e
      exact ⟨_, rfl, ScrAt.move (Move.sub fun a z => z.elim id fun ⟨i, ⟨l, d, e⟩, _⟩ => (no e).elim) (ScrAt.of sq)⟩
    | i + 1, e => simp at e
  · cases o.1
    rfl
end Mx

set_option Elab.async false
set_option autoImplicit false
set_option linter.all false
set_option maxRecDepth 100000
/-! Mx14b: two lists of different lengths are compared. -/
namespace Mx
open PySem PySem.Spec PyProof.Rows L2
def rEqL : R2 := fun x y H Q => ∃ a b xs ys, x = .ref a ∧ y = .ref b ∧ H a = some (.lst xs) ∧ H b = some (.lst ys) ∧ xs.length ≠ ys.length ∧ Q (.bl false) H
theorem op_eqL {X : Cx} (hu : X.A.units < cLine) : OpR X (compareOp .Eq) rEqL := by
  intro pins s σ H x y v u Q I rx ry h
  obtain ⟨a, b, xs, ys, rfl, rfl, ha, hb, hl, q⟩ := h
  cases (show v = Value.ref a from rx)
  cases (show u = Value.ref b from ry)
  obtain ⟨_, as, n1, v1, g1⟩ := (show ObjOk X.prog X.w H s.heap a (.lst xs) from I.hok _ _ ha)
  obtain ⟨_, bs, n2, v2, g2⟩ := (show ObjOk X.prog X.w H s.heap b (.lst ys) from I.hok _ _ hb)
  refine SeqAt.eq_list_lengthsAt (items := as.toArray) (items2 := bs.toArray) ⟨_, g1, rfl, _, rfl⟩ ⟨_, g2, rfl, _, rfl⟩ ?_ hu ⟨.bl false, H, I, rfl, q⟩
  have l1 := v1.length
  have l2 := v2.length
  have : as.length ≠ bs.length := by omega
  simpa using this
def gEqL : List D → Option D
  | [.list ds, .list es] => if ds.length = es.length then none else some (.bool false)
  | _ => none
theorem prim_eqL {W : Wd} : Prim W (R2P rEqL) (fPure gEqL) := prim_pure fun vs H ds d v Q l e ev q => by
  unfold gEqL at e
  split at e
  · rename_i d1 d2
    obtain ⟨x, y, rfl, hx, hy⟩ := atl2 l
    split at e
    · cases e
    · rename_i hs
      cases e
      cases ev
      cases hx with
      | lst _ e1 l1 =>
        cases hy with
        | lst _ e2 l2 => exact ⟨_, _, rfl, _, _, _, _, rfl, rfl, e1, e2, by rw [l1.length, l2.length]; exact hs, q⟩
  · cases e
def fEqU : FX := fOr (fPure gEqL) (fPure gEq)
section
variable {W : Wd} {X : Cx} {a b : Expr} {ma mb : MX} {pos : Pos}
theorem op_eqU (hu : X.A.units + 64 < cLine) : OpR X (compareOp .Eq) (fun x y H Q => rEqL x y H Q ∨ rEqD X.K x y H Q) := (op_eqL (by omega)).or (op_eqD hu)
theorem prim_eqU {W : Wd} {K : PySem.W.Frag} : Prim W (R2P (fun x y H Q => rEqL x y H Q ∨ rEqD K x y H Q)) fEqU := prim_imp (prim_or prim_eqL prim_eq) fun vs H Q h => by
  rcases h with ⟨x, y, e, h⟩ | ⟨x, y, e, h⟩
  · exact ⟨x, y, e, .inl h⟩
  · exact ⟨x, y, e, .inr h⟩
theorem pm_eqU (hu : X.A.units + 64 < cLine) (ha : PM W X a ma) (hb : PM W X b mb) : PM W X (.Compare a [.Eq] [b] pos) (mPrim fEqU (mCons ma (mCons mb mNil))) := pm_cmp (op_eqU hu) (fun _ => prim_eqU) ha hb (nomark _)
end
theorem fEqU_eq {os : List Opd} {env : MEnv} : fEqU os env = match pks os env with
    | some [.list ds, .list es] => if ds.length = es.length then fPure gEq os env else some (.dat (.bool false), env)
    | _ => fPure gEq os env := by
  generalize hL : fEqU os env = L
  unfold fEqU fOr at hL
  split
  · rename_i ds es h
    by_cases c : ds.length = es.length
    · have r : fPure gEqL os env = none := by
        unfold fPure
        rw [h]
        simp [gEqL, c]
      rw [r] at hL
      rw [if_pos c]
      exact hL.symm
    · have r : fPure gEqL os env = some (.dat (.bool false), env) := by
        unfold fPure
        rw [h]
        simp [gEqL, c, scV]
      rw [r] at hL
      rw [if_neg c]
      exact hL.symm
  · rename_i h
    have r : fPure gEqL os env = none := by
      unfold fPure
      cases e : pks os env with
      | none => rfl
      | some ds =>
        simp only [Option.bind]
        have : gEqL ds = none := by
          unfold gEqL
          split
          · exact (h _ _ e).elim
          · rfl
        rw [this]
    rw [r] at hL
    exact hL.symm
end Mx

set_option Elab.async false
set_option autoImplicit false
set_option linter.all false
set_option maxRecDepth 100000
/-! Mx15: reading what a body does: W x Q says that x gives a value, of which Q holds. -/
namespace Mx
open PySem PySem.Spec PyProof.Rows L2
def W {α : Type} (x : Option α) (Q : α → Prop) : Prop := ∃ a, x = some a ∧ Q a
section
variable {α β : Type} {x : Option α} {Q : α → Prop}
theorem W_some {a : α} : W (some a) Q = Q a := by
  unfold W
  simp
theorem W_none : W (none : Option α) Q = False := by
  unfold W
  simp
theorem W_bind {y : Option β} {f : β → Option α} : W (y.bind f) Q = W y fun b => W (f b) Q := by
  unfold W
  cases y <;> simp
theorem W_map {y : Option β} {f : β → α} : W (y.map f) Q = W y fun b => Q (f b) := by
  unfold W
  cases y <;> simp
theorem W_ite {c : Prop} [Decidable c] {y : Option α} : W (if c then x else y) Q = if c then W x Q else W y Q := by split <;> rfl
theorem W_congr {x y : Option α} {Q : α → Prop} (h : x = y) : W x Q = W y Q := by rw [h]
theorem W_mono {Q' : α → Prop} (h : W x Q) (k : ∀ a, Q a → Q' a) : W x Q' := let ⟨a, e, q⟩ := h; ⟨a, e, k a q⟩
theorem W_of {a : α} (e : x = some a) (q : Q a) : W x Q := ⟨a, e, q⟩
theorem W_eq {a : α} (e : x = some a) : W x Q = Q a := by rw [e, W_some]
end
/-- what stands behind a statement -/
def thenS (n : MS) (Q : Fl × MEnv → Prop) : Fl × MEnv → Prop
  | (.nx, e) => W (n e) Q
  | (f, e) => Q (f, e)
def onB (P N : MEnv → Prop) : Bool × MEnv → Prop := fun p => if p.1 = true then P p.2 else N p.2
section
variable {env : MEnv} {m n : MS} {a b c : MX} {r : MA} {t u : MT} {f : FX} {g : List D → Option D} {Q : Fl × MEnv → Prop} {R : Opd × MEnv → Prop} {S : Bool × MEnv → Prop} {Z : List Opd × MEnv → Prop}
theorem W_mSeq : W (mSeq m n env) Q = W (m env) (thenS n Q) := by
  unfold mSeq
  rw [W_bind]
  congr 1
  funext p
  obtain ⟨f, e⟩ := p
  cases f <;> simp [thenS, W_some]
theorem W_mNext : W (mNext env) Q = Q (.nx, env) := W_some
theorem W_mNever : W (mNever env) Q = False := W_none
theorem W_mSIf : W (mSIf t m n env) Q = W (t env) (onB (fun e => W (m e) Q) fun e => W (n e) Q) := by
  unfold mSIf
  rw [W_bind]
  congr 1
  funext p
  obtain ⟨f, e⟩ := p
  show W (if f = true then m e else n e) Q = if f = true then W (m e) Q else W (n e) Q
  exact W_ite
theorem W_mRet : W (mRet a env) Q = W (a env) fun p => W (ret1 p.1 p.2) fun q => Q (.rt q.1, q.2) := by
  unfold mRet
  rw [W_bind]
  congr 1
  funext p
  obtain ⟨f, e⟩ := p
  rw [W_bind]
  congr 1
  funext q
  exact W_some
theorem W_mSet {i : Nat} {k : Bool} : W (mSet i k a env) Q = W (a env) fun p => W (norms [p.1] p.2) fun q => W (setAll [(i, k)] q.1 q.2) fun e => Q (.nx, e) := by
  unfold mSet
  rw [W_bind]
  congr 1
  funext p
  obtain ⟨f, e⟩ := p
  rw [W_bind]
  congr 1
  funext q
  obtain ⟨g, h⟩ := q
  rw [W_bind]
  congr 1
  funext s
  exact W_some
theorem W_mPar {ts : List (Nat × Bool)} : W (mPar ts r env) Q = W (r env) fun p => W (norms p.1 p.2) fun q => W (setAll ts q.1 q.2) fun e => Q (.nx, e) := by
  unfold mPar
  rw [W_bind]
  congr 1
  funext p
  obtain ⟨f, e⟩ := p
  rw [W_bind]
  congr 1
  funext q
  obtain ⟨g, h⟩ := q
  rw [W_bind]
  congr 1
  funext s
  exact W_some
theorem W_mUnp {tg : Tgt} : W (mUnp tg a env) Q = W (a env) fun p => W (toDat p.1 p.2) fun q => W (tg.put q.1 q.2) fun e => Q (.nx, e) := by
  unfold mUnp
  rw [W_bind]
  congr 1
  funext p
  obtain ⟨f, e⟩ := p
  rw [W_bind]
  congr 1
  funext q
  obtain ⟨g, h⟩ := q
  rw [W_bind]
  congr 1
  funext s
  exact W_some
theorem W_mExpr : W (mExpr a env) Q = W (a env) fun p => Q (.nx, p.2) := by
  unfold mExpr
  rw [W_bind]
  congr 1
  funext p
  exact W_some
theorem W_mFor {tg : Tgt} {mi : MI} : W (mFor tg mi m env) Q = W (mi env) fun p => W (mLoop tg.put m p.1 p.2) Q := by
  unfold mFor
  rw [W_bind]
theorem W_mPrim : W (mPrim f r env) R = W (r env) fun p => W (f p.1 p.2) R := by
  unfold mPrim
  rw [W_bind]
theorem W_mNil : W (mNil env) Z = Z ([], env) := W_some
theorem W_mCons : W (mCons a r env) Z = W (a env) fun p => W (r p.2) fun q => Z (p.1 :: q.1, q.2) := by
  unfold mCons
  rw [W_bind]
  congr 1
  funext p
  obtain ⟨f, e⟩ := p
  rw [W_bind]
  congr 1
  funext q
  exact W_some
theorem W_mC {d : D} : W (mC d env) R = R (.dat d, env) := W_some
theorem W_mTr : W (mTr a env) S = W (a env) fun p => W (gBool (peek p.1 p.2)) fun k => S (k, p.2) := by
  unfold mTr
  rw [W_bind]
  congr 1
  funext p
  obtain ⟨f, e⟩ := p
  rw [W_bind]
  congr 1
  funext q
  exact W_some
theorem W_mNot : W (mNot t env) S = W (t env) fun p => S (!p.1, p.2) := by
  unfold mNot
  rw [W_bind]
  congr 1
  funext p
  exact W_some
theorem W_mAnd : W (mAnd t u env) S = W (t env) (onB (fun e => W (u e) S) fun e => S (false, e)) := by
  unfold mAnd
  rw [W_bind]
  congr 1
  funext p
  obtain ⟨f, e⟩ := p
  cases f
  · exact W_some
  · rfl
theorem W_mOr : W (mOr t u env) S = W (t env) (onB (fun e => S (true, e)) fun e => W (u e) S) := by
  unfold mOr
  rw [W_bind]
  congr 1
  funext p
  obtain ⟨f, e⟩ := p
  cases f
  · rfl
  · exact W_some
theorem W_mOf : W (mOf t env) R = W (t env) fun p => R (.dat (.bool p.1), p.2) := by
  unfold mOf
  rw [W_bind]
  congr 1
  funext p
  exact W_some
theorem W_mIf : W (mIf t a b env) R = W (t env) (onB (fun e => W (a e) R) fun e => W (b e) R) := by
  unfold mIf
  rw [W_bind]
  congr 1
  funext p
  obtain ⟨f, e⟩ := p
  exact W_ite
theorem W_fPure {os : List Opd} : W (fPure g os env) R = W (pks os env) fun ds => W (g ds) fun d => (scV d).isSome = true ∧ R (.dat d, env) := by
  unfold fPure
  rw [W_bind]
  congr 1
  funext p
  rw [W_bind]
  congr 1
  funext q
  rw [W_ite, W_some, W_none]
  simp
theorem W_fCall {io : List Bool} {k : Nat} {F : Mx.Den} {os : List Opd} : W (fCall io k F os env) R = W (argsOf io os (frzs io os env)) fun as => ((inS io os).Nodup ∧ as.length = k) ∧ W (F as) fun p => noSlot p.1 = true ∧ W (back io os p.2 (frzs io os env)) fun e => R (p.1, e) := by
  unfold fCall
  rw [W_bind]
  congr 1
  funext p
  rw [W_ite, W_none, W_bind]
  have : ∀ q : Opd × List Slot, W (match q with | (r, args') => if noSlot r = true then (back io os args' (frzs io os env)).bind fun env3 => some (r, env3) else none) R = (noSlot q.1 = true ∧ W (back io os q.2 (frzs io os env)) fun e => R (q.1, e)) := by
    rintro ⟨o, as⟩
    show W (if noSlot o = true then (back io os as (frzs io os env)).bind fun env3 => some (o, env3) else none) R = _
    rw [W_ite, W_none, W_bind]
    simp only [W_some]
    simp
  simp only [this]
  simp
theorem W_denOf {k : Nat} {as : List Slot} {Y : Opd × List Slot → Prop} : W (denOf k m as) Y = W (m (as.map some ++ List.replicate k none)) fun p => match p.1 with
    | .rt o => noSlot o = true ∧ W (resP as p.2) fun q => Y (o, q)
    | .nx => W (resP as p.2) fun q => Y (.dat .none, q)
    | _ => False := by
  unfold denOf
  rw [W_bind]
  congr 1
  funext p
  obtain ⟨f, e⟩ := p
  cases f with
  | nx =>
    show W ((resP as e).bind fun args' => some (Opd.dat .none, args')) Y = _
    rw [W_bind]
    simp only [W_some]
  | bk => exact W_none
  | ct => exact W_none
  | rt o =>
    show W (if noSlot o = true then (resP as e).bind fun args' => some (o, args') else none) Y = _
    rw [W_ite, W_none, W_bind]
    simp only [W_some]
    simp
theorem W_mSub {i : Nat} {mi me : MX} : W (mSub i mi me env) Q = W (me env) fun p => W (mVar i p.2) fun _ => W (mi p.2) fun q => W (gInt (peek q.1 q.2)) fun k => W (toDat p.1 q.2) fun d => W (ownL d.2[i]?) fun l => W (ixN l.2.length k) fun j => Q (.nx, d.2.set i (some (.own l.1 (.list (l.2.set j d.1))))) := by
  unfold mSub
  rw [W_bind, W_mCons]
  congr 1
  funext p
  rw [W_mCons]
  cases e0 : mVar i p.2 with
  | none => rw [W_none, W_none]
  | some z =>
    obtain ⟨o, e⟩ := z
    obtain ⟨rfl, rfl⟩ := mVar_slot e0
    rw [W_some, W_some, W_mCons]
    congr 1
    funext q
    rw [W_mNil]
    show W ((gInt (peek q.1 q.2)).bind fun k => (toDat p.1 q.2).bind fun (d, env2) => (ownL env2[i]?).bind fun (l, ds) => (ixN ds.length k).bind fun j => some (.nx, env2.set i (some (.own l (.list (ds.set j d)))))) Q = _
    rw [W_bind]
    congr 1
    funext k
    rw [W_bind]
    congr 1
    funext d
    obtain ⟨d, e2⟩ := d
    rw [W_bind]
    congr 1
    funext l
    obtain ⟨l, ds⟩ := l
    rw [W_bind]
    congr 1
    funext j
    exact W_some
theorem W_mApp {i : Nat} {me : MX} : W (mApp i me env) Q = W (ownL env[i]?) fun _ => W (me env) fun p => W (toDat p.1 p.2) fun d => W (ownL d.2[i]?) fun l => l.2.length < 16777216 ∧ Q (.nx, d.2.set i (some (.own l.1 (.list (l.2 ++ [d.1]))))) := by
  unfold mApp
  rw [W_bind]
  congr 1
  funext p
  rw [W_bind]
  congr 1
  funext q
  obtain ⟨o, e⟩ := q
  rw [W_bind]
  congr 1
  funext s
  obtain ⟨d, e⟩ := s
  rw [W_bind]
  congr 1
  funext z
  obtain ⟨l, ds⟩ := z
  show W (if ds.length < 16777216 then _ else none) Q = _
  rw [W_ite, W_none, W_some]
  simp
theorem thenS_nx {e : MEnv} : thenS n Q (.nx, e) = W (n e) Q := rfl
theorem thenS_rt {e : MEnv} {o : Opd} : thenS n Q (.rt o, e) = Q (.rt o, e) := rfl
theorem thenS_bk {e : MEnv} : thenS n Q (.bk, e) = Q (.bk, e) := rfl
theorem thenS_ct {e : MEnv} : thenS n Q (.ct, e) = Q (.ct, e) := rfl
theorem onB_t {P N : MEnv → Prop} {e : MEnv} : onB P N (true, e) = P e := rfl
theorem onB_f {P N : MEnv → Prop} {e : MEnv} : onB P N (false, e) = N e := rfl
theorem onB_any {P N : MEnv → Prop} {e : MEnv} {k : Bool} : onB P N (k, e) = if k = true then P e else N e := rfl

/-! loops -/
theorem W_mLoop {t : D → MEnv → Option MEnv} {items : List D} (I : Nat → MEnv → Prop) (h0 : I 0 env) (hs : ∀ i d e, items[i]? = some d → I i e → W (t d e) fun e1 => W (m e1) fun p => match p.1 with
    | .nx => I (i + 1) p.2
    | .ct => I (i + 1) p.2
    | .bk => Q (.nx, p.2)
    | .rt o => Q (.rt o, p.2)) (hq : ∀ e, I items.length e → Q (.nx, e)) : W (mLoop t m items env) Q := by
  induction items generalizing env I with
  | nil => exact W_of rfl (hq _ h0)
  | cons d ds ih =>
    show W ((t d env).bind _) Q
    rw [W_bind]
    refine W_mono (hs 0 d env rfl h0) fun e1 k1 => ?_
    rw [W_bind]
    refine W_mono k1 fun p k2 => ?_
    obtain ⟨f, e2⟩ := p
    have go : I 1 e2 → W (mLoop t m ds e2) Q := fun k => ih (fun i => I (i + 1)) k (fun i d e z y => hs (i + 1) d e z y) fun e y => hq e y
    cases f with
    | nx => exact go k2
    | ct => exact go k2
    | bk => exact W_of rfl k2
    | rt o => exact W_of rfl k2
theorem W_mComp {t : D → MEnv → Option MEnv} {js : List Nat} {items acc : List D} {Y : List D × MEnv → Prop} (I : Nat → List D → MEnv → Prop) (h0 : I 0 acc env)
    (hs : ∀ i d ac e, items[i]? = some d → I i ac e → W (t d e) fun e1 => W (u e1) (onB (fun e2 => W (a e2) fun p => W (toDat p.1 p.2) fun x => ac.length < 16777216 ∧ I (i + 1) (ac ++ [x.1]) (wipeE x.2 js)) fun e2 => I (i + 1) ac (wipeE e2 js)))
    (hq : ∀ ac e, I items.length ac e → Y (ac, e)) : W (mComp t js u a items acc env) Y := by
  induction items generalizing env acc I with
  | nil => exact W_of rfl (hq _ _ h0)
  | cons d ds ih =>
    have go : ∀ ac e2, I 1 ac e2 → W (mComp t js u a ds ac e2) Y := fun ac e2 k => ih (fun i => I (i + 1)) k (fun i d ac e z y => hs (i + 1) d ac e z y) fun ac e y => hq ac e y
    show W ((t d env).bind _) Y
    rw [W_bind]
    refine W_mono (hs 0 d acc env rfl h0) fun e1 k1 => ?_
    rw [W_bind]
    refine W_mono k1 fun p k2 => ?_
    obtain ⟨b, e2⟩ := p
    cases b with
    | false => exact go _ _ k2
    | true =>
      show W ((a e2).bind _) Y
      rw [W_bind]
      refine W_mono k2 fun o k3 => ?_
      show W ((toDat o.1 o.2).bind _) Y
      rw [W_bind]
      refine W_mono k3 fun x k4 => ?_
      show W (if acc.length < 16777216 then _ else none) Y
      rw [if_pos k4.1]
      exact go _ _ k4.2
theorem W_mLc {tg : Tgt} {js : List Nat} {mi : MI} : W (mLc tg js mi u a env) R = W (mi env) fun p => W (mComp tg.put js u a p.1 [] (wipeE p.2 js)) fun q => R (.new (.list q.1), q.2) := by
  unfold mLc
  rw [W_bind]
  congr 1
  funext p
  obtain ⟨items, e⟩ := p
  rw [W_bind]
  congr 1
  funext q
  exact W_some
end
end Mx

set_option Elab.async false
set_option autoImplicit false
set_option linter.all false
set_option maxRecDepth 100000
/-! Mx16: the tactic sx; the trays. -/
namespace Mx
open PySem PySem.Spec PyProof.Rows L2
theorem W_iteN {α : Type} {x : Option α} {Q : α → Prop} {c : Prop} [Decidable c] : W (if c then x else none) Q = (c ∧ W x Q) := by
  rw [W_ite, W_none]
  simp
theorem gI2_none {C : Int → Int → Prop} [∀ i j, Decidable (C i j)] {g : Int → Int → D} {ds : List D} (h : ∀ i j, ds = [.int i, .int j] → False) : gI2 C g ds = none := by
  unfold gI2
  split
  · exact (h _ _ rfl).elim
  · rfl
theorem gI0_none {g : Int → Int → D} {ds : List D} (h : ∀ i j, ds = [.int i, .int j] → False) : gI0 g ds = none := by
  unfold gI0
  split
  · exact (h _ _ rfl).elim
  · rfl
theorem gAddS_none {ds : List D} (h : ∀ i j, ds = [.str i, .str j] → False) : gAddS ds = none := by
  unfold gAddS
  split
  · exact (h _ _ rfl).elim
  · rfl
theorem pks_two {os : List Opd} {env : MEnv} {d e : D} (h : pks os env = some [d, e]) : ∃ o1 o2, os = [o1, o2] ∧ peek o1 env = some d ∧ peek o2 env = some e := by
  match os, h with
  | [], h => cases h
  | [o1], h =>
    unfold pks at h
    cases q : peek o1 env with
    | none => simp [q] at h
    | some d1 => simp [q, pks] at h
  | [o1, o2], h =>
    unfold pks pks at h
    cases q : peek o1 env with
    | none => simp [q] at h
    | some d1 =>
      cases q2 : peek o2 env with
      | none => simp [q, q2] at h
      | some d2 =>
        simp [q, q2, pks] at h
        exact ⟨o1, o2, rfl, by rw [q, h.1], by rw [q2, h.2]⟩
  | o1 :: o2 :: o3 :: os, h =>
    unfold pks pks pks at h
    cases q : peek o1 env with
    | none => simp [q] at h
    | some d1 =>
      cases q2 : peek o2 env with
      | none => simp [q, q2] at h
      | some d2 =>
        cases q3 : peek o3 env with
        | none => simp [q, q2, q3] at h
        | some d3 =>
          cases q4 : pks os env with
          | none => simp [q, q2, q3, q4] at h
          | some ds => simp [q, q2, q3, q4] at h
theorem fMulU_eq {os : List Opd} {env : MEnv} : fMulU os env = match pks os env with
    | some [.int _, .int _] => fMul os env
    | _ => fRep os env := by
  generalize hL : fMulU os env = L
  unfold fMulU fOr at hL
  split
  · rename_i i j h
    have r : fRep os env = none := by
      obtain ⟨o1, o2, rfl, a, b⟩ := pks_two h
      unfold fRep
      simp only [a, gList, Option.bind]
    rw [r] at hL
    rw [← hL]
    cases fMul os env <;> rfl
  · rename_i h
    have m : fMul os env = none := by
      unfold fMul fPure
      cases e : pks os env with
      | none => rfl
      | some ds =>
        simp only [Option.bind]
        rw [gI2_none (fun i j z => h i j (by rw [e, z]))]
    rw [m] at hL
    exact hL.symm
theorem fAddU_eq {os : List Opd} {env : MEnv} : fAddU os env = match pks os env with
    | some [.int _, .int _] => fAdd os env
    | some [.str _, .str _] => fPure gAddS os env
    | _ => fCat os env := by
  generalize hL : fAddU os env = L
  unfold fAddU fOr at hL
  split
  · rename_i i j h
    have r : fAdd os env = some (.dat (.int (i + j)), env) := by unfold fAdd fPure; rw [h]; rfl
    rw [r] at hL ⊢
    exact hL.symm
  · rename_i i j h
    have r : fAdd os env = none := by unfold fAdd fPure; rw [h]; rfl
    have r2 : fCat os env = none := by
      obtain ⟨o1, o2, rfl, a, b⟩ := pks_two h
      unfold fCat
      simp only [a, gList, Option.bind]
    rw [r] at hL
    have hL2 : (fOr fCat (fPure gAddS)) os env = L := hL
    unfold fOr at hL2
    rw [r2] at hL2
    exact hL2.symm
  · rename_i h1 h2
    have m : fAdd os env = none := by
      unfold fAdd fPure
      cases e : pks os env with
      | none => rfl
      | some ds =>
        simp only [Option.bind]
        rw [gI0_none (fun i j z => h1 i j (by rw [e, z]))]
    have m2 : fPure gAddS os env = none := by
      unfold fPure
      cases e : pks os env with
      | none => rfl
      | some ds =>
        simp only [Option.bind]
        rw [gAddS_none (fun i j z => h2 i j (by rw [e, z]))]
    rw [m] at hL
    have hL2 : (fOr fCat (fPure gAddS)) os env = L := hL
    unfold fOr at hL2
    rw [m2] at hL2
    rw [← hL2]
    cases fCat os env <;> rfl
theorem W_mChain {a b c : MX} {env : MEnv} {R : Opd × MEnv → Prop} : W (mChain a b c env) R = W (a env) fun p => W (gInt (peek p.1 p.2)) fun i => W (b p.2) fun q => W (gInt (peek q.1 q.2)) fun j => if i ≤ j then W (c q.2) fun s => W (gInt (peek s.1 s.2)) fun k => R (.dat (.bool (decide (j ≤ k))), s.2) else R (.dat (.bool false), q.2) := by
  unfold mChain
  rw [W_bind]
  congr 1
  funext p
  obtain ⟨o1, e1⟩ := p
  rw [W_bind]
  congr 1
  funext i
  rw [W_bind]
  congr 1
  funext q
  obtain ⟨o2, e2⟩ := q
  rw [W_bind]
  congr 1
  funext j
  rw [W_ite, W_some, W_bind]
  congr 2
  funext s
  obtain ⟨o3, e3⟩ := s
  rw [W_bind]
  congr 1
  funext k
  exact W_some
/-- what is still to be read; it stops the simplifier from going on behind it -/
def st {α : Type} (x : Option α) : Option α := x
theorem st_eq {α : Type} {x : Option α} : st x = x := rfl
theorem W_st {α : Type} {x : Option α} {Q : α → Prop} : W x Q = W (st x) Q := rfl
theorem onW {α : Type} {a : α} {Q : α → Prop} (h : Q a) : W (some a) Q := ⟨a, rfl, h⟩
theorem onWst {α : Type} {x : Option α} {Q : α → Prop} (h : W x Q) : W (st x) Q := h
theorem onIteN {α : Type} {x : Option α} {Q : α → Prop} {c : Prop} [Decidable c] (h : c ∧ W x Q) : W (if c then x else none) Q := by
  rw [if_pos h.1]
  exact h.2
theorem onIte {α : Type} {x y : Option α} {Q : α → Prop} {c : Prop} [Decidable c] (h : if c then W x Q else W y Q) : W (if c then x else y) Q := by
  split
  · rename_i k
    rw [if_pos k] at h
    exact h
  · rename_i k
    rw [if_neg k] at h
    exact h
theorem onT {P N : Prop} (h : P) : (if true = true then P else N) := h
theorem onF {P N : Prop} (h : N) : (if false = true then P else N) := h
theorem onNx {n : MS} {Q : Fl × MEnv → Prop} {e : MEnv} (h : W (n e) Q) : thenS n Q (.nx, e) := h
theorem onRt {n : MS} {Q : Fl × MEnv → Prop} {e : MEnv} {o : Opd} (h : Q (.rt o, e)) : thenS n Q (.rt o, e) := h
theorem onBk {n : MS} {Q : Fl × MEnv → Prop} {e : MEnv} (h : Q (.bk, e)) : thenS n Q (.bk, e) := h
theorem onBt {P N : MEnv → Prop} {e : MEnv} (h : P e) : onB P N (true, e) := h
theorem onBf {P N : MEnv → Prop} {e : MEnv} (h : N e) : onB P N (false, e) := h
theorem onBa {P N : MEnv → Prop} {e : MEnv} {k : Bool} (h : if k = true then P e else N e) : onB P N (k, e) := h
theorem onBd {P N : MEnv → Prop} {e : MEnv} {c : Prop} [Decidable c] (h : if c then P e else N e) : onB P N (decide c, e) := by
  unfold onB
  by_cases k : c
  · rw [if_pos k] at h
    simpa [k] using h
  · rw [if_neg k] at h
    simpa [k] using h
theorem onBnt {P N : MEnv → Prop} {e : MEnv} (h : N e) : onB P N (!true, e) := h
theorem onBnf {P N : MEnv → Prop} {e : MEnv} (h : P e) : onB P N (!false, e) := h
theorem onBnd {P N : MEnv → Prop} {e : MEnv} {c : Prop} [Decidable c] (h : if c then N e else P e) : onB P N (!decide c, e) := by
  unfold onB
  by_cases k : c
  · rw [if_pos k] at h
    simpa [k] using h
  · rw [if_neg k] at h
    simpa [k] using h
theorem onBna {P N : MEnv → Prop} {e : MEnv} {k : Bool} (h : if k = true then N e else P e) : onB P N (!k, e) := by
  cases k <;> exact h
theorem atI_c0 {α : Type} {a : α} {l : List α} : atI (a :: l) 0 = some a := atI_nat (j := 0) rfl
theorem atI_c1 {α : Type} {a b : α} {l : List α} : atI (a :: b :: l) 1 = some b := atI_nat (j := 1) rfl
theorem atI_c2 {α : Type} {a b c : α} {l : List α} : atI (a :: b :: c :: l) 2 = some c := atI_nat (j := 2) rfl
theorem atI_c3 {α : Type} {a b c d : α} {l : List α} : atI (a :: b :: c :: d :: l) 3 = some d := atI_nat (j := 3) rfl
theorem atI_c4 {α : Type} {a b c d e : α} {l : List α} : atI (a :: b :: c :: d :: e :: l) 4 = some e := atI_nat (j := 4) rfl
theorem ifF {P N : Prop} {b : Bool} (e : b = false) (h : N) : if b = true then P else N := by
  subst e
  exact h
theorem ifT {P N : Prop} {b : Bool} (e : b = true) (h : P) : if b = true then P else N := by
  subst e
  exact h
theorem eqv_int {i j : Int} : PyData.eqv (.int i) (.int j) = decide (i = j) := by
  have h : PyData.eqv (.int i) (.int j) = (i == j) := by simp [PyData.eqv]
  rw [h]
  by_cases e : i = j <;> simp [e]
theorem onBnda {P N : MEnv → Prop} {e : MEnv} {a b : Bool} (h : if a = true then (if b = true then P e else N e) else N e) : onB P N (a && b, e) := by
  cases a <;> cases b <;> exact h
def isK (ty : String) (d : D) : Bool := match kitB (dTy d) ty with
  | some b => b
  | none => false
def isInt : D → Bool
  | .int _ => true
  | .bool _ => true
  | _ => false
def isBool : D → Bool
  | .bool _ => true
  | _ => false
def isList : D → Bool
  | .list _ => true
  | _ => false
def isTuple : D → Bool
  | .tuple _ => true
  | _ => false
def isStr : D → Bool
  | .str _ => true
  | _ => false
theorem gIsi_int {d : D} : gIsi "int" [d] = some (.bool (isInt d)) := by
  have h : kitB (dTy d) "int" = some (isInt d) := by
    cases d with
    | none => exact (by decide +kernel : kitB "NoneType" "int" = some false)
    | bool _ => exact (by decide +kernel : kitB "bool" "int" = some true)
    | int _ => exact (by decide +kernel : kitB "int" "int" = some true)
    | str _ => exact (by decide +kernel : kitB "str" "int" = some false)
    | list _ => exact (by decide +kernel : kitB "list" "int" = some false)
    | tuple _ => exact (by decide +kernel : kitB "tuple" "int" = some false)
    | dict _ => exact (by decide +kernel : kitB "dict" "int" = some false)
  show (kitB (dTy d) "int").map PyData.bool = _
  rw [h]
  rfl
theorem gIsi_bool {d : D} : gIsi "bool" [d] = some (.bool (isBool d)) := by
  have h : kitB (dTy d) "bool" = some (isBool d) := by
    cases d with
    | none => exact (by decide +kernel : kitB "NoneType" "bool" = some false)
    | bool _ => exact (by decide +kernel : kitB "bool" "bool" = some true)
    | int _ => exact (by decide +kernel : kitB "int" "bool" = some false)
    | str _ => exact (by decide +kernel : kitB "str" "bool" = some false)
    | list _ => exact (by decide +kernel : kitB "list" "bool" = some false)
    | tuple _ => exact (by decide +kernel : kitB "tuple" "bool" = some false)
    | dict _ => exact (by decide +kernel : kitB "dict" "bool" = some false)
  show (kitB (dTy d) "bool").map PyData.bool = _
  rw [h]
  rfl
theorem gIsi_list {d : D} : gIsi "list" [d] = some (.bool (isList d)) := by
  have h : kitB (dTy d) "list" = some (isList d) := by
    cases d with
    | none => exact (by decide +kernel : kitB "NoneType" "list" = some false)
    | bool _ => exact (by decide +kernel : kitB "bool" "list" = some false)
    | int _ => exact (by decide +kernel : kitB "int" "list" = some false)
    | str _ => exact (by decide +kernel : kitB "str" "list" = some false)
    | list _ => exact (by decide +kernel : kitB "list" "list" = some true)
    | tuple _ => exact (by decide +kernel : kitB "tuple" "list" = some false)
    | dict _ => exact (by decide +kernel : kitB "dict" "list" = some false)
  show (kitB (dTy d) "list").map PyData.bool = _
  rw [h]
  rfl
theorem gIsi_tuple {d : D} : gIsi "tuple" [d] = some (.bool (isTuple d)) := by
  have h : kitB (dTy d) "tuple" = some (isTuple d) := by
    cases d with
    | none => exact (by decide +kernel : kitB "NoneType" "tuple" = some false)
    | bool _ => exact (by decide +kernel : kitB "bool" "tuple" = some false)
    | int _ => exact (by decide +kernel : kitB "int" "tuple" = some false)
    | str _ => exact (by decide +kernel : kitB "str" "tuple" = some false)
    | list _ => exact (by decide +kernel : kitB "list" "tuple" = some false)
    | tuple _ => exact (by decide +kernel : kitB "tuple" "tuple" = some true)
    | dict _ => exact (by decide +kernel : kitB "dict" "tuple" = some false)
  show (kitB (dTy d) "tuple").map PyData.bool = _
  rw [h]
  rfl
theorem gIsi_str {d : D} : gIsi "str" [d] = some (.bool (isStr d)) := by
  have h : kitB (dTy d) "str" = some (isStr d) := by
    cases d with
    | none => exact (by decide +kernel : kitB "NoneType" "str" = some false)
    | bool _ => exact (by decide +kernel : kitB "bool" "str" = some false)
    | int _ => exact (by decide +kernel : kitB "int" "str" = some false)
    | str _ => exact (by decide +kernel : kitB "str" "str" = some true)
    | list _ => exact (by decide +kernel : kitB "list" "str" = some false)
    | tuple _ => exact (by decide +kernel : kitB "tuple" "str" = some false)
    | dict _ => exact (by decide +kernel : kitB "dict" "str" = some false)
  show (kitB (dTy d) "str").map PyData.bool = _
  rw [h]
  rfl
theorem lg {i : Int} {k : Nat} (hk : 0 < k) (h1 : -(2 ^ k) < i) (h2 : i < 2 ^ k) : i.natAbs.log2 < k := by
  by_cases z : i.natAbs = 0
  · rw [z]
    simpa using hk
  · rw [Nat.log2_lt z]
    have h3 : (i.natAbs : Int) < ((2 ^ k : Nat) : Int) := by
      rw [Int.natCast_pow]
      show (i.natAbs : Int) < (2 : Int) ^ k
      omega
    exact Int.ofNat_lt.mp h3
theorem atI_some {α : Type} {xs : List α} {i : Int} (h0 : 0 ≤ i) (h1 : i < xs.length) : ∃ v, atI xs i = some v ∧ v ∈ xs := by
  have h2 : i.toNat < xs.length := by omega
  have h3 := atI_nat (List.getElem?_eq_getElem h2)
  rw [Int.toNat_of_nonneg h0] at h3
  exact ⟨_, h3, List.getElem_mem h2⟩
/-- what has no names: read by unfolding -/
theorem leafI {α : Type} {x y : Option α} {Q : α → Prop} (e : x = y) (h : W y Q) : W x Q := by rw [e]; exact h
end Mx

set_option Elab.async false
set_option autoImplicit false
set_option linter.all false
set_option maxRecDepth 100000
/-! Mx17: the texts that repr gives. -/
namespace Mx
open PySem PySem.Spec PyProof.Rows L2 Builtin.Str Builtin
def okS (x : Str) : Prop := ∀ c ∈ x.cps.toList, c < 0x110000
theorem okS_iff {x : Str} : PyData.strOk x = true ↔ okS x := by
  unfold PyData.strOk okS
  rw [Array.all_eq_true_iff_forall_mem]
  simp
theorem okS_lit (s : String) : okS (Str.ofString s) := fun c h => by
  rw [signs_ofString] at h
  obtain ⟨ch, _, rfl⟩ := List.mem_map.mp h
  have := ch.valid
  rcases this with v | ⟨_, v⟩
  · exact Nat.lt_trans v (by decide)
  · exact v
theorem okS_app {a b : Str} (h : okS a) (k : okS b) : okS (a ++ b) := fun c m => (mem_cps_append.mp m).elim (h c) (k c)
theorem okS_join {sep : Str} {ts : List Str} (h : okS sep) (k : ∀ t ∈ ts, okS t) : okS (Str.join sep ts) := fun c m => ((mem_join sep c ts).mp m).elim (fun ⟨t, a, b⟩ => k t a c b) fun z => h c z.2
theorem char_ok (ch : Char) : ch.toNat < 0x110000 := by
  rcases ch.valid with v | ⟨_, v⟩
  · exact Nat.lt_trans v (by decide)
  · exact v
theorem reprChar_ok {q c : Nat} (hq : q < 0x110000) (hc : c < 0x110000) : ∀ e ∈ reprChar q c, e < 0x110000 := by
  intro e he
  have hx : ∀ (w : Nat), e ∈ (List.replicate w 48 ++ (Nat.toDigits 16 c).map Char.toNat) → e < 0x110000 := fun w m => by
    rcases List.mem_append.mp m with m | m
    · rw [(List.mem_replicate.mp m).2]
      decide
    · obtain ⟨ch, _, rfl⟩ := List.mem_map.mp m
      exact char_ok ch
  unfold reprChar at he
  dsimp only at he
  repeat' split at he
  all_goals simp only [List.mem_append, List.mem_cons, List.not_mem_nil, or_false, List.mem_replicate, List.mem_map] at he hx
  all_goals first
    | omega
    | (rcases he with he | he <;> first | omega | exact hx _ he | (rcases he with he | he <;> first | omega | exact hx _ he))
theorem foldl_repr_ok {q : Nat} (hq : q < 0x110000) : ∀ (l : List Nat) (acc : Array Nat), (∀ c ∈ acc.toList, c < 0x110000) → (∀ c ∈ l, c < 0x110000) → ∀ c ∈ (l.foldl (fun out c => out ++ (reprChar q c).toArray) acc).toList, c < 0x110000
  | [], acc, ha, _ => ha
  | c :: r, acc, ha, h => foldl_repr_ok hq r _ (fun e m => by
      rw [Array.toList_append, List.mem_append] at m
      exact m.elim (ha e) fun m => reprChar_ok hq (h c (List.mem_cons_self ..)) e (by simpa using m)) fun d m => h d (List.mem_cons_of_mem _ m)
theorem okS_repr {x : Str} (h : okS x) : okS (reprText x) := fun c m => by
  have hq : reprQuote x < 0x110000 := by
    unfold reprQuote
    split <;> decide
  unfold reprText at m
  have m' : c ∈ ((x.cps.foldl (fun out c => out ++ (reprChar (reprQuote x) c).toArray) #[reprQuote x]).push (reprQuote x)).toList := m
  rw [Array.toList_push, List.mem_append, ← Array.foldl_toList] at m'
  rcases m' with m' | m'
  · exact foldl_repr_ok hq x.cps.toList #[reprQuote x] (fun c z => by
      have : c = reprQuote x := by simpa using z
      rw [this]; exact hq) h c m'
  · rw [List.mem_singleton.mp m']
    exact hq
mutual
/-- every text in it is of true signs -/
def okD : D → Bool
  | .none | .bool _ | .int _ => true
  | .str x => PyData.strOk x
  | .list xs | .tuple xs => okA xs
  | .dict kvs => okK kvs
def okA : List D → Bool
  | [] => true
  | x :: xs => okD x && okA xs
def okK : List (D × D) → Bool
  | [] => true
  | (k, v) :: r => okD k && okD v && okK r
end
mutual
theorem shown_ok : ∀ d : D, okD d = true → okS d.shown
  | .none, _ => by rw [PyData.shown_none]; exact okS_lit _
  | .bool b, _ => by
    rw [PyData.shown_bool]
    cases b <;> exact okS_lit _
  | .int i, _ => by rw [PyData.shown_int]; exact okS_lit _
  | .str x, h => by
    rw [PyData.shown_str]
    exact okS_repr (okS_iff.mp (by simpa [okD] using h))
  | .list xs, h => by
    rw [PyData.shown_list]
    exact okS_app (okS_app (okS_lit _) (okS_join (okS_lit _) (shownAll_ok xs (by simpa [okD] using h)))) (okS_lit _)
  | .tuple xs, h => by
    rw [PyData.shown_tuple]
    exact okS_app (okS_app (okS_lit _) (okS_join (okS_lit _) (shownAll_ok xs (by simpa [okD] using h)))) (by split <;> exact okS_lit _)
  | .dict kvs, h => by
    rw [PyData.shown_dict]
    exact okS_app (okS_app (okS_lit _) (okS_join (okS_lit _) (shownKv_ok kvs (by simpa [okD] using h)))) (okS_lit _)
theorem shownAll_ok : ∀ xs : List D, okA xs = true → ∀ t ∈ PyData.shownAll xs, okS t
  | [], _, t, m => by rw [PyData.shownAll_nil] at m; cases m
  | x :: xs, h, t, m => by
    have h' : okD x = true ∧ okA xs = true := by simpa [okA] using h
    rw [PyData.shownAll_cons] at m
    rcases List.mem_cons.mp m with rfl | m
    · exact shown_ok x h'.1
    · exact shownAll_ok xs h'.2 t m
theorem shownKv_ok : ∀ kvs : List (D × D), okK kvs = true → ∀ t ∈ PyData.shownKv kvs, okS t
  | [], _, t, m => by rw [PyData.shownKv_nil] at m; cases m
  | (k, v) :: r, h, t, m => by
    have h' : (okD k = true ∧ okD v = true) ∧ okK r = true := by simpa [okK] using h
    rw [PyData.shownKv_cons] at m
    rcases List.mem_cons.mp m with rfl | m
    · exact okS_app (okS_app (shown_ok k h'.1.1) (okS_lit _)) (shown_ok v h'.1.2)
    · exact shownKv_ok r h'.2 t m
end
/-- a value that can be shown: at most k deep, of weight at most w -/
structure Gd (k w : Nat) (d : D) : Prop where
  sh : d.showable = true
  dp : d.depth ≤ k
  ok : okD d = true
  lv : d.leavesShort 40 = true
  wt : d.weight ≤ w
theorem Gd.mono {k w k' w' : Nat} {d : D} (h : Gd k w d) (a : k ≤ k') (b : w ≤ w') : Gd k' w' d := ⟨h.sh, Nat.le_trans h.dp a, h.ok, h.lv, Nat.le_trans h.wt b⟩
theorem Gd.all {k w : Nat} : ∀ {ds : List D}, (∀ d ∈ ds, Gd k w d) → PyData.showableAll ds = true ∧ PyData.depthAll ds ≤ k ∧ okA ds = true ∧ PyData.leavesShortAll 40 ds = true ∧ PyData.weightAll ds ≤ ds.length * (w + 1)
  | [], _ => ⟨by simp only [PyData.showableAll], by simp only [PyData.depthAll]; omega, by simp only [okA], by simp only [PyData.leavesShortAll], by simp only [PyData.weightAll]; omega⟩
  | d :: ds, h => by
    obtain ⟨a1, a2, a3, a4, a5⟩ := Gd.all (ds := ds) fun d m => h d (List.mem_cons_of_mem _ m)
    have b := h d (List.mem_cons_self ..)
    refine ⟨?_, ?_, ?_, ?_, ?_⟩
    · simp only [PyData.showableAll, b.sh, a1, Bool.and_self]
    · simp only [PyData.depthAll]
      exact Nat.max_le.mpr ⟨b.dp, a2⟩
    · simp only [okA, b.ok, a3, Bool.and_self]
    · simp only [PyData.leavesShortAll, b.lv, a4, Bool.and_self]
    · simp only [PyData.weightAll, List.length_cons]
      have := b.wt
      rw [Nat.add_mul]
      omega
theorem Gd.list {k w m : Nat} {ds : List D} (h : ∀ d ∈ ds, Gd k w d) (hl : ds.length ≤ m) : Gd (k + 1) (m * (w + 1)) (.list ds) := by
  obtain ⟨a1, a2, a3, a4, a5⟩ := Gd.all h
  refine ⟨by simpa only [PyData.showable] using a1, ?_, by simpa only [okD] using a3, by simpa only [PyData.leavesShort] using a4, ?_⟩
  · simp only [PyData.depth]
    omega
  · simp only [PyData.weight]
    exact Nat.le_trans a5 (Nat.mul_le_mul_right _ hl)
theorem Gd.tuple {k w m : Nat} {ds : List D} (h : ∀ d ∈ ds, Gd k w d) (hl : ds.length ≤ m) : Gd (k + 1) (m * (w + 1)) (.tuple ds) := by
  obtain ⟨a1, a2, a3, a4, a5⟩ := Gd.all h
  refine ⟨by simpa only [PyData.showable] using a1, ?_, by simpa only [okD] using a3, by simpa only [PyData.leavesShort] using a4, ?_⟩
  · simp only [PyData.depth]
    omega
  · simp only [PyData.weight]
    exact Nat.le_trans a5 (Nat.mul_le_mul_right _ hl)
theorem Gd.len {k w : Nat} {d : D} (h : Gd k w d) (hw : w ≤ 300000) : d.shown.length ≤ 16777216 := by
  have := PyData.shown_le 40 (by decide) d h.lv
  have := h.wt
  omega
theorem gRepr_gd {k w : Nat} {d : D} {b : Bool} (h : Gd k w d) (hk : k ≤ 30) (hw : w ≤ 300000) (hb : b = true ∨ flatShow d = true) : gRepr b [d] = some (.str d.shown) := by
  unfold gRepr
  exact if_pos ⟨h.sh, Nat.le_trans h.dp hk, h.len hw, hb⟩
theorem shaped_str {x : Str} (h : okS x) : SeqAt.shaped (.str x) = true := by
  unfold SeqAt.shaped
  rw [Bool.and_eq_true]
  refine ⟨?_, ?_⟩
  · simp only [PyData.canLay0]
    exact okS_iff.mpr h
  · simp only [PyData.depth]
    rfl
theorem eqv_str {x y : Str} : PyData.eqv (.str x) (.str y) = (x == y) := by simp only [PyData.eqv]
theorem gNe_shown {a b : D} (ha : okD a = true) (hb : okD b = true) : gNe [.str a.shown, .str b.shown] = some (.bool (!(a.shown == b.shown))) := by
  show (if (SeqAt.shaped (.str a.shown) && SeqAt.shaped (.str b.shown)) = true then _ else none) = _
  rw [shaped_str (shown_ok a ha), shaped_str (shown_ok b hb), eqv_str]
  rfl
/-- a comprehension that changes nothing around it -/
theorem W_mCompE {env : MEnv} {t : D → MEnv → Option MEnv} {js : List Nat} {u : MT} {a : MX} {items acc : List D} {Y : List D × MEnv → Prop} (P : Nat → List D → Prop) (h0 : P 0 acc)
    (hs : ∀ i d ac, items[i]? = some d → P i ac → W (t d env) fun e1 => W (u e1) (onB (fun e2 => W (a e2) fun p => W (toDat p.1 p.2) fun x => ac.length < 16777216 ∧ P (i + 1) (ac ++ [x.1]) ∧ wipeE x.2 js = env) fun e2 => P (i + 1) ac ∧ wipeE e2 js = env))
    (hq : ∀ ac, P items.length ac → Y (ac, env)) : W (mComp t js u a items acc env) Y :=
  W_mComp (fun i ac e => P i ac ∧ e = env) ⟨h0, rfl⟩ (fun i d ac e hd ⟨h1, h2⟩ => by
    subst h2
    exact hs i d ac hd h1) fun ac e ⟨h1, h2⟩ => by
    subst h2
    exact hq ac h1
end Mx

set_option Elab.async false
set_option autoImplicit false
set_option linter.all false
set_option maxRecDepth 100000
/-! Mx18: properties of a Board, keyword arguments, nested targets, sum, zip, is None. -/
namespace Mx
open PySem PySem.Spec PyProof.Rows L2
open L2 (Inv)
/-! ### lane_count, gate_list -/
/-- return list(self._gates) -/
def spGateList (B : Addr) : Sp := fun vs H Q _ => ∃ (a dx g : Addr) (n : Int) (xs : List V), vs = [.ref a] ∧ H a = some (.ins B dx [("_lanes", .int n), ("_gates", .ref g)]) ∧ H g = some (.lst xs) ∧ ∀ p, H p = none → Q (.ref p) (upd H p (.lst xs))
def mGateList (me : MX) : MX := fun env => (me env).bind fun (o, env1) => (brdOf o env1).bind fun (_, gs) => some (.new (.list gs), env1)
section
variable {W : Wd} {X : Cx} {e : Expr} {me : MX} {pos : Pos} {k : Nat} {p g : Addr} {fd : FuncData} {f : Str}
theorem pm_propLanes (hK : X.K = W.K) (cl : Cls W.K W.B) (hp : PropOf W.K W.B f p g) (F : FnOk X.prog X.w X.K X.mg X.base CX0 k g fd ["self"] (getSp W.B "_lanes")) (hb : Binds X.K fd ["self"] []) (hr : Room (k + 1) X.A) (he : PM W X e me)
    (hab : attributeBase e f X.env (eval e X.env) = eval e X.env := by rfl) : PM W X (.Attribute e f pos) (mLanes me) :=
  ⟨fun B0 => PE.imp (pe_prop (C := W.B) (he.pe B0) (by rw [hK]; exact cl) (by rw [hK]; exact hp) F hr hb .nil pass0 hab) fun σ H Q ⟨T0, env, o, env', R, ee, k⟩ => by
    unfold mLanes at ee
    cases e1 : me env with
    | none => simp [e1] at ee
    | some z =>
      obtain ⟨o1, env1⟩ := z
      cases e2 : brdOf o1 env1 with
      | none => simp [e1, e2] at ee
      | some y =>
        obtain ⟨n, gs⟩ := y
        simp [e1, e2] at ee
        obtain ⟨rfl, rfl⟩ := ee
        refine ⟨T0, env, o1, env1, R, e1, fun v H1 k1 s1 o1' => ?_⟩
        have R1 := opdK_base o1'
        obtain ⟨a, dx, g, xs, rfl, n1, n2, h1, h2, l⟩ := brd_at o1' R1 e2
        exact ⟨a, dx, _, rfl, h1, a, dx, _, .int n, rfl, h1, rfl, k _ H1 k1 s1 ⟨.int _, R1⟩⟩⟩
theorem pm_propGates (hK : X.K = W.K) (cl : Cls W.K W.B) (hp : PropOf W.K W.B f p g) (F : FnOk X.prog X.w X.K X.mg X.base CX0 k g fd ["self"] (spGateList W.B)) (hb : Binds X.K fd ["self"] []) (hr : Room (k + 1) X.A) (he : PM W X e me)
    (hab : attributeBase e f X.env (eval e X.env) = eval e X.env := by rfl) : PM W X (.Attribute e f pos) (mGateList me) :=
  ⟨fun B0 => PE.imp (pe_prop (C := W.B) (he.pe B0) (by rw [hK]; exact cl) (by rw [hK]; exact hp) F hr hb .nil pass0 hab) fun σ H Q ⟨T0, env, o, env', R, ee, k⟩ => by
    unfold mGateList at ee
    cases e1 : me env with
    | none => simp [e1] at ee
    | some z =>
      obtain ⟨o1, env1⟩ := z
      cases e2 : brdOf o1 env1 with
      | none => simp [e1, e2] at ee
      | some y =>
        obtain ⟨n, gs⟩ := y
        simp [e1, e2] at ee
        obtain ⟨rfl, rfl⟩ := ee
        refine ⟨T0, env, o1, env1, R, e1, fun v H1 k1 s1 o1' => ?_⟩
        have R1 := opdK_base o1'
        obtain ⟨a, dx, g, xs, rfl, n1, n2, h1, h2, l⟩ := brd_at o1' R1 e2
        exact ⟨a, dx, _, rfl, h1, a, dx, g, n, xs, rfl, h1, h2, fun q hq => k _ _ (k1.trans (Keep.new hq) fun a z => s1.own a z) s1 (mk_list R1 hq l)⟩⟩
end
theorem W_mLanes {me : MX} {env : MEnv} {R : Opd × MEnv → Prop} : W (mLanes me env) R = W (me env) fun p => W (brdOf p.1 p.2) fun q => R (.dat (.int q.1), p.2) := by
  unfold mLanes
  rw [W_bind]
  congr 1
  funext p
  obtain ⟨o, e⟩ := p
  rw [W_bind]
  congr 1
  funext q
  exact W_some
theorem W_mGates {me : MX} {env : MEnv} {R : Opd × MEnv → Prop} : W (mGates me env) R = W (me env) fun p => W (brdOf p.1 p.2) fun q => R (.dat (.list q.2), p.2) := by
  unfold mGates
  rw [W_bind]
  congr 1
  funext p
  obtain ⟨o, e⟩ := p
  rw [W_bind]
  congr 1
  funext q
  exact W_some
theorem W_mGateList {me : MX} {env : MEnv} {R : Opd × MEnv → Prop} : W (mGateList me env) R = W (me env) fun p => W (brdOf p.1 p.2) fun q => R (.new (.list q.2), p.2) := by
  unfold mGateList
  rw [W_bind]
  congr 1
  funext p
  obtain ⟨o, e⟩ := p
  rw [W_bind]
  congr 1
  funext q
  exact W_some

/-! ### defs with start=None -/
structure DfK (K : PySem.W.Frag) (mg : Str → Option Value) (x : Str) (st : Stmt) (ps : List Str) (n : Nat) : Prop where
  ex : ∃ (f : Addr) (fd : FuncData) (ds : List Value), Fun K x x st f fd ∧ Vals [V.non] ds ∧ Binds K fd ps ds ∧ KBn K fd ps n ["start"] (fun us ws => us ++ ws) (fun us ws => us ++ ws) ∧ mg x = some (.ref f)
structure KnK (P : Program) (w : World) (K : PySem.W.Frag) (mg : Str → Option Value) (base : Heap) (k : Nat) (x : Str) (ps : List Str) (n : Nat) (sp : Sp) : Prop where
  ex : ∃ (f : Addr) (fd : FuncData) (ds : List Value), FnOk P w K mg base CX0 k f fd ps sp ∧ Vals [V.non] ds ∧ Binds K fd ps ds ∧ KBn K fd ps n ["start"] (fun us ws => us ++ ws) (fun us ws => us ++ ws) ∧ mg x = some (.ref f) ∧ PySem.W.keepIn K (.ref f) = true
section
variable {P : Program} {w : World} {K : PySem.W.Frag} {mg : Str → Option Value} {base : Heap} {B : Addr} {x : Str} {st : Stmt} {N ps : List Str} {k n m j : Nat} {ms : MS}
theorem DfK.kn (d : DfK K mg x st ps j) (S : FnScope N ps (defScope st)) (hn : ps.length = n) (hN : N.length = n + m)
    (hb : ∀ (f : Addr) (cdv : Value) (A : Around) (outer : List Env) (s : Shared) (H : Hp) (E : XK), Room k (A.deeper (envOfC x (defScope st) s.heap.objs.size f cdv)) →
      PMB ⟨K, B, AS.emp⟩ (cxOf CX0 P w K mg base N x (defScope st) f cdv A outer s H E).nox (defBody st) ms) : KnK P w K mg base (k + 1) x ps j (spF K B n (denOf m ms)) := by
  obtain ⟨f, fd, ds, F, v, b, kb, e⟩ := d.ex
  exact ⟨f, fd, ds, fn_mk F S hn hN (hb f), v, b, kb, e, F.kp⟩
end
theorem opdsK_more {W : Wd} {σ : L2.St} {H : Hp} {env : MEnv} : ∀ {os : List Opd} {vs : List V} {T0 : AS} {R : AS → Prop}, OpdsK W σ H env T0 vs os R → OpdsK W σ H env T0 (vs ++ [.non]) (os ++ [.dat .none]) R
  | [], [], _, _, h => ⟨.non, .non, h⟩
  | [], _ :: _, _, _, h => h.elim
  | _ :: _, [], _, _, h => h.elim
  | o :: os, v :: vs, T0, R, h => OpdK.imp (show OpdK W T0 σ H env v _ o from h) fun T r => opdsK_more r
def fCallD (io : List Bool) (n : Nat) (F : Den) : FX := fun os env => fCall io n F (os ++ [.dat .none]) env
theorem prim_callD {W : Wd} {io : List Bool} {n : Nat} {F : Den} {E : XK} : Prim W (fun vs H Q => spF W.K W.B n F (vs ++ [.non]) H Q E) (fCallD io n F) := fun T0 σ H env vs os o env' Q ho e k =>
  prim_call (W := W) (io := io) (n := n) (F := F) (E := E) T0 σ H env (vs ++ [.non]) (os ++ [.dat .none]) o env' Q (opdsK_more ho) (show fCall io n F (os ++ [.dat .none]) env = some (o, env') from e) k
theorem callee_d {X : Cx} {k : Nat} {f : Addr} {fd : FuncData} {ps : List Str} {sp : Sp} {ds : List Value} (F : FnOk X.prog X.w X.K X.mg X.base CX0 k f fd ps sp) (hr : Room k X.A) (hv : Vals [V.non] ds) (hb : Binds X.K fd ps ds) : Callee X f (fun vs H Q E => sp (vs ++ [.non]) H Q E) := fun pins σ H s Q us vs hI r q =>
  run_fn (dvs := [V.non]) (ds := ds) F hr hb hv pass0 hI r (Q := Q) q
/-- f(e, ..): start is left out -/
theorem pm_kd {W : Wd} {X : Cx} {k n j : Nat} {io : List Bool} {F : Den} {x : Str} {ps : List Str} {p pos : Pos} {e : Expr} {es : List Expr} {m : MA} (c : KnK X.prog X.w X.K X.mg X.base k x ps j (spF W.K W.B n F)) (hr : Room k X.A) (hg : Gl X x) (ha : PMA W X (e :: es) m)
    (hdb : (x == ("__debug__" : Str)) = false := by decide) (he : starEach (e :: es) X.env = (false, eval e X.env) :: starEach es X.env := by rfl) (hpl : (backTo pos (starEach es X.env)).any (·.1) = false := by rfl) : PM W X (.Call (.Name x p) (e :: es) [] pos) (mPrim (fCallD io n F) m) := by
  obtain ⟨f, fd, ds, a, v, b, _, c, d⟩ := c.ex
  exact ⟨fun B0 => PE.imp (pe_callee (callee_d a hr v b) hg c d (ha.pa B0) hdb he hpl) fun σ H Q h => prim_split (prim_callD (W := W.at B0)) h⟩
section
variable {W : Wd} {X : Cx} {k n j : Nat} {io : List Bool} {F : Den} {x : Str} {ps : List Str} {p pos kpos : Pos} {a b c e : Expr} {ma mb mc me : MX}
/-- f(a, start=e) -/
theorem pm_kw1 (cn : KnK X.prog X.w X.K X.mg X.base k x ps 1 (spF W.K W.B n F)) (hr : Room k X.A) (hg : Gl X x) (ha : PM W X a ma) (he : PM W X e me) (hdb : (x == ("__debug__" : Str)) = false := by decide)
    (hall : (backToKw pos (keywordEach [⟨some "start", e, kpos⟩] X.env)).all (·.1.isSome) = true := by rfl) (hks : (backToKw pos (keywordEach [⟨some "start", e, kpos⟩] X.env)).filterMap (·.1) = (["start"] : List Str) := by rfl)
    (hs : starEach [a] X.env = (false, eval a X.env) :: starEach [] X.env := by rfl)
    (hpl : ((backTo pos (starEach [a] X.env)).any (·.1) || (backToKw pos (keywordEach [⟨some "start", e, kpos⟩] X.env)).any (·.1.isNone)) = false := by rfl) :
    PM W X (.Call (.Name x p) [a] [⟨some "start", e, kpos⟩] pos) (mPrim (fCall io n F) (mCons ma (mCons me mNil))) := by
  obtain ⟨f, fd, ds, fo, v, _, kb, hm, kp⟩ := cn.ex
  refine ⟨fun B0 => PE.imp (pe_callN fo hr hg hm kp kb (E := E0) pass0 (pa_cons (ha.pe B0) pa_nil hs) (pk_cons he.pex pk_nil) hall hks hdb hs hpl) fun σ H Q h => ?_⟩
  have h1 := prim_split (prim_call (W := W.at B0) (E := E0)) h
  exact tM_mono (split2 h1) fun v1 H1 q1 => tMx_mono q1 fun v2 H2 q2 => ⟨rfl, rfl, q2⟩
theorem pm_kw2 (cn : KnK X.prog X.w X.K X.mg X.base k x ps 2 (spF W.K W.B n F)) (hr : Room k X.A) (hg : Gl X x) (ha : PM W X a ma) (hb : PM W X b mb) (he : PM W X e me) (hdb : (x == ("__debug__" : Str)) = false := by decide)
    (hall : (backToKw pos (keywordEach [⟨some "start", e, kpos⟩] X.env)).all (·.1.isSome) = true := by rfl) (hks : (backToKw pos (keywordEach [⟨some "start", e, kpos⟩] X.env)).filterMap (·.1) = (["start"] : List Str) := by rfl)
    (hs : starEach [a, b] X.env = (false, eval a X.env) :: starEach [b] X.env := by rfl) (hs2 : starEach [b] X.env = (false, eval b X.env) :: starEach [] X.env := by rfl)
    (hpl : ((backTo pos (starEach [a, b] X.env)).any (·.1) || (backToKw pos (keywordEach [⟨some "start", e, kpos⟩] X.env)).any (·.1.isNone)) = false := by rfl) :
    PM W X (.Call (.Name x p) [a, b] [⟨some "start", e, kpos⟩] pos) (mPrim (fCall io n F) (mCons ma (mCons mb (mCons me mNil)))) := by
  obtain ⟨f, fd, ds, fo, v, _, kb, hm, kp⟩ := cn.ex
  refine ⟨fun B0 => PE.imp (pe_callN fo hr hg hm kp kb (E := E0) pass0 (pa_cons (ha.pe B0) (pa_cons hb.pex pa_nil hs2) hs) (pk_cons he.pex pk_nil) hall hks hdb hs hpl) fun σ H Q h => ?_⟩
  have h1 := prim_split (prim_call (W := W.at B0) (E := E0)) h
  refine tM_mono (mcons_split h1) fun v1 H1 ⟨B1, q1⟩ => ⟨B1, tM_mono (mcons_split q1) fun v2 H2 q2 => tMx_mono (split1x q2) fun v3 H3 q3 => ⟨rfl, rfl, q3⟩⟩
theorem pm_kw3 (cn : KnK X.prog X.w X.K X.mg X.base k x ps 3 (spF W.K W.B n F)) (hr : Room k X.A) (hg : Gl X x) (ha : PM W X a ma) (hb : PM W X b mb) (hc : PM W X c mc) (he : PM W X e me) (hdb : (x == ("__debug__" : Str)) = false := by decide)
    (hall : (backToKw pos (keywordEach [⟨some "start", e, kpos⟩] X.env)).all (·.1.isSome) = true := by rfl) (hks : (backToKw pos (keywordEach [⟨some "start", e, kpos⟩] X.env)).filterMap (·.1) = (["start"] : List Str) := by rfl)
    (hs : starEach [a, b, c] X.env = (false, eval a X.env) :: starEach [b, c] X.env := by rfl) (hs2 : starEach [b, c] X.env = (false, eval b X.env) :: starEach [c] X.env := by rfl) (hs3 : starEach [c] X.env = (false, eval c X.env) :: starEach [] X.env := by rfl)
    (hpl : ((backTo pos (starEach [a, b, c] X.env)).any (·.1) || (backToKw pos (keywordEach [⟨some "start", e, kpos⟩] X.env)).any (·.1.isNone)) = false := by rfl) :
    PM W X (.Call (.Name x p) [a, b, c] [⟨some "start", e, kpos⟩] pos) (mPrim (fCall io n F) (mCons ma (mCons mb (mCons mc (mCons me mNil))))) := by
  obtain ⟨f, fd, ds, fo, v, _, kb, hm, kp⟩ := cn.ex
  refine ⟨fun B0 => PE.imp (pe_callN fo hr hg hm kp kb (E := E0) pass0 (pa_cons (ha.pe B0) (pa_cons hb.pex (pa_cons hc.pex pa_nil hs3) hs2) hs) (pk_cons he.pex pk_nil) hall hks hdb hs hpl) fun σ H Q h => ?_⟩
  have h1 := prim_split (prim_call (W := W.at B0) (E := E0)) h
  refine tM_mono (mcons_split h1) fun v1 H1 ⟨B1, q1⟩ => ⟨B1, tM_mono (mcons_split q1) fun v2 H2 ⟨B2, q2⟩ => ⟨B2, tM_mono (mcons_split q2) fun v3 H3 q3 => tMx_mono (split1x q3) fun v4 H4 q4 => ⟨rfl, rfl, q4⟩⟩⟩
end

/-! ### i, (j, k) -/
def putE (i j k : Nat) : D → MEnv → Option MEnv
  | .tuple [a, .tuple [b, c]], env => setAll (tsOf [i, j, k]) [.dat a, .dat b, .dat c] env
  | _, _ => none
def tgEn (i j k : Nat) : Tgt := ⟨[i, j, k], putE i j k⟩
theorem tg_en (K : PySem.W.Frag) (i j k : Nat) : TgOk (tgEn i j k) (gTup K 2 (gCons (gName i) (gCons (gTup K 2 (gNames [j, k])) gNil))) := by
  intro W T0 σ H env x d env1 Q R a e q
  have e' : putE i j k d env = some env1 := e
  unfold putE at e'
  split at e'
  · rename_i d1 d2 d3
    cases a with
    | tup n h l =>
      obtain ⟨v1, v2, rfl, a1, a2⟩ := atl2 l
      cases a2 with
      | tup n2 h2 l2 =>
        obtain ⟨v3, v4, rfl, a3, a4⟩ := atl2 l2
        obtain ⟨s, r, o⟩ := dats_go (is := [i, j, k]) (vs := [v1, v3, v4]) (ds := [d1, d2, d3]) R (.cons a1 (.cons a3 (.cons a4 .nil))) e'
        exact ⟨_, _, rfl, SqT.of h, rfl, v1, _, rfl, _, _, rfl, ⟨_, _, rfl, SqT.of h2, rfl, v3, _, rfl, v4, _, rfl, rfl, rfl, q [v1, v3, v4] rfl s r o⟩⟩
  · cases e'

/-! ### sum -/
def intsOf : List D → Option (List Int)
  | [] => some []
  | .int i :: ds => (intsOf ds).map fun ns => i :: ns
  | _ :: _ => none
theorem intsOf_map : ∀ (ns : List Int), intsOf (ns.map PyData.int) = some ns
  | [] => rfl
  | n :: ns => by
    show (intsOf (ns.map PyData.int)).map _ = _
    rw [intsOf_map ns]
    rfl
theorem intsOf_eq : ∀ {ds : List D} {ns : List Int}, intsOf ds = some ns → ds = ns.map PyData.int
  | [], ns, e => by cases e; rfl
  | d :: ds, ns, e => by
    cases d with
    | int i =>
      have e' : (intsOf ds).map (fun ns => i :: ns) = some ns := e
      cases q : intsOf ds with
      | none => rw [q] at e'; cases e'
      | some ms =>
        rw [q] at e'
        cases e'
        rw [intsOf_eq q]
        rfl
    | none => cases e
    | bool b => cases e
    | str x => cases e
    | list l => cases e
    | tuple l => cases e
    | dict l => cases e
theorem ints_at {T : AS} {H : Hp} : ∀ {ns : List Int} {xs : List V}, AtL T H xs (ns.map PyData.int) → xs = ns.map V.int
  | [], _, l => by cases l; rfl
  | n :: ns, _, l => by
    cases l with
    | cons a b =>
      cases a
      rw [ints_at b]
      rfl
def gSum : List D → Option D
  | [.list ds] => (intsOf ds).map fun ns => .int ns.sum
  | _ => none
def fSum : FX := fPure gSum
theorem prim_sum {W : Wd} {K : PySem.W.Frag} : Prim W (rSum K) fSum := prim_pure fun vs H ds d v Q l e ev q => by
  unfold gSum at e
  split at e
  · rename_i es
    obtain ⟨x, rfl, hx⟩ := atl1 l
    cases e1 : intsOf es with
    | none => rw [e1] at e; cases e
    | some ns =>
      rw [e1] at e
      cases e
      cases ev
      rw [intsOf_eq e1] at hx
      cases hx with
      | lst n e l =>
        have := ints_at l
        subst this
        exact ⟨_, ns, rfl, SqL.of e, q⟩
  · cases e

/-! ### x is None -/
def isNone : D → Bool
  | .none => true
  | _ => false
def gIsN : List D → Option D
  | [d, .none] => some (.bool (isNone d))
  | _ => none
theorem prim_isN {W : Wd} : Prim W (R2P (fun x y H Q => y = .non ∧ Q (.bl (decide (x = .non))) H)) (fPure gIsN) := prim_pure fun vs H ds d v Q l e ev q => by
  unfold gIsN at e
  split at e
  · rename_i d0
    obtain ⟨x, y, rfl, hx, hy⟩ := atl2 l
    cases e
    cases ev
    refine ⟨x, y, rfl, by cases hy; rfl, ?_⟩
    have : decide (x = V.non) = isNone d0 := by
      cases hx <;> first | rfl | exact decide_eq_false (fun z => nomatch z)
    rw [this]
    exact q
  · cases e
section
variable {W : Wd} {X : Cx} {a b : Expr} {ma mb : MX} {p pos : Pos}
theorem pm_isN (ha : PM W X a ma) (hb : PM W X b mb) : PM W X (.Compare a [.Is] [b] pos) (mPrim (fPure gIsN) (mCons ma (mCons mb mNil))) := pm_cmp op_isN (fun _ => prim_isN) ha hb (nomark _)

/-! ### zip -/
def zipD (ds es : List D) : List D := List.zipWith (fun a b => PyData.tuple [a, b]) ds es
def mZip (m : MA) : MI := fun env => (m env).bind fun (os, env1) => (toDats os env1).bind fun (ds, env2) => match ds with
  | [.list xs, .list ys] => some (zipD xs ys, env2)
  | _ => none
theorem src_zip {K : PySem.W.Frag} {T : AS} {H : Hp} {a b : Addr} {xs ys : List V} {ds es : List D} (na : ¬ T a) (nb : ¬ T b) (ha : H a = some (.lst xs)) (hb : H b = some (.lst ys)) (la : AtL T H xs ds) (lb : AtL T H ys es) : Src (Itz K a b) T H (zipD ds es) := by
  refine ⟨fun Hi T' M dm i d e => ?_, fun Hi T' M => ?_⟩
  · obtain ⟨e1, _⟩ := M.mv _ _ na ha
    obtain ⟨e2, _⟩ := M.mv _ _ nb hb
    unfold zipD at e
    rw [List.getElem?_zipWith] at e
    cases w : ds[i]? with
    | none => rw [w] at e; cases e
    | some d0 =>
      cases w2 : es[i]? with
      | none => rw [w, w2] at e; cases e
      | some d1 =>
        rw [w, w2] at e
        cases e
        obtain ⟨v, hv, hd⟩ := (AtL.move M ds xs la).get w
        obtain ⟨v2, hv2, hd2⟩ := (AtL.move M es ys lb).get w2
        refine ⟨⟨xs, ys, v, v2, SqL.of e1, SqL.of e2, hv, hv2⟩, fun x H3 y => ?_⟩
        obtain ⟨t, u, u2, rfl, ht, rfl, y, y2⟩ := y
        have := y xs (SqL.of e1)
        rw [hv] at this
        cases this
        have := y2 ys (SqL.of e2)
        rw [hv2] at this
        cases this
        have kp : Keep AS.emp Hi (upd Hi t (.tup [v, v2])) := Keep.new ht
        exact ⟨kp, .tup (fun z => dm t z ht) upd_same (.cons (At.move (Move.keep kp fun _ z => z.elim) d0 v hd) (.cons (At.move (Move.keep kp fun _ z => z.elim) d1 v2 hd2) .nil))⟩
  · obtain ⟨e1, _⟩ := M.mv _ _ na ha
    obtain ⟨e2, _⟩ := M.mv _ _ nb hb
    refine ⟨xs, ys, SqL.of e1, SqL.of e2, ?_⟩
    unfold zipD
    rw [List.length_zipWith, la.length, lb.length]
    omega
theorem pmi_zip {elts : List Expr} {kk : Nat} {tpos : Pos} (hg : Gl X "zip") (hm : X.mg "zip" = none) (ha : PMA W X [a, b] (mCons ma (mCons mb mNil))) (hs : starEach [a, b] X.env = (false, eval a X.env) :: starEach [b] X.env := by rfl) (hpl : (backTo pos (starEach [b] X.env)).any (·.1) = false := by rfl) :
    PMI W X (.Tuple elts kk tpos) (.Call (.Name "zip" p) [a, b] [] pos) (mZip (mCons ma (mCons mb mNil))) :=
  ⟨fun B0 => PI.imp (pi_zip hg hm (ha.pa B0) hs hpl) fun σ H R ⟨T0, env, items, env', Rl, e, k⟩ => by
    unfold mZip at e
    cases e1 : mCons ma (mCons mb mNil) env with
    | none => simp [e1] at e
    | some z =>
      obtain ⟨os, env1⟩ := z
      cases e2 : toDats os env1 with
      | none => simp [e1, e2] at e
      | some y =>
        obtain ⟨ds, env2⟩ := y
        simp only [e1, e2, Option.bind] at e
        split at e
        · rename_i xs ys
          cases e
          refine ⟨T0, env, os, env1, Rl, e1, fun vs H1 k1 s1 o1 => ?_⟩
          obtain ⟨R2, s2, l⟩ := toDats_at o1 Osub.refl e2
          obtain ⟨x, y, rfl, hx, hy⟩ := atl2 l
          cases hx with
          | lst n1 q1 l1 =>
            cases hy with
            | lst n2 q2 l2 => exact ⟨_, _, _, _, rfl, SqL.of q1, SqL.of q2, k _ H1 k1 (s1.trans s2) R2 (src_zip n1 n2 q1 q2 l1 l2)⟩
        · cases e⟩
end
theorem W_mZip {m : MA} {env : MEnv} {R : List D × MEnv → Prop} : W (mZip m env) R = W (m env) fun p => W (toDats p.1 p.2) fun q => W (match q.1 with | [.list xs, .list ys] => some (zipD xs ys, q.2) | _ => none) R := by
  unfold mZip
  rw [W_bind]
  congr 1
  funext p
  obtain ⟨o, e⟩ := p
  rw [W_bind]
  try rfl
theorem W_mEnum {ma : MX} {env : MEnv} {R : List D × MEnv → Prop} : W (mEnum ma env) R = W (ma env) fun p => W (toDat p.1 p.2) fun q => W (match q.1 with | .list ds => some (enumD ds, q.2) | _ => none) R := by
  unfold mEnum
  rw [W_bind]
  congr 1
  funext p
  obtain ⟨o, e⟩ := p
  rw [W_bind]
  try rfl
theorem W_mItL {ma : MX} {env : MEnv} {R : List D × MEnv → Prop} : W (mItL ma env) R = W (ma env) fun p => W (toDat p.1 p.2) fun q => W (match q.1 with | .list ds => some (ds, q.2) | _ => none) R := by
  unfold mItL
  rw [W_bind]
  congr 1
  funext p
  obtain ⟨o, e⟩ := p
  rw [W_bind]
  try rfl
theorem W_mRng1 {ma : MX} {env : MEnv} {R : List D × MEnv → Prop} : W (mRng1 ma env) R = W (ma env) fun p => W (gRng1 (peek p.1 p.2)) fun q => R (q, p.2) := by
  unfold mRng1
  rw [W_bind]
  congr 1
  funext p
  obtain ⟨o, e⟩ := p
  rw [W_bind]
  congr 1
  funext q
  exact W_some
theorem W_mSl2 {ma mb mc : MX} {env : MEnv} {R : Opd × MEnv → Prop} : W (mSl2 ma mb mc env) R = W (ma env) fun p => W (mb p.2) fun q => W (gInt (peek q.1 q.2)) fun i => W (mc q.2) fun r => W (gInt (peek r.1 r.2)) fun j => W (gList (peek p.1 r.2)) fun ds => R (.new (.list (cutD ds (some i) (some j))), r.2) := by
  unfold mSl2
  rw [W_bind]
  congr 1
  funext p
  obtain ⟨o, e⟩ := p
  rw [W_bind]
  congr 1
  funext q
  obtain ⟨o2, e2⟩ := q
  rw [W_bind]
  congr 1
  funext i
  rw [W_bind]
  congr 1
  funext r
  obtain ⟨o3, e3⟩ := r
  rw [W_bind]
  congr 1
  funext j
  rw [W_bind]
  congr 1
  funext ds
  exact W_some
end Mx

set_option Elab.async false
set_option autoImplicit false
set_option linter.all false
set_option maxRecDepth 100000
/-! Mx19: y = [..], a comprehension. -/
namespace Mx
open PySem PySem.Spec PyProof.Rows L2
open L2 (Inv)
theorem set_split {W : Wd} {i : Nat} {b : Bool} {me : MX} {E : Ends} {σ : L2.St} {H : Hp} (h : tS W (mSet i b me) E σ H) : tM W me σ H fun v H1 => E.nx (σ.set i (some v)) H1 := by
  obtain ⟨T0, env, f, env', R, e, k⟩ := h
  unfold mSet at e
  cases e1 : me env with
  | none => simp [e1] at e
  | some z =>
    obtain ⟨o, env1⟩ := z
    cases e2 : norms [o] env1 with
    | none => simp [e1, e2] at e
    | some y =>
      obtain ⟨os, env2⟩ := y
      cases e3 : setAll [(i, b)] os env2 with
      | none => simp [e1, e2, e3] at e
      | some env3 =>
        simp [e1, e2, e3] at e
        obtain ⟨rfl, rfl⟩ := e
        refine ⟨T0, env, o, env1, R, e1, fun v H1 k1 s1 o1 => ?_⟩
        obtain ⟨T', _, F, s2⟩ := flat_of (P := fun _ => True) (opds_one o1) Osub.refl e2
        obtain ⟨R3, par⟩ := set_rel F e3
        exact k _ H1 ⟨fun a u _ n q => k1 a u n q, fun j d q => by
          obtain ⟨q1, q2⟩ := par j d q
          exact ⟨q1, (s1.trans s2) j false d q2⟩⟩ R3
theorem pms_setLc {W : Wd} {X : Cx} {i : Nat} {b : Bool} {y : Str} {py : Pos} {elt tg iter : Expr} {ifs : List Expr} {scope : Scope} {own : List (Str × Nat)} {pos spos : Pos} {t : Tgt} {g : TG} {mi : MI} {tt : MT} {me : MX} (hc : X.calm = true) (hN : X.N.Nodup)
    (hy : X.N[i]? = some y) (hyl : X.env.scope.names.lookup y = some .local) (hsw : swapsWith (.ListComp elt [⟨tg, iter, ifs, 0⟩] scope pos) (some (.Name y py)) spos.line X.env = pure true) (hi : PMI W X tg iter mi) (ok : BlkOk X.N X.env.scope scope own)
    (tk : TgOk t g) (hj : ∀ i ∈ t.is, i ∈ own.map (·.2)) (hg : ∀ (s : Shared) (H : Hp) (C : Addr) (cl : List (Str × Addr)) (fp : List Addr), PG (X.blk s H scope (compEnvC scope cl C X.env) fp) tg g)
    (ht : ∀ (s : Shared) (H : Hp) (C : Addr) (cl : List (Str × Addr)) (fp : List Addr), PMTs W (X.blk s H scope (compEnvC scope cl C X.env) fp) ifs tt) (he : ∀ (s : Shared) (H : Hp) (C : Addr) (cl : List (Str × Addr)) (fp : List Addr), PM W (X.blk s H scope (compEnvC scope cl C X.env) fp) elt me)
    (hs : ∀ x, foldedSetIterable iter X.env x = pure x := by intro _; rfl) : PMS W X (.Assign [.Name y py] (.ListComp elt [⟨tg, iter, ifs, 0⟩] scope pos) spos) (mSet i b (mLc t (own.map (·.2)) mi tt me)) :=
  ⟨fun B0 => PS.imp (ps_setLc hc hN hy hyl hsw (hi.pi B0) ok hg (fun s H C cl fp => (ht s H C cl fp).ptx) (fun s H C cl fp => (he s H C cl fp).pex) hs) fun E σ H h => lc_split (W := W.at B0) tk hj (set_split h)⟩
end Mx

set_option Elab.async false
set_option autoImplicit false
set_option linter.all false
set_option maxRecDepth 100000
/-! Mx21: while; Board.full. -/
namespace Mx
open PySem PySem.Spec PyProof.Rows L2
open L2 (Inv)
/-! ### while, at most so often -/
def mWhile (t : MT) (body : MS) : Nat → MS
  | 0, _ => none
  | n + 1, env => (t env).bind fun (b, env1) => if b = true then (body env1).bind fun (f, env2) => match f with
      | .nx => mWhile t body n env2
      | .ct => mWhile t body n env2
      | .bk => some (.nx, env2)
      | .rt o => some (.rt o, env2)
    else some (.nx, env1)
theorem while_split {W : Wd} {t : MT} {body : MS} {n : Nat} {E : Ends} {σ : L2.St} {H : Hp} (h : tS W (mWhile t body n) E σ H) : tWhile (tT W t) (tS W body) E σ H := by
  obtain ⟨T0, env, f, env', R, e, k⟩ := h
  refine ⟨fun m σi Hi => ∃ envi, Rel W T0 σi Hi envi ∧ Stp W σ H env σi Hi envi ∧ mWhile t body m envi = some (f, env'), ⟨n, env, R, Stp.refl, e⟩, ?_⟩
  rintro m σi Hi ⟨envi, Ri, Si, run⟩
  cases m with
  | zero => cases run
  | succ m =>
    unfold mWhile at run
    cases e1 : t envi with
    | none => simp [e1] at run
    | some z =>
      obtain ⟨b, envA⟩ := z
      simp only [e1, Option.bind] at run
      refine ⟨T0, envi, b, envA, Ri, e1, fun H1 k1 s1 R1 => ?_⟩
      have S1 : Stp W σ H env σi H1 envA := Si.trans Ri (Stp.of k1 s1)
      cases b with
      | false =>
        rw [if_neg Bool.false_ne_true] at run
        cases run
        refine iteF ?_
        exact k σi H1 S1 R1
      | true =>
        rw [if_pos rfl] at run
        refine iteT ?_
        cases e2 : body envA with
        | none => simp [e2] at run
        | some y =>
          obtain ⟨fl, envB⟩ := y
          simp only [e2] at run
          refine ⟨fun σ' H' => ∃ envi, Rel W T0 σ' H' envi ∧ Stp W σ H env σ' H' envi ∧ mWhile t body m envi = some (f, env'), fun σ' H' q => ⟨m, Nat.lt_succ_self m, q⟩, ?_⟩
          refine ⟨T0, envA, fl, envB, R1, e2, ?_⟩
          cases fl with
          | nx => exact fun σ' H' s r => ⟨envB, r, S1.trans R1 s, run⟩
          | ct => exact fun σ' H' s r => ⟨envB, r, S1.trans R1 s, run⟩
          | bk =>
            simp at run
            obtain ⟨rfl, rfl⟩ := run
            exact fun σ' H' s r => k σ' H' (S1.trans R1 s) r
          | rt o =>
            simp at run
            obtain ⟨rfl, rfl⟩ := run
            exact fun σ' H' v s r => k σ' H' v (S1.trans R1 s) r
theorem pms_while {W : Wd} {X : Cx} {c : Expr} {body : List Stmt} {tc : MT} {mb : MS} {pos : Pos} (n : Nat) (hp : PassesOwn (model X.prog X.w) X.A X.env X.xe) (hc : PMT W X c tc) (hb : PMB W X body mb) : PMS W X (.While c body [] pos) (mWhile tc mb n) :=
  ⟨fun B0 => PS.imp (ps_while hp (hc.pt B0) (hb.ps B0)) fun E σ H h => while_split h⟩
theorem W_mWhile {t : MT} {body : MS} {env : MEnv} {Q : Fl × MEnv → Prop} {n : Nat} (I : Nat → MEnv → Prop) {m : Nat} (hm : m < n) (h0 : I m env) (hs : ∀ m e, I m e → W (t e) (onB (fun e1 => W (body e1) fun p => match p.1 with
    | .nx => ∃ m', m' < m ∧ I m' p.2
    | .ct => ∃ m', m' < m ∧ I m' p.2
    | .bk => Q (.nx, p.2)
    | .rt o => Q (.rt o, p.2)) fun e1 => Q (.nx, e1))) : W (mWhile t body n env) Q := by
  induction n generalizing m env with
  | zero => omega
  | succ n ih =>
    unfold mWhile
    rw [W_bind]
    refine W_mono (hs m env h0) fun p q => ?_
    obtain ⟨b, e1⟩ := p
    cases b with
    | false =>
      show W (if false = true then _ else _) Q
      rw [if_neg Bool.false_ne_true, W_some]
      exact q
    | true =>
      show W (if true = true then _ else _) Q
      rw [if_pos rfl, W_bind]
      refine W_mono (show W (body e1) _ from q) fun p2 q2 => ?_
      obtain ⟨fl, e2⟩ := p2
      cases fl with
      | nx =>
        obtain ⟨m', lt, i⟩ := q2
        exact ih (by omega) i
      | ct =>
        obtain ⟨m', lt, i⟩ := q2
        exact ih (by omega) i
      | bk => exact W_of rfl q2
      | rt o => exact W_of rfl q2

/-! ### cls(..), cls the slot i -/
def tMakeL (i : Nat) (C : Addr) (sp : Sp) (E : XK) (t : TA) : TE := fun σ H Q => σ[i]? = some (some (.ref C)) ∧ t σ H fun vs H1 => ∀ x dx, H1 x = none → H1 dx = none → dx ≠ x → sp (.ref x :: (vs ++ [])) (upd (upd H1 dx (.own x)) x (.ins C dx [])) (fun v H2 => v = .non ∧ Q (.ref x) H2) E
theorem pe_makeL {X : Cx} {CX : CXT} {k i : Nat} {f C : Addr} {fd : FuncData} {ps : List Str} {sp : Sp} {E : XK} {x : Str} {p pos : Pos} {e : Expr} {es : List Expr} {t : TA} (M : Mk X.K C f) (F : FnOk X.prog X.w X.K X.mg X.base CX k f fd ps sp) (hr : Room (k + 1) X.A) (hN : X.N[i]? = some x) (hv : Vis X.env.scope x)
    (hb : Binds X.K fd ps []) (hx : Passes CX X E) (ha : PA X (e :: es) t) (hdb : (x == ("__debug__" : Str)) = false := by decide) (hcd : (x == ("__classdict__" : Str)) = false := by decide)
    (he : starEach (e :: es) X.env = (false, eval e X.env) :: starEach es X.env := by rfl) (hpl : (backTo pos (starEach es X.env)).any (·.1) = false := by rfl) : PE X (.Call (.Name x p) (e :: es) [] pos) (tMakeL i C sp E t) := by
  refine ⟨fun pins s σ H Q I h => ?_⟩
  obtain ⟨hs, ht⟩ := h
  refine wpAny_Call_Name_kw (thn ((pe_var (pos := p) hN hv hdb hcd).run pins s σ H (fun v H1 => v = .ref C ∧ H1 = H) I ⟨.ref C, hs, rfl, rfl⟩) fun u s1 ⟨v, H1, I1, r1, q1⟩ => ?_)
  obtain ⟨rfl, rfl⟩ := q1
  cases r1
  refine PySem.W.callWith_K (h₀ := X.base) I.ok.mod.kin M.kp (thn (ha.run pos pins s1 σ _ _ I1 ht) fun us s2 ⟨vs, H2, I2, r, q⟩ => ⟨I2.kIn, ?_⟩) he hpl
  exact run_make M F hr hb .nil hx I2 r q

/-! ### Board.full -/
def gD (g : Nat × Nat) : D := .tuple [.int g.1, .int g.2]
def fullG : Nat → List (Nat × Nat)
  | 1 => [(0, 1)]
  | 2 => [(0, 1), (2, 3), (0, 3), (1, 2), (0, 1), (2, 3)]
  | 3 => [(0, 1), (2, 3), (0, 3), (1, 2), (0, 1), (2, 3), (4, 5), (6, 7), (4, 7), (5, 6), (4, 5), (6, 7), (0, 7), (1, 6), (2, 5), (3, 4), (0, 2), (1, 3), (4, 6), (5, 7), (0, 1), (2, 3), (4, 5), (6, 7)]
  | _ => []
def fullB (n : Int) : Option (Int × List D) := if n = 1 ∨ n = 2 ∨ n = 3 then some (2 ^ n.toNat, (fullG n.toNat).map gD) else none
def spFull (B : Addr) : Sp := fun vs H Q _ => ∃ (n w : Int) (gs : List D), vs = [.ref B, .int n] ∧ fullB n = some (w, gs) ∧ ∀ v H', Keep AS.emp H H' → BrdAt B (domOf H) H' v w gs → Q v H'
structure KnF (P : Program) (w : World) (K : PySem.W.Frag) (mg : Str → Option Value) (base : Heap) (k : Nat) (B : Addr) : Prop where
  nm : mg "Board" = some (.ref B)
  ex : ∃ (mc : Value) (p f : Addr) (fd : FuncData), ClX.CRead K B mc ∧ ClX.CMet K B mc "full" p f ∧ FnOk P w K mg base CX0 k f fd ["cls", "power"] (spFull B) ∧ Binds K fd ["cls", "power"] []
def fFull : FX
  | [o1], env => (gInt (peek o1 env)).bind fun n => (fullB n).bind fun (w, gs) => some (.brd w gs, env)
  | _, _ => none
theorem fn_r {P : Program} {w : World} {K : PySem.W.Frag} {mg : Str → Option Value} {base : Heap} {k : Nat} {f : Addr} {fd : FuncData} {ps : List Str} {sp : Sp} (F : FnOk P w K mg base CX0 k f fd ps sp) (hb : Binds K fd ps []) : FnR P w K mg base CX0 k f (fun vs H Q E => sp (vs ++ []) H Q E) := F.raw hb .nil
theorem pm_full {W : Wd} {X : Cx} {k : Nat} {p ap pos : Pos} {e : Expr} {me : MX} {pl : Sem Bool} (c : KnF X.prog X.w X.K X.mg X.base k W.B) (hr : Room k X.A) (hg : Gl X "Board") (he : PM W X e me)
    (hst : starEach [e] X.env = (false, eval e X.env) :: starEach [] X.env := by rfl)
    (ht : eval (.Call (.Attribute (.Name "Board" p) "full" ap) [e] [] pos) X.env = (do
      let ov ← eval (.Name "Board" p) X.env
      standAt ap.atName
      let (f, first) ← holding [ov] (getMethod ov "full" pl)
      callWith pos f first (backTo pos (starEach [e] X.env)) (backToKw pos (keywordEach [] X.env))) := by rfl) : PM W X (.Call (.Attribute (.Name "Board" p) "full" ap) [e] [] pos) (mPrim fFull (mCons me mNil)) := by
  obtain ⟨mc, q, f, fd, r, cm, F, b⟩ := c.ex
  refine ⟨fun B0 => PE.imp (ClX.pe_cmeth (E := E0) (pe_glob (v := .ref W.B) hg c.nm rfl) r cm (fn_r F b) hr pass0 (pa_cons (he.pe B0) pa_nil hst) hst rfl ht) fun σ H Q h => ?_⟩
  have P : Prim (W.at B0) (fun vs H Q => ∃ x, vs = [x] ∧ spFull W.B [.ref W.B, x] H Q E0) fFull := by
    intro T0 σ H env vs os o env' Q ho e k
    match os, ho, e with
    | [o1], ho, e =>
      obtain ⟨x, rfl, h1, R0⟩ := opds1 ho
      unfold fFull at e
      cases e1 : gInt (peek o1 env) with
      | none => simp [e1] at e
      | some n =>
        cases e2 : fullB n with
        | none => simp [e1, e2] at e
        | some y =>
          obtain ⟨w, gs⟩ := y
          simp [e1, e2] at e
          obtain ⟨rfl, rfl⟩ := e
          have hx := at_int (peek_at h1 R0 (gInt_some e1))
          subst hx
          refine ⟨_, rfl, n, w, gs, rfl, e2, fun v H' kp b => k v H' (fun a o _ z => kp a o (fun y => y) z) Osub.refl ⟨b.move (Move.sub fun a z => R0.totDom z), R0.grow kp⟩⟩
  refine ⟨rfl, ?_⟩
  exact tM_mono (split1 (prim_split P h)) fun x H1 ⟨x', e, q⟩ => by
    cases e
    exact q
theorem W_fFull {o : Opd} {env : MEnv} {R : Opd × MEnv → Prop} : W (fFull [o] env) R = W (gInt (peek o env)) fun n => W (fullB n) fun q => R (.brd q.1 q.2, env) := by
  show W ((gInt (peek o env)).bind _) R = _
  rw [W_bind]
  congr 1
  funext n
  rw [W_bind]
  congr 1
  funext q
  exact W_some
/-! ### x is not None -/
def gNotN : List D → Option D
  | [d, .none] => some (.bool (!isNone d))
  | _ => none
theorem prim_notN {W : Wd} : Prim W (R2P (fun x y H Q => y = .non ∧ Q (.bl (!decide (x = .non))) H)) (fPure gNotN) := prim_pure fun vs H ds d v Q l e ev q => by
  unfold gNotN at e
  split at e
  · rename_i d0
    obtain ⟨x, y, rfl, hx, hy⟩ := atl2 l
    cases e
    cases ev
    refine ⟨x, y, rfl, by cases hy; rfl, ?_⟩
    have : decide (x = V.non) = isNone d0 := by
      cases hx <;> first | rfl | exact decide_eq_false (fun z => nomatch z)
    rw [this]
    exact q
  · cases e
theorem pm_notN {W : Wd} {X : Cx} {a b : Expr} {ma mb : MX} {pos : Pos} (ha : PM W X a ma) (hb : PM W X b mb) : PM W X (.Compare a [.IsNot] [b] pos) (mPrim (fPure gNotN) (mCons ma (mCons mb mNil))) := pm_cmp op_notN (fun _ => prim_notN) ha hb (nomark _)
end Mx

set_option autoImplicit false
set_option linter.all false
set_option Elab.async false
/-! Mx22: x[k] += e, whole numbers in a list that one slot owns. -/
namespace Mx
open PySem L2 PyProof.Rows PySem.Spec
variable {W : Wd} {X : Cx} {Q : Fl × MEnv → Prop}
theorem get_list {X : Cx} : PGet X (rIxL X.K) := by
  intro pins s σ H x y v u Q I rx ry h
  obtain ⟨p, xs, i, z, rfl, rfl, hq, he, q⟩ := h
  cases rx
  obtain ⟨t, rfl⟩ := ry
  obtain ⟨its, r, pl, hz⟩ := I.list hq
  obtain ⟨j, h1, h2, h3, h4, h5⟩ := atI_get he
  obtain ⟨w, ew, rw'⟩ := r.get h2
  have hl := r.length
  have hn := line63
  have fin : EP X pins σ Q w s := ⟨z, H, I, rw', q⟩
  by_cases h0 : 0 ≤ i
  · have hj : i.toNat = j := by
      rw [seqIndex_of h0 h5] at h1
      exact Option.some.inj h1
    exact wpAny_getItem_list pl.isList h0 (by omega) (by rw [hj]; simpa using ew) fin
  · have hj : (i + (its.toArray.size : Int)).toNat = j := by
      rw [seqIndex_neg (by omega) h4] at h1
      rw [List.size_toArray, ← hl]
      exact Option.some.inj h1
    exact wpAny_getItem_list_neg pl.isList (by omega) (by rw [List.size_toArray] <;> omega) (by omega) (by rw [hj]; simpa using ew) fin
/-- x[k] += e, for whole numbers -/
def mAugS (f : Int → Int → Int) (i : Nat) (mi me : MX) : MS := fun env => (mCons (mVar i) (mCons mi mNil) env).bind fun (os, env1) => match os with
  | [_, oi] => (gInt (peek oi env1)).bind fun k => (ownL env1[i]?).bind fun (_, ds) => (gInt (atI ds k)).bind fun a => (me env1).bind fun (o2, env2) => (gInt (peek o2 env2)).bind fun b => (ownL env2[i]?).bind fun (l2, ds2) => (ixN ds2.length k).bind fun j => some (.nx, env2.set i (some (.own l2 (.list (ds2.set j (.int (f a b)))))))
  | _ => none
theorem pms_augS {o ix e : Expr} {i : Nat} {mi me : MX} {p1 pos : Pos} {op : Operator} {f : Int → Int → Int} (hp : PIp X op (ipI f)) (ho : PM W X o (mVar i)) (hi : PM W X ix mi) (he : PM W X e me)
    (ha : ∀ ov iv new, augStore ix ov iv new = (do holding [new, ov, iv] (setItem ov iv new); release [new, ov, iv] []; pure .next) := by intros; rfl) :
    PMS W X (.AugAssign (.Subscript o ix p1) op e pos) (mAugS f i mi me) :=
  ⟨fun B0 => PS.imp (ps_augS (tpos := p1) (ho.pe B0) hi.pex get_list he.pex hp set_list ha) fun E σ H ⟨T0, env, fl, env', R, e, k⟩ => by
    unfold mAugS at e
    cases e1 : mCons (mVar i) (mCons mi mNil) env with
    | none => simp [e1] at e
    | some z =>
      obtain ⟨os, env1⟩ := z
      simp only [e1, Option.bind] at e
      have q : tMA (W.at B0) (mCons (mVar i) (mCons mi mNil)) σ H (fun vs H1 => ∃ x y, vs = [x, y] ∧ rIxL X.K x y H1 fun x3 H3 => tMx W me σ H3 fun y4 H4 => ipI f x3 y4 H4 fun z5 H5 => rSetL x y z5 H5 fun H6 => E.nx σ H6) := by
        refine ⟨T0, env, os, env1, R, e1, fun vs H1 k1 s1 o1 => ?_⟩
        split at e
        · rename_i oX oi
          have hX : oX = .slot i := by
            unfold mCons at e1
            cases f2 : mVar i env with
            | none => simp [f2] at e1
            | some w2 =>
              obtain ⟨a2, b2⟩ := w2
              obtain ⟨rfl, rfl⟩ := mVar_slot f2
              cases f3 : mi b2 with
              | none => simp [f2, f3] at e1
              | some w3 =>
                simp [f2, f3, mNil] at e1
                exact e1.1.1.symm
          subst hX
          obtain ⟨x, y, T1, rfl, s1', h1', h2', R1, R0⟩ := opds2 o1
          cases e2 : gInt (peek oi env1) with
          | none => simp [e2] at e
          | some n =>
            cases e4 : ownL env1[i]? with
            | none => simp [e2, e4] at e
            | some w2 =>
              obtain ⟨l, ds⟩ := w2
              cases e5 : gInt (atI ds n) with
              | none => simp [e2, e4, e5] at e
              | some a =>
                cases e6 : me env1 with
                | none => simp [e2, e4, e5, e6] at e
                | some w3 =>
                  obtain ⟨o2, env2⟩ := w3
                  cases e7 : gInt (peek o2 env2) with
                  | none => simp [e2, e4, e5, e6, e7] at e
                  | some b =>
                    cases e8 : ownL env2[i]? with
                    | none => simp [e2, e4, e5, e6, e7, e8] at e
                    | some w4 =>
                      obtain ⟨l2, ds2⟩ := w4
                      cases e9 : ixN ds2.length n with
                      | none => simp [e2, e4, e5, e6, e7, e8, e9] at e
                      | some j =>
                        simp [e2, e4, e5, e6, e7, e8, e9] at e
                        obtain ⟨rfl, rfl⟩ := e
                        have hy := at_int (peek_at h2' R1 (gInt_some e2))
                        subst hy
                        have hs := ownL_some e4
                        have hx : σ[i]? = some (some x) := h1'.1
                        obtain ⟨p, rfl, ⟨xs, hp', la⟩, n0⟩ := slot_get R0 hx hs
                        obtain ⟨v, hv, av⟩ := atl_at (la.move Move.emp) (gInt_some e5)
                        refine ⟨_, _, rfl, p, xs, n, v, rfl, rfl, SqL.of hp', hv, ?_⟩
                        have hv2 := at_int av
                        subst hv2
                        refine ⟨B0, T0, env1, o2, env2, R0, e6, fun v2 H2 k2 s2 q2 => ?_⟩
                        obtain ⟨T2, R2, sub2, put2⟩ := opdK_rel q2
                        have R3 : Rel (W.at B0) T0 σ H2 env2 := R2.less sub2
                        have hb := at_int (peek_at q2 R3 (gInt_some e7))
                        subst hb
                        have hs2 := ownL_some e8
                        obtain ⟨p2, e10, ⟨xs2, hp2, la2⟩, n2⟩ := slot_get R3 hx hs2
                        cases e10
                        refine ⟨a, b, rfl, rfl, p, xs2, n, j, rfl, rfl, hp2, by rw [la2.length]; exact e9, ?_⟩
                        have M : Move (Tot T0 σ env2) (Tot T0 σ env2) H2 (upd H2 p (.lst (xs2.set j (.int (f a b))))) := ⟨fun a o nn q => ⟨by rw [upd_ne (fun z => nn (by rw [z]; exact .inr ⟨i, ⟨l2, _, hs2⟩, hx⟩))]; exact q, nn⟩⟩
                        obtain ⟨R4, s4, k4⟩ := own_write (u := .lst (xs2.set j (.int (f a b)))) (d := .list (ds2.set j (.int (f a b)))) R3 hs2 hx ⟨_, upd_same, AtL.set (.int _) j (AtL.move M ds2 xs2 la2)⟩
                        exact k σ _ (Stp.of ((k1.trans k2 fun a z => s1.own a z).trans k4 fun a z => (s1.trans s2).own a z) ((s1.trans s2).trans s4)) R4
        · cases e
      refine tM_mono (mcons_split q) fun v H1 q1 => ?_
      obtain ⟨B1, q1⟩ := q1
      refine ⟨B1, tM_mono (split1 q1) fun y H3 ⟨x', y', e, q3⟩ => ?_⟩
      cases e
      exact q3⟩
end Mx
namespace Mx
open PySem L2
theorem W_mAugS {Q : Fl × MEnv → Prop} {f : Int → Int → Int} {i : Nat} {mi me : MX} {env : MEnv} : W (mAugS f i mi me env) Q = W (mVar i env) fun _ => W (mi env) fun q => W (gInt (peek q.1 q.2)) fun k => W (ownL q.2[i]?) fun l => W (gInt (atI l.2 k)) fun a => W (me q.2) fun p => W (gInt (peek p.1 p.2)) fun b => W (ownL p.2[i]?) fun l2 => W (ixN l2.2.length k) fun j => Q (.nx, p.2.set i (some (.own l2.1 (.list (l2.2.set j (.int (f a b))))))) := by
  unfold mAugS
  rw [W_bind, W_mCons]
  cases e0 : mVar i env with
  | none => rw [W_none, W_none]
  | some z =>
    obtain ⟨o, e⟩ := z
    obtain ⟨rfl, rfl⟩ := mVar_slot e0
    rw [W_some, W_some, W_mCons]
    congr 1
    funext q
    obtain ⟨oi, env1⟩ := q
    rw [W_mNil]
    show W ((gInt (peek oi env1)).bind fun k => (ownL env1[i]?).bind fun (_, ds) => (gInt (atI ds k)).bind fun a => (me env1).bind fun (o2, env2) => (gInt (peek o2 env2)).bind fun b => (ownL env2[i]?).bind fun (l2, ds2) => (ixN ds2.length k).bind fun j => some (.nx, env2.set i (some (.own l2 (.list (ds2.set j (.int (f a b)))))))) Q = _
    rw [W_bind]
    congr 1
    funext k
    rw [W_bind]
    congr 1
    funext l
    obtain ⟨l0, ds⟩ := l
    rw [W_bind]
    congr 1
    funext a
    rw [W_bind]
    congr 1
    funext p
    obtain ⟨o2, env2⟩ := p
    rw [W_bind]
    congr 1
    funext b
    rw [W_bind]
    congr 1
    funext l2
    obtain ⟨l2, ds2⟩ := l2
    rw [W_bind]
    simp only [W_some]
end Mx

set_option Elab.async false
set_option autoImplicit false
set_option linter.all false
set_option maxRecDepth 100000
/-! Mx23: list(range(n)), sorted of whole numbers, abs, x.count(e), x.extend(e), x.pop(i). -/
namespace Mx
open PySem PySem.Spec PyProof.Rows L2
open L2 (Inv)
/-! ### list(range(n)) -/
def fLRng : FX
  | [o], env => (gInt (peek o env)).bind fun n => if -(2 ^ 62) ≤ n ∧ n ≤ 16777216 then some (.new (.list ((List.range n.toNat).map fun (i : Nat) => PyData.int (i : Int))), env) else none
  | _, _ => none
theorem rg_at {T : AS} {H : Hp} : ∀ (is : List Nat), AtL T H (is.map fun (i : Nat) => V.int (i : Int)) (is.map fun (i : Nat) => PyData.int (i : Int))
  | [] => .nil
  | _ :: is => .cons (.int _) (rg_at is)
theorem prim_lrng {W : Wd} : Prim W (fun xs H Q => ∃ n, xs = [.int n] ∧ RgOk 0 n ∧ ∀ q, H q = none → Q (.ref q) (upd H q (.lst (rgV 0 n)))) fLRng := by
  intro T0 σ H env vs os o env' Q ho e k
  unfold fLRng at e
  split at e
  · rename_i o1
    obtain ⟨x, rfl, h1, R0⟩ := opds1 ho
    cases e1 : gInt (peek o1 env) with
    | none => simp [e1] at e
    | some n =>
      simp only [e1, Option.bind] at e
      split at e
      · rename_i hn
        cases e
        have hx := at_int (peek_at h1 R0 (gInt_some e1))
        subst hx
        refine ⟨n, rfl, ⟨by omega, by omega, by omega, by omega, by omega⟩, fun q hq => k _ _ (Keep.new hq) Osub.refl (mk_list R0 hq ?_)⟩
        have : rgV 0 n = (List.range n.toNat).map fun (i : Nat) => V.int (i : Int) := by
          unfold rgV
          rw [Int.sub_zero]
          refine List.map_congr_left fun i _ => ?_
          rw [Int.zero_add]
        rw [this]
        exact rg_at _
      · cases e
  · cases e
theorem pm_lrng {W : Wd} {X : Cx} {a : Expr} {ma : MX} {p1 p2 pos pos2 : Pos} (hc : X.calm = true) (hg : Gl X "list") (hm : X.mg "list" = none) (hg2 : Gl X "range") (hm2 : X.mg "range" = none) (ha : PM W X a ma)
    (na : starEach [a] X.env = (false, eval a X.env) :: starEach [] X.env := by rfl)
    (nb : starEach [.Call (.Name "range" p2) [a] [] pos2] X.env = (false, eval (.Call (.Name "range" p2) [a] [] pos2) X.env) :: starEach [] X.env := by rfl) :
    PM W X (.Call (.Name "list" p1) [.Call (.Name "range" p2) [a] [] pos2] [] pos) (mPrim fLRng (mCons ma mNil)) :=
  ⟨fun B0 => PE.imp (pe_listRg hc hg hm (prg_1 hg2 hm2 (ha.pe B0) na) nb) fun σ H Q h => tM_mono (split1 (prim_split prim_lrng h)) fun x H1 ⟨n, e, ok, q⟩ => by
    cases e
    exact ⟨n, rfl, ok, q⟩⟩
/-! ### sorted -/
def sortI (ns : List Int) : List Int := ns.mergeSort fun a b => decide (a ≤ b)
theorem sortI_eq {ns ms : List Int} (h : ms.Perm ns) (k : ms.Pairwise (· ≤ ·)) : ms = sortI ns := by
  have s : (sortI ns).Pairwise (· ≤ ·) := by
    have := List.pairwise_mergeSort (le := fun a b : Int => decide (a ≤ b)) (fun a b c h1 h2 => by simp only [decide_eq_true_eq] at *; omega) (fun a b => by rw [Bool.or_eq_true, decide_eq_true_eq, decide_eq_true_eq]; omega) ns
    exact this.imp fun h => of_decide_eq_true h
  exact List.Perm.eq_of_pairwise (le := (· ≤ ·)) (fun a b _ _ h1 h2 => by omega) k s (h.trans (List.mergeSort_perm ns _).symm)
theorem ints_atl {T : AS} {H : Hp} : ∀ (ns : List Int), AtL T H (ns.map V.int) (ns.map PyData.int)
  | [] => .nil
  | _ :: ns => .cons (.int _) (ints_atl ns)
def gList1 : Option D → Option (List D)
  | some (.list ds) => some ds
  | _ => none
theorem gList1_some {d : Option D} {ds : List D} (h : gList1 d = some ds) : d = some (.list ds) := by
  unfold gList1 at h
  split at h
  · cases h; rfl
  · cases h
def fSorted : FX
  | [o], env => (gList1 (peek o env)).bind fun ds => (intsOf ds).bind fun ns => some (.new (.list ((sortI ns).map PyData.int)), env)
  | _, _ => none
theorem prim_sortedI {W : Wd} {K : PySem.W.Frag} : Prim W (rSortedI K) fSorted := by
  intro T0 σ H env vs os o env' Q ho e k
  unfold fSorted at e
  split at e
  · rename_i o1
    obtain ⟨x, rfl, h1, R0⟩ := opds1 ho
    cases e1 : gList1 (peek o1 env) with
    | none => simp [e1] at e
    | some ds =>
      cases e2 : intsOf ds with
      | none => simp [e1, e2] at e
      | some ns =>
        simp [e1, e2] at e
        obtain ⟨rfl, rfl⟩ := e
        obtain ⟨p, xs, rfl, hp, l⟩ := peek_list h1 R0 (gList1_some e1)
        rw [intsOf_eq e2] at l
        have := ints_at l
        subst this
        refine ⟨p, ns, rfl, SqL.of hp, fun ms q h1 h2 hq => ?_⟩
        rw [sortI_eq h1 h2]
        exact k _ _ (Keep.new hq) Osub.refl (mk_list R0 hq (ints_atl _))
  · cases e
/-! ### abs -/
def gAbs : List D → Option D
  | [.int i] => some (.int (if i < 0 then -i else i))
  | _ => none
theorem prim_abs {W : Wd} : Prim W (fun xs H Q => ∃ i, xs = [.int i] ∧ Q (.int (if i < 0 then -i else i)) H) (fPure gAbs) := prim_pure fun vs H ds d v Q l e ev q => by
  unfold gAbs at e
  split at e
  · obtain ⟨x, rfl, hx⟩ := atl1 l
    cases e
    cases ev
    exact ⟨_, by rw [at_int hx], q⟩
  · cases e
/-! ### methods of lists: the receiver is a list -/
def isLd : Option D → Bool
  | some (.list _) => true
  | _ => false
def mLst (m : MX) : MX := fun env => (m env).bind fun (o, env1) => if isLd (peek o env1) = true then some (o, env1) else none
theorem lst_split {W : Wd} {K : PySem.W.Frag} {m : MX} {σ : L2.St} {H : Hp} {Q : VK} (h : tM W (mLst m) σ H Q) : tM W m σ H fun x H1 => tyV K "list" x H1 ∧ Q x H1 := by
  obtain ⟨T0, env, o, env', R, e, k⟩ := h
  unfold mLst at e
  cases e1 : m env with
  | none => simp [e1] at e
  | some z =>
    obtain ⟨o1, env1⟩ := z
    simp only [e1, Option.bind] at e
    split at e
    · rename_i hl
      cases e
      refine ⟨T0, env, o, env', R, e1, fun v H1 k1 s1 o1 => ⟨?_, k v H1 k1 s1 o1⟩⟩
      unfold isLd at hl
      split at hl
      · rename_i ds q
        obtain ⟨T2, R2, sub2, put2⟩ := opdK_rel o1
        obtain ⟨p, xs, rfl, hp, l⟩ := peek_list o1 (R2.less sub2) q
        exact .inl ⟨rfl, xs, SqL.of hp⟩
      · cases hl
    · cases e
def gCount : List D → Option D
  | [.list ds, .int k] => (intsOf ds).map fun ns => .int (ns.count k : Nat)
  | _ => none
theorem prim_count {W : Wd} {K : PySem.W.Frag} : Prim W (fun vs H Q => ∃ x xs, vs = x :: xs ∧ rCntI K x xs H Q) (fPure gCount) := prim_pure fun vs H ds d v Q l e ev q => by
  unfold gCount at e
  split at e
  · rename_i es k
    obtain ⟨x, y, rfl, hx, hy⟩ := atl2 l
    cases e1 : intsOf es with
    | none => rw [e1] at e; cases e
    | some ns =>
      rw [e1] at e
      cases e
      cases ev
      rw [intsOf_eq e1] at hx
      cases hx with
      | lst n e l =>
        have := ints_at l
        subst this
        exact ⟨_, _, rfl, _, ns, k, rfl, by rw [at_int hy], SqL.of e, q⟩
  · cases e
theorem pm_count {W : Wd} {X : Cx} {o e : Expr} {mo me : MX} {apos cpos : Pos} (ho : PM W X o mo) (he : PM W X e me)
    (hpe : ∀ {to : TE} {t : TA}, PE X o to → PA X [e] t → PE X (.Call (.Attribute o "count" apos) [e] [] cpos) (tBM X.K "list" (rCntI X.K) to t))
    (hse : starEach [e] X.env = (false, eval e X.env) :: starEach [] X.env := by rfl) : PM W X (.Call (.Attribute o "count" apos) [e] [] cpos) (mPrim (fPure gCount) (mCons (mLst mo) (mCons me mNil))) :=
  ⟨fun B0 => PE.imp (hpe (ho.pe B0) (pma_cons he pma_nil hse).pax) fun σ H Q h => tM_mono (lst_split (K := X.K) (mcons_split (prim_split (prim_count (K := X.K)) h))) fun x H1 ⟨ty, B1, q⟩ => ⟨ty, B1, by
    obtain ⟨T0, env, os, env', R, e, k⟩ := q
    refine ⟨T0, env, os, env', R, e, fun vs H2 k2 s2 o2 => ?_⟩
    obtain ⟨x', xs', e', q'⟩ := k vs H2 k2 s2 o2
    cases e'
    exact q'⟩⟩
/-! ### x.extend(e), a statement -/
def mExt (i : Nat) (me : MX) : MS := fun env => (ownL env[i]?).bind fun _ => (me env).bind fun (o, env1) => (gList1 (peek o env1)).bind fun es => (ownL env1[i]?).bind fun (l, ds) =>
  if ds.length + es.length ≤ 16777216 then some (.nx, env1.set i (some (.own l (.list (ds ++ es))))) else none
theorem pms_ext {W : Wd} {X : Cx} {o e : Expr} {i : Nat} {me : MX} {apos cpos pos : Pos} (ho : PM W X o (mVar i)) (he : PM W X e me) (hpe : ∀ {to : TE} {t : TA}, PE X o to → PA X [e] t → PE X (.Call (.Attribute o "extend" apos) [e] [] cpos) (tBM X.K "list" rExtend to t))
    (hse : starEach [e] X.env = (false, eval e X.env) :: starEach [] X.env := by rfl) (hs : swapsWith (.Call (.Attribute o "extend" apos) [e] [] cpos) none pos.line X.env = pure false := by rfl) : PMS W X (.Expr (.Call (.Attribute o "extend" apos) [e] [] cpos) pos) (mExt i me) :=
  ⟨fun B0 => PS.imp (ps_expr (hpe (ho.pe B0) (pma_cons he pma_nil hse).pax) hs) fun E σ H ⟨T0, env, f, env', R, e, k⟩ => by
    unfold mExt at e
    cases e0 : ownL env[i]? with
    | none => simp [e0] at e
    | some w0 =>
      obtain ⟨l0, ds0⟩ := w0
      cases e1 : me env with
      | none => simp [e0, e1] at e
      | some z =>
        obtain ⟨o2, env1⟩ := z
        cases e3 : gList1 (peek o2 env1) with
        | none => simp [e0, e1, e3] at e
        | some es =>
          cases e4 : ownL env1[i]? with
          | none => simp [e0, e1, e3, e4] at e
          | some w2 =>
            obtain ⟨l, ds⟩ := w2
            simp only [e0, e1, e3, e4, Option.bind] at e
            split at e
            · rename_i hl
              cases e
              have hs0 := ownL_some e0
              refine ⟨T0, env, .slot i, env, R, by unfold mVar; rw [hs0], fun x H1 k1 s1 o1 => ?_⟩
              obtain ⟨hx, R1⟩ := o1
              obtain ⟨p, rfl, ⟨xs0, hp0, la0⟩, n0⟩ := slot_get R1 hx hs0
              refine ⟨.inl ⟨rfl, xs0, SqL.of hp0⟩, B0, T0, env, [o2], env1, R1, by simp [mCons, mNil, e1], fun vs H2 k2 s2 o2' => ?_⟩
              obtain ⟨y, rfl, h2', R2⟩ := opds1 o2'
              obtain ⟨T2, R2', sub2, put2⟩ := opdK_rel h2'
              have R3 := R2
              obtain ⟨b, zs, rfl, hb, lb⟩ := peek_list h2' R3 (gList1_some e3)
              have hs := ownL_some e4
              obtain ⟨p', hp', ⟨xs, hp, la⟩, _⟩ := slot_get R3 hx hs
              cases hp'
              refine ⟨p, b, xs, zs, rfl, rfl, hp, hb, by rw [la.length, lb.length, sizeLine_eq]; exact hl, ?_⟩
              have M : Move (Tot T0 σ env1) (Tot T0 σ env1) H2 (upd H2 p (.lst (xs ++ zs))) := ⟨fun a o nn q => ⟨by rw [upd_ne (fun z => nn (by rw [z]; exact .inr ⟨i, ⟨l, _, hs⟩, hx⟩))]; exact q, nn⟩⟩
              obtain ⟨R4, s4, k4⟩ := own_write (u := .lst (xs ++ zs)) (d := .list (ds ++ es)) R3 hs hx ⟨_, upd_same, (AtL.move M ds xs la).append (AtL.move M es zs lb)⟩
              exact k σ _ (Stp.of ((k1.trans k2 fun a z => s1.own a z).trans k4 fun a z => s2.own a z) (s2.trans s4)) R4
            · cases e⟩
/-! ### x.pop(e), an expression -/
def mPop (i : Nat) (me : MX) : MX := fun env => (ownL env[i]?).bind fun _ => (me env).bind fun (o, env1) => (gInt (peek o env1)).bind fun k => (ownL env1[i]?).bind fun (l, ds) => (ixN ds.length k).bind fun j => ds[j]?.bind fun d =>
  if ds.length ≤ 16777216 then some (.dat d, env1.set i (some (.own l (.list (ds.eraseIdx j))))) else none
theorem atl_erase {T : AS} {H : Hp} : ∀ {xs : List V} {ds : List D} (j : Nat), AtL T H xs ds → AtL T H (xs.eraseIdx j) (ds.eraseIdx j)
  | _, _, _, .nil => .nil
  | _, _, 0, .cons _ b => b
  | _, _, j + 1, .cons a b => .cons a (atl_erase j b)
theorem pm_pop {W : Wd} {X : Cx} {o e : Expr} {i : Nat} {me : MX} {apos cpos : Pos} (ho : PM W X o (mVar i)) (he : PM W X e me) (hpe : ∀ {to : TE} {t : TA}, PE X o to → PA X [e] t → PE X (.Call (.Attribute o "pop" apos) [e] [] cpos) (tBM X.K "list" rPopAt to t))
    (hse : starEach [e] X.env = (false, eval e X.env) :: starEach [] X.env := by rfl) : PM W X (.Call (.Attribute o "pop" apos) [e] [] cpos) (mPop i me) :=
  ⟨fun B0 => PE.imp (hpe (ho.pe B0) (pma_cons he pma_nil hse).pax) fun σ H Q ⟨T0, env, f, env', R, e, k⟩ => by
    unfold mPop at e
    cases e0 : ownL env[i]? with
    | none => simp [e0] at e
    | some w0 =>
      obtain ⟨l0, ds0⟩ := w0
      cases e1 : me env with
      | none => simp [e0, e1] at e
      | some z =>
        obtain ⟨o2, env1⟩ := z
        cases e3 : gInt (peek o2 env1) with
        | none => simp [e0, e1, e3] at e
        | some n =>
          cases e4 : ownL env1[i]? with
          | none => simp [e0, e1, e3, e4] at e
          | some w2 =>
            obtain ⟨l, ds⟩ := w2
            cases e5 : ixN ds.length n with
            | none => simp [e0, e1, e3, e4, e5] at e
            | some j =>
              cases e6 : ds[j]? with
              | none => simp [e0, e1, e3, e4, e5, e6] at e
              | some d =>
                simp only [e0, e1, e3, e4, e5, e6, Option.bind] at e
                split at e
                case isFalse => cases e
                rename_i hl
                cases e
                have hs0 := ownL_some e0
                refine ⟨T0, env, .slot i, env, R, by unfold mVar; rw [hs0], fun x H1 k1 s1 o1 => ?_⟩
                obtain ⟨hx, R1⟩ := o1
                obtain ⟨p, rfl, ⟨xs0, hp0, la0⟩, n0⟩ := slot_get R1 hx hs0
                refine ⟨.inl ⟨rfl, xs0, SqL.of hp0⟩, B0, T0, env, [o2], env1, R1, by simp [mCons, mNil, e1], fun vs H2 k2 s2 o2' => ?_⟩
                obtain ⟨y, rfl, h2', R3⟩ := opds1 o2'
                have hy := at_int (peek_at h2' R3 (gInt_some e3))
                subst hy
                have hs := ownL_some e4
                obtain ⟨p', hp', ⟨xs, hp, la⟩, _⟩ := slot_get R3 hx hs
                cases hp'
                obtain ⟨h1, h2, h3, h4⟩ := ixN_seq e5
                obtain ⟨v, hv, av⟩ := la.get e6
                refine ⟨p, xs, n, j, v, rfl, rfl, hp, by omega, by omega, by rw [la.length]; exact h1, hv, ?_⟩
                have M : Move (Tot T0 σ env1) (Tot T0 σ env1) H2 (upd H2 p (.lst (xs.eraseIdx j))) := ⟨fun a o nn q => ⟨by rw [upd_ne (fun z => nn (by rw [z]; exact .inr ⟨i, ⟨l, _, hs⟩, hx⟩))]; exact q, nn⟩⟩
                obtain ⟨R4, s4, k4⟩ := own_write (u := .lst (xs.eraseIdx j)) (d := .list (ds.eraseIdx j)) R3 hs hx ⟨_, upd_same, atl_erase j (AtL.move M ds xs la)⟩
                refine k v _ ((k1.trans k2 fun a z => s1.own a z).trans k4 fun a z => s2.own a z) (s2.trans s4) ⟨?_, R4⟩
                exact At.move ⟨fun a o nn q => let ⟨q1, q2⟩ := M.mv a o nn q; ⟨q1, fun z => q2 (s4.tot a z)⟩⟩ d v av⟩
end Mx
namespace Mx
open PySem L2
theorem W_mLst {R : Opd × MEnv → Prop} {m : MX} {env : MEnv} : W (mLst m env) R = W (m env) fun p => isLd (peek p.1 p.2) = true ∧ R p := by
  unfold mLst
  rw [W_bind]
  congr 1
  funext p
  obtain ⟨o, e⟩ := p
  show W (if isLd (peek o e) = true then some (o, e) else none) R = _
  rw [W_ite, W_none]
  simp [W_some]
theorem W_mExt {Q : Fl × MEnv → Prop} {i : Nat} {me : MX} {env : MEnv} : W (mExt i me env) Q = W (ownL env[i]?) fun _ => W (me env) fun p => W (gList1 (peek p.1 p.2)) fun es => W (ownL p.2[i]?) fun l => l.2.length + es.length ≤ 16777216 ∧ Q (.nx, p.2.set i (some (.own l.1 (.list (l.2 ++ es))))) := by
  unfold mExt
  rw [W_bind]
  congr 1
  funext _
  rw [W_bind]
  congr 1
  funext p
  obtain ⟨o, e⟩ := p
  rw [W_bind]
  congr 1
  funext es
  rw [W_bind]
  congr 1
  funext l
  obtain ⟨l, ds⟩ := l
  show W (if ds.length + es.length ≤ 16777216 then _ else none) Q = _
  rw [W_ite, W_none]
  simp [W_some]
theorem W_mPop {R : Opd × MEnv → Prop} {i : Nat} {me : MX} {env : MEnv} : W (mPop i me env) R = W (ownL env[i]?) fun _ => W (me env) fun p => W (gInt (peek p.1 p.2)) fun k => W (ownL p.2[i]?) fun l => W (ixN l.2.length k) fun j => W l.2[j]? fun d => l.2.length ≤ 16777216 ∧ R (.dat d, p.2.set i (some (.own l.1 (.list (l.2.eraseIdx j))))) := by
  unfold mPop
  rw [W_bind]
  congr 1
  funext _
  rw [W_bind]
  congr 1
  funext p
  obtain ⟨o, e⟩ := p
  rw [W_bind]
  congr 1
  funext k
  rw [W_bind]
  congr 1
  funext l
  obtain ⟨l, ds⟩ := l
  rw [W_bind]
  congr 1
  funext j
  rw [W_bind]
  congr 1
  funext d
  show W (if ds.length ≤ 16777216 then _ else none) R = _
  rw [W_ite, W_none]
  simp [W_some]
end Mx
/-! ### a, b = x, y with names that comprehensions read -/
namespace Mx
open PySem PySem.Spec PyProof.Rows L2
def gNs : List (Nat × Bool) → TGs
  | [] => gNil
  | (i, _) :: ts => gCons (gName i) (gNs ts)
theorem gNs_run {H : Hp} {Q : L2.St → Hp → Prop} : ∀ (ts : List (Nat × Bool)) (vs : List V) (σ : L2.St), vs.length = ts.length → Q (setV ts vs σ) H → gNs ts vs σ H Q
  | [], [], _, _, q => ⟨rfl, q⟩
  | [], _ :: _, _, h, _ => by cases h
  | _ :: _, [], _, h, _ => by cases h
  | (i, _) :: ts, v :: vs, σ, h, q => ⟨v, vs, rfl, gNs_run ts vs (σ.set i (some v)) (by simpa using h) q⟩
theorem parC_split {W : Wd} {ts : List (Nat × Bool)} {ma : MA} {E : Ends} {σ : L2.St} {H : Hp} (h : tS W (mPar ts ma) E σ H) : tMA W ma σ H fun vs H1 => vs.length = ts.length ∧ ∀ q, H1 q = none → E.nx (setV ts vs σ) (upd H1 q (.tup vs)) := by
  obtain ⟨T0, env, f, env', R, e, k⟩ := h
  unfold mPar at e
  cases e1 : ma env with
  | none => simp [e1] at e
  | some z =>
    obtain ⟨os, env1⟩ := z
    cases e2 : norms os env1 with
    | none => simp [e1, e2] at e
    | some y =>
      obtain ⟨os', env2⟩ := y
      cases e3 : setAll ts os' env2 with
      | none => simp [e1, e2, e3] at e
      | some env3 =>
        simp [e1, e2, e3] at e
        obtain ⟨rfl, rfl⟩ := e
        refine ⟨T0, env, os, env1, R, e1, fun vs H1 k1 s1 o1 => ?_⟩
        obtain ⟨T', _, F, s2⟩ := flat_of (P := fun _ => True) (opds_true o1) Osub.refl e2
        obtain ⟨R3, par⟩ := set_rel F e3
        refine ⟨F.len.trans (setAll_len e3), fun q hq => ?_⟩
        have kq : Keep AS.emp H1 (upd H1 q (.tup vs)) := Keep.new hq
        exact k _ _ ⟨fun a u _ n q => kq a u (fun z => z) (k1 a u n q), fun j d q => by
          obtain ⟨q1, q2⟩ := par j d q
          exact ⟨q1, (s1.trans s2) j false d q2⟩⟩ (R3.grow kq)
theorem pms_parC {W : Wd} {X : Cx} {ts : List (Nat × Bool)} {xs es : List Expr} {m : MA} {kt k2 : Nat} {pt pt2 pos : Pos} (hc : X.calm = true) (ha : PMA W X es m) (hg : PGs X xs (gNs ts)) (hl : ts.length ≤ 30)
    (hn : (assignEach xs X.env).length = ts.length := by rfl) (hst : (assignEach xs X.env).findIdx? (·.1) = none := by rfl) (hs : swapsWithSole [.Tuple xs kt pt] (.Tuple es k2 pt2) pos.line X.env = pure false := by rfl) (hw : swappedStores [.Tuple xs kt pt] (.Tuple es k2 pt2) X.env = pure none := by rfl)
    (h1 : (assignEach [.Tuple xs kt pt] X.env).map (·.2) = [assign (.Tuple xs kt pt) X.env] := by rfl) : PMS W X (.Assign [.Tuple xs kt pt] (.Tuple es k2 pt2) pos) (mPar ts m) :=
  ⟨fun B0 => PS.imp (ps_asg (pe_tup (ha.pa B0)) (pg_tup hc hg hn hst) hs hw h1) fun E σ H h => by
    obtain ⟨T0, env, os, env', R, e, k⟩ := parC_split (W := W.at B0) h
    refine ⟨T0, env, os, env', R, e, fun vs H1 k1 s1 o1 => ?_⟩
    obtain ⟨hv, q⟩ := k vs H1 k1 s1 o1
    exact ⟨by rw [hv, sizeLine_eq]; omega, fun p hp => ⟨p, vs, rfl, SqT.of upd_same, hv, gNs_run ts vs σ hv (q p hp)⟩⟩⟩
end Mx
/-! ### d in a list, i in a tuple of whole numbers -/
namespace Mx
open PySem PySem.Spec PyProof.Rows L2
def gInT : List D → Option D
  | [.int i, .tuple es] => (intsOf es).map fun ns => .bool (ns.any fun n => decide (n = i))
  | _ => none
def gInU : List D → Option D
  | [d, .list es] => gIn false [d, .list es]
  | ds => gInT ds
theorem flat_ints : ∀ (ns : List Int), (ns.map V.int).all flatV = true
  | [] => rfl
  | _ :: ns => by
    rw [List.map_cons, List.all_cons, flat_ints ns]
    rfl
theorem inV_ints {i : Int} : ∀ (ns : List Int), inV (.int i) (ns.map V.int) = ns.any fun n => decide (n = i)
  | [] => rfl
  | n :: ns => by
    have := inV_ints (i := i) ns
    unfold inV at this ⊢
    rw [List.map_cons, List.any_cons, List.any_cons, this]
    congr 1
theorem prim_inU {W : Wd} {K : PySem.W.Frag} : Prim W (R2P (fun x y H Q => rInD K x y H Q ∨ rIn K false x y H Q)) (fPure gInU) := by
  intro T0 σ H env vs os o env' Q ho e k
  by_cases hl : ∃ d es, pks os env = some [d, PyData.list es]
  · obtain ⟨d, es, hp⟩ := hl
    have e' : fPure (gIn false) os env = some (o, env') := by
      unfold fPure at e ⊢
      rw [hp] at e ⊢
      exact e
    obtain ⟨x, y, h1, h2⟩ := prim_in (K := K) T0 σ H env vs os o env' Q ho e' k
    exact ⟨x, y, h1, .inl h2⟩
  · have P : Prim W (R2P (rIn K false)) (fPure gInT) := prim_pure fun vs H ds d v Q l e ev q => by
      unfold gInT at e
      split at e
      · rename_i i es
        obtain ⟨x, y, rfl, hx, hy⟩ := atl2 l
        cases e1 : intsOf es with
        | none => rw [e1] at e; cases e
        | some ns =>
          rw [e1] at e
          cases e
          cases ev
          rw [intsOf_eq e1] at hy
          have hx' := at_int hx
          subst hx'
          cases hy with
          | tup n e l =>
            have := ints_at l
            subst this
            refine ⟨_, _, rfl, _, _, rfl, .inr (SqT.of e), rfl, flat_ints ns, ?_⟩
            rw [if_neg (by decide), inV_ints]
            exact q
      · cases e
    have e' : fPure gInT os env = some (o, env') := by
      rw [← e]
      unfold fPure
      cases hp : pks os env with
      | none => rfl
      | some ds =>
        have : gInU ds = gInT ds := by
          unfold gInU
          split
          · rename_i d es
            exact absurd ⟨d, es, hp⟩ hl
          · rfl
        simp only [Option.bind, this]
    obtain ⟨x, y, h1, h2⟩ := P T0 σ H env vs os o env' Q ho e' k
    exact ⟨x, y, h1, .inr h2⟩
theorem pm_inU {W : Wd} {X : Cx} {a b : Expr} {ma mb : MX} {pos : Pos} (hu : X.A.units + 65 < cLine) (ha : PM W X a ma) (hb : PM W X b mb) (hm : behindInMarks .In b = false := by rfl) : PM W X (.Compare a [.In] [b] pos) (mPrim (fPure gInU) (mCons ma (mCons mb mNil))) := pm_cmp ((op_inD hu).or op_in_seq) (fun _ => prim_inU) ha hb hm
end Mx

set_option Elab.async false
set_option autoImplicit false
set_option linter.all false
set_option maxRecDepth 100000
/-! Mx24: for over a tuple. -/
namespace Mx
open PySem PySem.Spec PyProof.Rows L2
variable {W : Wd} {X : Cx} {a tg : Expr} {ma : MX}
def mItT (ma : MX) : MI := fun env => (ma env).bind fun (o, env1) => (toDat o env1).bind fun (d, env2) => match d with
  | .tuple ds => some (ds, env2)
  | _ => none
theorem src_tup {K : PySem.W.Frag} {T : AS} {H : Hp} {q : Addr} {xs : List V} {ds : List D} (n : ¬ T q) (hq : H q = some (.tup xs)) (l : AtL T H xs ds) : Src (Itt K q) T H ds := by
  refine ⟨fun Hi T' M dm i d e => ?_, fun Hi T' M => ?_⟩
  · obtain ⟨e1, _⟩ := M.mv _ _ n hq
    obtain ⟨v, hv, hd⟩ := (AtL.move M ds xs l).get e
    refine ⟨⟨xs, v, SqT.of e1, hv⟩, fun x H3 y => ?_⟩
    obtain ⟨rfl, y⟩ := y
    have := y xs (SqT.of e1)
    rw [hv] at this
    cases this
    exact ⟨Keep.refl, hd⟩
  · obtain ⟨e1, _⟩ := M.mv _ _ n hq
    exact ⟨xs, SqT.of e1, Nat.le_of_eq l.length⟩
theorem pmi_tup (ha : PM W X a ma) : PMI W X tg a (mItT ma) :=
  ⟨fun B0 => PI.imp (pi_tup (ha.pe B0)) fun σ H R ⟨T0, env, items, env', Rl, e, k⟩ => by
    unfold mItT at e
    cases e1 : ma env with
    | none => simp [e1] at e
    | some z =>
      obtain ⟨o, env1⟩ := z
      cases e2 : toDat o env1 with
      | none => simp [e1, e2] at e
      | some y =>
        obtain ⟨d, env2⟩ := y
        simp only [e1, e2, Option.bind] at e
        refine ⟨T0, env, o, env1, Rl, e1, fun v H1 k1 s1 o1 => ?_⟩
        split at e
        · rename_i ds
          cases e
          obtain ⟨R2, s2⟩ := toDat_rel (opdK_base o1) e2
          have at1 := toDat_at o1 Osub.refl (opdK_base o1) e2
          cases at1 with
          | tup n e l => exact ⟨_, rfl, ⟨_, SqT.of e⟩, k _ H1 k1 (s1.trans s2) R2 (src_tup n e l)⟩
        · cases e⟩
theorem W_mItT {ma : MX} {env : MEnv} {R : List D × MEnv → Prop} : Mx.W (mItT ma env) R = Mx.W (ma env) fun p => Mx.W (toDat p.1 p.2) fun q => Mx.W (match q.1 with | .tuple ds => some (ds, q.2) | _ => none) R := by
  unfold mItT
  rw [W_bind]
  congr 1
  funext p
  obtain ⟨o, e⟩ := p
  rw [W_bind]
  try rfl
end Mx

set_option Elab.async false
set_option autoImplicit false
set_option linter.all false
set_option maxRecDepth 100000
/-! Mx25: a property of a Board that is a small def of ints; max, min of a list. -/
namespace Mx
open PySem PySem.Spec PyProof.Rows L2
open L2 (Inv)
def mPropF (D : Den) (me : MX) : MX := fun env => (me env).bind fun (o, env1) => (brdOf o env1).bind fun (n, gs) => (D [.brd n gs]).bind fun r => match r with
  | (.dat (.int i), _) => some (.dat (.int i), env1)
  | _ => none
section
variable {W : Wd} {X : Cx} {e : Expr} {me : MX} {pos : Pos} {k : Nat} {p g : Addr} {fd : FuncData} {f : Str} {D : Den}
theorem own_brd {σ : L2.St} {n : Int} {gs : List PyData} {a : Addr} : ¬ Own σ [some (.brd n gs)] a := fun ⟨i, ⟨l, d, e⟩, _⟩ => by
  match i, e with
  | 0, e => cases e
  | i + 1, e => cases e
theorem pm_propF (hK : X.K = W.K) (cl : Cls W.K W.B) (hp : PropOf W.K W.B f p g) (F : FnOk X.prog X.w X.K X.mg X.base CX0 k g fd ["self"] (spF W.K W.B 1 D)) (hb : Binds X.K fd ["self"] []) (hr : Room (k + 1) X.A) (he : PM W X e me)
    (hab : attributeBase e f X.env (eval e X.env) = eval e X.env := by rfl) : PM W X (.Attribute e f pos) (mPropF D me) :=
  ⟨fun B0 => PE.imp (pe_prop (C := W.B) (he.pe B0) (by rw [hK]; exact cl) (by rw [hK]; exact hp) F hr hb .nil pass0 hab) fun σ H Q ⟨T0, env, o, env', R, ee, k⟩ => by
    unfold mPropF at ee
    cases e1 : me env with
    | none => simp [e1] at ee
    | some z =>
      obtain ⟨o1, env1⟩ := z
      cases e2 : brdOf o1 env1 with
      | none => simp [e1, e2] at ee
      | some y =>
        obtain ⟨n, gs⟩ := y
        cases e3 : D [.brd n gs] with
        | none => simp [e1, e2, e3] at ee
        | some r =>
          obtain ⟨r, as⟩ := r
          simp only [e1, e2, e3, Option.bind] at ee
          split at ee
          · rename_i i as' q
            cases ee
            cases q
            refine ⟨T0, env, o1, env', R, e1, fun v H1 k1 s1 o1' => ?_⟩
            have R1 := opdK_base o1'
            have BA := brd_at o1' R1 e2
            obtain ⟨a, dx, g, xs, rfl, n1, n2, h1, h2, l⟩ := BA
            refine ⟨a, dx, _, rfl, h1, ?_⟩
            refine ⟨AS.emp, [.brd n gs], .dat (.int i), as, ⟨rfl, fun _ z => z.elim, fun b z => z, fun j s ej => ?_, fun i j b z => absurd ⟨i, z⟩ own_brd⟩, rfl, e3, fun v H2 k2 s2 o2 => ?_⟩
            · match j, ej with
              | 0, ej =>
                cases ej
                refine ⟨_, rfl, ?_⟩
                have M : Move (Tot T0 σ env') (Tot AS.emp ([V.ref a].map some) [some (.brd n gs)]) H1 H1 := Move.sub fun b z => z.elim (fun q => q.elim) fun q => absurd q own_brd
                exact BrdAt.move M ⟨a, dx, g, xs, rfl, n1, n2, h1, h2, l⟩
              | j + 1, ej => cases ej
            · obtain ⟨hv, _⟩ := o2
              cases hv
              have k2' : Keep AS.emp H1 H2 := k2.sub fun b z => absurd z own_brd
              exact k _ _ (k1.trans k2' fun a z => z.elim) s1 ⟨.int _, R1.grow k2'⟩
          · cases ee⟩
end
theorem W_mPropF {D : Den} {me : MX} {env : MEnv} {R : Opd × MEnv → Prop} : Mx.W (mPropF D me env) R = Mx.W (me env) fun p => Mx.W (brdOf p.1 p.2) fun q => Mx.W (D [.brd q.1 q.2]) fun r => Mx.W (match r with | (.dat (.int i), _) => some (Opd.dat (.int i), p.2) | _ => none) R := by
  unfold mPropF
  rw [W_bind]
  congr 1
  funext p
  obtain ⟨o, e⟩ := p
  rw [W_bind]
  congr 1
  funext q
  obtain ⟨n, gs⟩ := q
  rw [W_bind]
  try rfl
/-! ### max, min of a list of ints -/
def gMaxL : List PyData → Option PyData
  | [.list es] => (intsOf es).bind fun ns => ns.max?.map .int
  | _ => none
def gMinL : List PyData → Option PyData
  | [.list es] => (intsOf es).bind fun ns => ns.min?.map .int
  | _ => none
theorem prim_maxL {W : Wd} {K : PySem.W.Frag} : Prim W (rMax K) (fPure gMaxL) := prim_pure fun vs H ds d v Q l e ev q => by
  unfold gMaxL at e
  split at e
  · rename_i es
    obtain ⟨x, rfl, hx⟩ := atl1 l
    cases e1 : intsOf es with
    | none => rw [e1] at e; cases e
    | some ns =>
      rw [e1] at e
      rw [intsOf_eq e1] at hx
      have e' : ns.max?.map PyData.int = some d := e
      cases e2 : ns.max? with
      | none => rw [e2] at e'; cases e'
      | some m =>
        rw [e2] at e'
        cases e'
        cases ev
        cases hx with
        | lst n e l =>
          have := ints_at l
          subst this
          refine ⟨_, ns, rfl, SqL.of e, ?_, fun m' h1 h2 => ?_⟩
          · cases ns with
            | nil => cases e2
            | cons _ _ => simp
          · have : ns.max? = some m' := List.max?_eq_some_iff.mpr ⟨h1, h2⟩
            rw [e2] at this
            cases this
            exact q
  · cases e
theorem prim_minL {W : Wd} {K : PySem.W.Frag} : Prim W (rMin K) (fPure gMinL) := prim_pure fun vs H ds d v Q l e ev q => by
  unfold gMinL at e
  split at e
  · rename_i es
    obtain ⟨x, rfl, hx⟩ := atl1 l
    cases e1 : intsOf es with
    | none => rw [e1] at e; cases e
    | some ns =>
      rw [e1] at e
      rw [intsOf_eq e1] at hx
      have e' : ns.min?.map PyData.int = some d := e
      cases e2 : ns.min? with
      | none => rw [e2] at e'; cases e'
      | some m =>
        rw [e2] at e'
        cases e'
        cases ev
        cases hx with
        | lst n e l =>
          have := ints_at l
          subst this
          refine ⟨_, ns, rfl, SqL.of e, ?_, fun m' h1 h2 => ?_⟩
          · cases ns with
            | nil => cases e2
            | cons _ _ => simp
          · have : ns.min? = some m' := List.min?_eq_some_iff.mpr ⟨h1, h2⟩
            rw [e2] at this
            cases this
            exact q
  · cases e
/-! ### board == board, of two equal ones -/
def eqR (B : Addr) (D : Den) : Addr → Addr → Hp → Prop := fun a b H => ∃ n gs m hs as, BrdAt B AS.emp H (.ref a) n gs ∧ BrdAt B AS.emp H (.ref b) m hs ∧ D [.brd n gs, .brd m hs] = some (.dat (.bool true), as)
theorem own_brd2 {σ : L2.St} {n m : Int} {gs hs : List PyData} {a : Addr} : ¬ Own σ [some (.brd n gs), some (.brd m hs)] a := fun ⟨i, ⟨l, d, e⟩, _⟩ => by
  match i, e with
  | 0, e => cases e
  | 1, e => cases e
  | i + 2, e => cases e
theorem fn_eqB {P : Program} {w : World} {K : PySem.W.Frag} {mg : Str → Option Value} {base : Heap} {k : Nat} {f B : Addr} {fd : FuncData} {ps : List Str} {D : Den} (F : FnOk P w K mg base CX0 k f fd ps (spF K B 2 D)) : FnOk P w K mg base CX0 k f fd ps (spEq (eqR B D)) :=
  F.imp fun vs H Q E q => by
    obtain ⟨a, b, rfl, ⟨n, gs, m, hs, as, h1, h2, h3⟩, q⟩ := q
    refine ⟨AS.emp, [.brd n gs, .brd m hs], _, as, ⟨rfl, fun _ z => z.elim, fun b z => z, fun j s ej => ?_, fun i j b z => absurd ⟨i, z⟩ own_brd2⟩, rfl, h3, fun v H2 k2 s2 o2 => ?_⟩
    · have M : ∀ {σ : L2.St}, Move AS.emp (Tot AS.emp σ [some (.brd n gs), some (.brd m hs)]) H H := Move.sub fun b z => z.elim (fun q => q) fun q => absurd q own_brd2
      match j, ej with
      | 0, ej => cases ej; exact ⟨_, rfl, BrdAt.move M h1⟩
      | 1, ej => cases ej; exact ⟨_, rfl, BrdAt.move M h2⟩
      | j + 2, ej => cases ej
    · obtain ⟨hv, _⟩ := o2
      cases hv
      exact q H2 fun c o e => k2 c o (fun z => absurd z own_brd2) e
def fEqB (D : Den) : FX
  | [o1, o2], env => (brdOf o1 env).bind fun x => (brdOf o2 env).bind fun y => (D [.brd x.1 x.2, .brd y.1 y.2]).bind fun r => match r with
    | (.dat (.bool true), _) => some (.dat (.bool true), env)
    | _ => none
  | _, _ => none
theorem BrdAt.bare {B : Addr} {T : AS} {H : Hp} {v : V} {n : Int} {gs : List PyData} (h : BrdAt B T H v n gs) : BrdAt B AS.emp H v n gs := BrdAt.move (Move.sub fun _ z => z.elim) h
theorem prim_eqB {W : Wd} {D : Den} : Prim W (R2P (rEqG (DIns W.B (eqR W.B D)))) (fEqB D) := by
  intro T0 σ H env vs os o env' Q ho e k
  unfold fEqB at e
  split at e
  · rename_i o1 o2
    obtain ⟨x, y, T1, rfl, _, h1, h2, R1, R0⟩ := opds2 ho
    cases e1 : brdOf o1 env with
    | none => simp [e1] at e
    | some u =>
      obtain ⟨n, gs⟩ := u
      cases e2 : brdOf o2 env with
      | none => simp [e1, e2] at e
      | some u =>
        obtain ⟨m, hs⟩ := u
        cases e3 : D [.brd n gs, .brd m hs] with
        | none => simp [e1, e2, e3] at e
        | some r =>
          obtain ⟨r, as⟩ := r
          simp only [e1, e2, e3, Option.bind] at e
          split at e
          · rename_i as' q
            cases q
            cases e
            have B1 := (brd_at h1 R0 e1).bare
            have B2 := (brd_at h2 R1 e2).bare
            obtain ⟨a, dx, g, xs, rfl, n1, n2, p1, p2, l⟩ := id B1
            obtain ⟨b, dy, g', ys, rfl, n1', n2', p1', p2', l'⟩ := id B2
            refine ⟨_, _, rfl, ⟨a, b, dx, dy, _, _, rfl, rfl, p1, p1', n, gs, m, hs, _, B1, B2, e3⟩, fun H' ex => ?_⟩
            have k2 : Keep AS.emp H H' := fun c o _ e => ex c o e
            exact k _ H' (k2.sub fun _ z => z.elim) Osub.refl ⟨.bl true, R0.grow k2⟩
          · cases e
  · cases e
/-- where the class has its own == -/
structure EqOf (K : PySem.W.Frag) (B : Addr) (st : Stmt) : Prop where
  ex : ∃ (f : Addr) (fd : FuncData), Fun K "__eq__" "Board.__eq__" st f fd ∧ Binds K fd ["self", "other"] [] ∧ PySem.W.findIn K (.ref B) "__eq__" = some (some (.ref f)) ∧ PySem.W.isFn K (.ref f) = true
theorem pm_eqB {W : Wd} {X : Cx} {k : Nat} {a b : Expr} {ma mb : MX} {pos : Pos} {f : Addr} {fd : FuncData} {D : Den} (F : FnOk X.prog X.w X.K X.mg X.base CX0 k f fd ["self", "other"] (spF X.K W.B 2 D)) (hb : Binds X.K fd ["self", "other"] [])
    (h1 : PySem.W.findIn X.K (.ref W.B) "__eq__" = some (some (.ref f))) (h2 : PySem.W.isFn X.K (.ref f) = true) (hr : Room k X.A) (ha : PM W X a ma) (hbm : PM W X b mb) (hm : behindInMarks .Eq b = false) : PM W X (.Compare a [.Eq] [b] pos) (mPrim (fEqB D) (mCons ma (mCons mb mNil))) :=
  pm_cmp (op_eqG (rcG_ins (fn_eqB F) h1 h2 hb pass0) hr) (fun _ => prim_eqB) ha hbm hm
end Mx

set_option Elab.async false
set_option autoImplicit false
set_option linter.all false
set_option maxRecDepth 100000
/-! Mx26: a def that returns a new pair of two new lists; lists of such a pair, changed later. -/
namespace Mx
open PySem PySem.Spec PyProof.Rows L2
open L2 (Inv)
/-- a pair of two different lists that D does not hold -/
def Fresh2 (D : AS) (H : Hp) (v : V) : Prop := ∃ t p q, v = .ref t ∧ H t = some (.tup [.ref p, .ref q]) ∧ p ≠ q ∧ ¬ D p ∧ ¬ D q
theorem Fresh2.mono {D D' : AS} {H : Hp} {v : V} (h : Fresh2 D H v) (s : ∀ a, D' a → D a) : Fresh2 D' H v := by
  obtain ⟨t, p, q, e1, e2, e3, e4, e5⟩ := h
  exact ⟨t, p, q, e1, e2, e3, fun z => e4 (s _ z), fun z => e5 (s _ z)⟩
def spTwo (K : PySem.W.Frag) (B : Addr) (n : Nat) (F : Den) : Sp := fun vs H Q E => spF K B n F vs H (fun v H' => Fresh2 (domOf H) H' v → Q v H') E
/-- a statement that always goes on behind itself -/
def Plain (m : MS) : Prop := ∀ env f env', m env = some (f, env') → f = .nx
/-- a block that always ends by a return -/
def OnlyRt (m : MS) : Prop := ∀ env f env', m env = some (f, env') → ∃ o, f = .rt o
theorem pl_expr {m : MX} : Plain (mExpr m) := fun env f env' e => by
  unfold mExpr at e
  cases e1 : m env with
  | none => simp [e1] at e
  | some z => simp [e1] at e; exact e.1.symm
theorem pl_set {i : Nat} {b : Bool} {m : MX} : Plain (mSet i b m) := fun env f env' e => by
  unfold mSet at e
  cases e1 : m env with
  | none => simp [e1] at e
  | some z =>
    cases e2 : norms [z.1] z.2 with
    | none => simp [e1, e2] at e
    | some y =>
      cases e3 : setAll [(i, b)] y.1 y.2 with
      | none => simp [e1, e2, e3] at e
      | some x => simp [e1, e2, e3] at e; exact e.1.symm
theorem pl_next : Plain mNext := fun env f env' e => by cases e; rfl
theorem pl_never : Plain mNever := fun env f env' e => by cases e
theorem pl_loop {t : D → MEnv → Option MEnv} {m : MS} (h : Plain m) : ∀ {ds : List D} {env : MEnv} {f : Fl} {env' : MEnv}, mLoop t m ds env = some (f, env') → f = .nx
  | [], env, f, env', e => by cases e; rfl
  | d :: ds, env, f, env', e => by
    unfold mLoop at e
    cases e1 : t d env with
    | none => simp [e1] at e
    | some env1 =>
      cases e2 : m env1 with
      | none => simp [e1, e2] at e
      | some z =>
        obtain ⟨f1, env2⟩ := z
        have := h env1 f1 env2 e2
        subst this
        simp only [e1, e2, Option.bind] at e
        exact pl_loop h e
theorem pl_for {t : Tgt} {mi : MI} {m : MS} (h : Plain m) : Plain (mFor t mi m) := fun env f env' e => by
  unfold mFor at e
  cases e1 : mi env with
  | none => simp [e1] at e
  | some z =>
    simp only [e1, Option.bind] at e
    exact pl_loop h e
theorem pl_seq {m n : MS} (h : Plain m) (k : Plain n) : Plain (mSeq m n) := fun env f env' e => by
  unfold mSeq at e
  cases e1 : m env with
  | none => simp [e1] at e
  | some z =>
    obtain ⟨f1, env1⟩ := z
    have := h env f1 env1 e1
    subst this
    simp only [e1, Option.bind] at e
    exact k _ _ _ e
theorem pl_app {i : Nat} {m : MX} : Plain (mApp i m) := fun env f env' e => by
  unfold mApp at e
  cases e0 : ownL env[i]? with
  | none => simp [e0] at e
  | some w0 =>
    cases e1 : m env with
    | none => simp [e0, e1] at e
    | some z =>
      cases e3 : toDat z.1 z.2 with
      | none => simp [e0, e1, e3] at e
      | some w =>
        cases e4 : ownL w.2[i]? with
        | none => simp [e0, e1, e3, e4] at e
        | some w2 =>
          simp only [e0, e1, e3, e4, Option.bind] at e
          split at e
          · cases e; rfl
          · cases e
theorem pl_sub {i : Nat} {mi m : MX} : Plain (mSub i mi m) := fun env f env' e => by
  unfold mSub at e
  simp only [Option.bind_eq_some_iff] at e
  obtain ⟨_, _, e⟩ := e
  split at e
  · simp only [Option.bind_eq_some_iff] at e
    obtain ⟨_, _, _, _, _, _, _, _, e⟩ := e
    cases e
    rfl
  · cases e
theorem or_seq {m n : MS} (h : Plain m) (k : OnlyRt n) : OnlyRt (mSeq m n) := fun env f env' e => by
  unfold mSeq at e
  cases e1 : m env with
  | none => simp [e1] at e
  | some z =>
    obtain ⟨f1, env1⟩ := z
    have := h env f1 env1 e1
    subst this
    simp only [e1, Option.bind] at e
    exact k _ _ _ e
/-! ### the block -/
def tS2 (W : Wd) (m : MS) : TS := fun E σ H => ∃ T0 env o env', Rel W T0 σ H env ∧ m env = some (.rt o, env') ∧
  ∀ σ' H' v, Stp W σ H env σ' H' env' → OpdK W T0 σ' H' env' v (fun T => Rel W T σ' H' env') o → Fresh2 W.B0 H' v → E.rt v H'
structure PMB2 (W : Wd) (X : Cx) (st : List Stmt) (m : MS) : Prop where
  ps : ∀ B0, PSs X st (tS2 (W.at B0) m)
  only : OnlyRt m
section
variable {W : Wd} {X : Cx} {st : Stmt} {rest : List Stmt} {m n : MS}
theorem pmb2_cons (h : PMS W X st m) (p : Plain m) (k : PMB2 W X rest n) : PMB2 W X (st :: rest) (mSeq m n) := ⟨fun B0 => PSs.imp (pss_cons (h.ps B0) (k.ps B0)) fun E σ H ⟨T0, env, o, env', R, e, q⟩ => by
  unfold mSeq at e
  cases e1 : m env with
  | none => simp [e1] at e
  | some z =>
    obtain ⟨f1, env1⟩ := z
    have := p env f1 env1 e1
    subst this
    simp only [e1, Option.bind] at e
    exact ⟨T0, env, .nx, env1, R, e1, fun σ1 H1 a R1 => ⟨T0, env1, o, env', R1, e, fun σ' H' v b ok fr => q σ' H' v (a.trans R1 b) ok fr⟩⟩, or_seq p k.only⟩
/-- return x, y: two lists of this frame -/
def mRet2 (i j : Nat) : MS := fun env => match env[i]?, env[j]? with
  | some (some (.own true (.list a))), some (some (.own true (.list b))) => if i = j then none else some (.rt (.dat (.tuple [.list a, .list b])), (env.set i (some (.dat (.list a)))).set j (some (.dat (.list b))))
  | _, _ => none
theorem pmb2_ret {i j : Nat} {a b : Expr} {x1 : _} {tpos pos : Pos} (ha : PE X a (tVar i)) (hb : PE X b (tVar j)) (hs : starEach [a, b] X.env = (false, eval a X.env) :: starEach [b] X.env := by rfl) (hs2 : starEach [b] X.env = (false, eval b X.env) :: starEach [] X.env := by rfl) :
    PMB2 W X [.Return (some (.Tuple [a, b] x1 tpos)) pos] (mRet2 i j) := by
  refine ⟨fun B0 => PSs.imp (pss_one (ps_ret (pe_tup (pa_cons ha (pa_cons hb pa_nil hs2) hs)))) fun E σ H ⟨T0, env, o, env', R, e, q⟩ => ?_, fun env f env' e => ?_⟩
  · unfold mRet2 at e
    split at e
    · rename_i a b e1 e2
      split at e
      · cases e
      · rename_i hij
        cases e
        obtain ⟨v1, ev1, p1, rfl, c1, n1⟩ := R.ok i _ e1
        obtain ⟨v2, ev2, p2, rfl, c2, n2⟩ := R.ok j _ e2
        have hp : p1 ≠ p2 := fun z => hij (R.inj i j p1 ⟨⟨_, _, e1⟩, ev1⟩ ⟨⟨_, _, e2⟩, by rw [z]; exact ev2⟩)
        refine ⟨_, ev1, _, ev2, show 2 ≤ sizeLine by rw [sizeLine_eq]; decide, fun t ht => ?_⟩
        have hx : (fTup [.slot i, .slot j] env) = some (.dat (.tuple [.list a, .list b]), (env.set i (some (.dat (.list a)))).set j (some (.dat (.list b)))) := by
          have e2' : (env.set i (some (.dat (.list a))))[j]? = some (some (.own true (.list b))) := by rw [List.getElem?_set_ne hij]; exact e2
          have td1 : toDat (.slot i) env = some (.list a, env.set i (some (.dat (.list a)))) := by
            show sDat env i env[i]? = _
            rw [e1]
            rfl
          have td2 : toDat (.slot j) (env.set i (some (.dat (.list a)))) = some (.list b, (env.set i (some (.dat (.list a)))).set j (some (.dat (.list b)))) := by
            show sDat _ j (env.set i (some (.dat (.list a))))[j]? = _
            rw [e2']
            rfl
          unfold fTup
          simp only [toDats, td1, td2, Option.bind]
          rw [if_pos (by simp)]
        have os : OpdsK (W.at B0) σ H env T0 [.ref p1, .ref p2] [.slot i, .slot j] (fun T => Rel (W.at B0) T σ H env) := ⟨ev1, ev2, ev2, ev1, R⟩
        have z := prim_tup T0 σ H env _ _ _ _ (fun v H' => v = .ref t ∧ H' = upd H t (.tup [.ref p1, .ref p2]) → E.rt v H') os hx (fun v H' k1 s1 ok e => by
          obtain ⟨rfl, rfl⟩ := e
          exact q σ _ _ (Stp.of k1 s1) ok ⟨t, p1, p2, rfl, upd_same, hp, (n1 rfl).2, (n2 rfl).2⟩)
        exact z.2 t ht ⟨rfl, rfl⟩
    · cases e
  · unfold mRet2 at e
    split at e
    · split at e
      · cases e
      · cases e; exact ⟨_, rfl⟩
    · cases e
end
/-- a body that does ms keeps the promise, and the pair is new -/
theorem body_ok2 {K : PySem.W.Frag} {B : Addr} {n m : Nat} {ms : MS} {N : List Str} {vs : List V} {H : Hp} {Q : VK} {E : XK} (h : spTwo K B n (denOf m ms) vs H Q E) (hN : N.length = n + m) (ho : OnlyRt ms) :
    tS2 ⟨K, B, domOf H⟩ ms { nx := fun _ H' => Q .non H', rt := Q } (L2.start N vs) H := by
  obtain ⟨T0, env, f, env', R, e, k⟩ := body_ok h hN
  obtain ⟨o, rfl⟩ := ho _ _ _ e
  exact ⟨T0, env, o, env', R, e, fun σ' H' v s ok fr => k σ' H' v s ok fr⟩
section
variable {P : Program} {w : World} {K : PySem.W.Frag} {mg : Str → Option Value} {base : Heap} {B : Addr}
theorem fn_mk2 {x qual : Str} {st : Stmt} {f : Addr} {fd : FuncData} {N ps : List Str} {k n m : Nat} {ms : MS} (F : Fun K x qual st f fd) (S : FnScope N ps (defScope st)) (hn : ps.length = n) (hN : N.length = n + m)
    (hb : ∀ (cdv : Value) (A : Around) (outer : List Env) (s : Shared) (H : Hp) (E : XK), Room k (A.deeper (envOfC qual (defScope st) s.heap.objs.size f cdv)) →
      PMB2 ⟨K, B, AS.emp⟩ (cxOf CX0 P w K mg base N qual (defScope st) f cdv A outer s H E).nox (defBody st) ms) : FnOk P w K mg base CX0 (k + 1) f fd ps (spTwo K B n (denOf m ms)) := by
  refine F.ok S (fun vs H Q E h => (spF_len h).trans hn.symm) fun cdv A outer s H vs Q E hr h => ?_
  exact ⟨_, (hb cdv A outer s H E hr).ps (domOf H), body_ok2 h hN (hb cdv A outer s H E hr).only⟩
theorem DfK.kn2 {x : Str} {st : Stmt} {N ps : List Str} {k n m j : Nat} {ms : MS} (d : DfK K mg x st ps j) (S : FnScope N ps (defScope st)) (hn : ps.length = n) (hN : N.length = n + m)
    (hb : ∀ (f : Addr) (cdv : Value) (A : Around) (outer : List Env) (s : Shared) (H : Hp) (E : XK), Room k (A.deeper (envOfC x (defScope st) s.heap.objs.size f cdv)) →
      PMB2 ⟨K, B, AS.emp⟩ (cxOf CX0 P w K mg base N x (defScope st) f cdv A outer s H E).nox (defBody st) ms) : KnK P w K mg base (k + 1) x ps j (spTwo K B n (denOf m ms)) := by
  obtain ⟨f, fd, ds, F, v, b, kb, e⟩ := d.ex
  exact ⟨f, fd, ds, fn_mk2 F S hn hN (hb f), v, b, kb, e, F.kp⟩
end
/-! ### the call -/
def tM2 (W : Wd) (m : MX) : TE := fun σ H Q => tM W m σ H (fun v H1 => Fresh2 W.B0 H1 v → Q v H1)
structure PM2 (W : Wd) (X : Cx) (e : Expr) (m : MX) : Prop where
  pe : ∀ B0, PE X e (tM2 (W.at B0) m)
theorem prim_call2 {W : Wd} {io : List Bool} {n : Nat} {F : Den} {E : XK} : Prim W (fun vs H Q => (∀ a, W.B0 a → H a ≠ none) ∧ spF W.K W.B n F vs H Q E) (fCall io n F) := fun T0 σ H env vs os o env' Q ho e k =>
  ⟨fun a z => (opdsK_less ho).bdom a z, prim_call T0 σ H env vs os o env' Q ho e k⟩
theorem spF_mono {K : PySem.W.Frag} {B : Addr} {n : Nat} {F : Den} {vs : List V} {H : Hp} {Q Q' : VK} {E : XK} (h : spF K B n F vs H Q E) (k : ∀ v H', Q v H' → Q' v H') : spF K B n F vs H Q' E := by
  obtain ⟨T0, args, r, args', R, hl, e, q⟩ := h
  exact ⟨T0, args, r, args', R, hl, e, fun v H' a b c => k v H' (q v H' a b c)⟩
section
variable {W : Wd} {X : Cx} {k n j : Nat} {io : List Bool} {F : Den} {x : Str} {ps : List Str} {p pos kpos : Pos} {a b c e : Expr} {ma mb mc me : MX}
theorem pm2_kw2 (cn : KnK X.prog X.w X.K X.mg X.base k x ps 2 (spTwo W.K W.B n F)) (hr : Room k X.A) (hg : Gl X x) (ha : PM W X a ma) (hb : PM W X b mb) (he : PM W X e me) (hdb : (x == ("__debug__" : Str)) = false := by decide)
    (hall : (backToKw pos (keywordEach [⟨some "start", e, kpos⟩] X.env)).all (·.1.isSome) = true := by rfl) (hks : (backToKw pos (keywordEach [⟨some "start", e, kpos⟩] X.env)).filterMap (·.1) = (["start"] : List Str) := by rfl)
    (hs : starEach [a, b] X.env = (false, eval a X.env) :: starEach [b] X.env := by rfl) (hs2 : starEach [b] X.env = (false, eval b X.env) :: starEach [] X.env := by rfl)
    (hpl : ((backTo pos (starEach [a, b] X.env)).any (·.1) || (backToKw pos (keywordEach [⟨some "start", e, kpos⟩] X.env)).any (·.1.isNone)) = false := by rfl) :
    PM2 W X (.Call (.Name x p) [a, b] [⟨some "start", e, kpos⟩] pos) (mPrim (fCall io n F) (mCons ma (mCons mb (mCons me mNil)))) := by
  obtain ⟨f, fd, ds, fo, v, _, kb, hm, kp⟩ := cn.ex
  refine ⟨fun B0 => PE.imp (pe_callN fo hr hg hm kp kb (E := E0) pass0 (pa_cons (ha.pe B0) (pa_cons hb.pex pa_nil hs2) hs) (pk_cons he.pex pk_nil) hall hks hdb hs hpl) fun σ H Q h => ?_⟩
  have h1 := prim_split (prim_call2 (W := W.at B0) (E := E0)) h
  refine tM_mono (mcons_split h1) fun v1 H1 ⟨B1, q1⟩ => ⟨B1, tM_mono (mcons_split q1) fun v2 H2 q2 => tMx_mono (split1x q2) fun v3 H3 ⟨bd, q3⟩ => ⟨rfl, rfl, spF_mono q3 fun v H' q fr => q (fr.mono bd)⟩⟩
end
/-! ### the pair's lists, changed later -/
def isFlat : Slot → Prop
  | .own _ d => ∃ ns : List Int, d = .list (ns.map PyData.int)
  | _ => True
/-- between the two: nothing but flat lists that come to be data -/
def KeptE (i : Nat) (env env1 : MEnv) : Prop := ∀ j s, j ≠ i → env1[j]? = some (some s) → (env[j]? = some (some s) ∧ isFlat s) ∨ (∃ ns : List Int, s = .dat (.list (ns.map PyData.int)) ∧ ∃ l, env[j]? = some (some (.own l (.list (ns.map PyData.int)))))
abbrev pairAS (p q : Addr) : AS := fun a => a = p ∨ a = q
theorem KeptE.own {i : Nat} {env env1 : MEnv} (h : KeptE i env env1) {s0 : Option Slot} (hs : ∀ l d, s0 ≠ some (.own l d)) {σ : L2.St} {v : Option V} {a : Addr} (hi : i < env1.length) : Own (σ.set i v) (env1.set i s0) a → Own σ env a := by
  rintro ⟨j, ⟨l, d, e⟩, es⟩
  by_cases hj : j = i
  · subst hj
    rw [List.getElem?_set_self hi] at e
    exact absurd (Option.some.inj e) (hs l d)
  · rw [List.getElem?_set_ne (Ne.symm hj)] at e
    rw [List.getElem?_set_ne (Ne.symm hj)] at es
    rcases h j _ hj e with ⟨e', _⟩ | ⟨ns, e', _⟩
    · exact ⟨j, ⟨l, d, e'⟩, es⟩
    · cases e'
theorem ints_cont {T T' : AS} {H : Hp} {p : Addr} {ns : List Int} (h : Cont T H p (.list (ns.map PyData.int))) : Cont T' H p (.list (ns.map PyData.int)) := by
  obtain ⟨xs, e, l⟩ := h
  refine ⟨xs, e, ?_⟩
  rw [ints_at l]
  exact ints_atl ns
theorem two_rel {W : Wd} {T0 : AS} {σ : L2.St} {H H2 : Hp} {env env1 : MEnv} {i : Nat} {v : V} {p q : Addr} (R0 : Rel W T0 σ H env) (R2 : Rel W T0 (σ.set i (some v)) H2 env1) (hi : i < env.length)
    (hp : H p = none) (hq : H q = none) (hp2 : Mu H2 p) (hq2 : Mu H2 q) (K : ∀ a o, ¬ Own σ env a → H a = some o → H2 a = some o) (KE : KeptE i env env1) :
    Rel W (T0.or (pairAS p q)) (σ.set i (some v)) H2 (env1.set i (some (.raw v))) := by
  have hi1 : i < env1.length := by
    have a := R2.len
    have b := R0.len
    rw [List.length_set] at a
    omega
  have his : i < σ.length := by rw [← R0.len]; exact hi
  have sub : ∀ a, Own (σ.set i (some v)) (env1.set i (some (.raw v))) a → Own σ env a := fun a => KE.own (fun l d z => by cases z) hi1
  have sub1 : ∀ a, Own (σ.set i (some v)) (env1.set i (some (.raw v))) a → Own (σ.set i (some v)) env1 a := by
    rintro a ⟨j, ⟨l, d, e⟩, es⟩
    by_cases hj : j = i
    · subst hj
      rw [List.getElem?_set_self hi1] at e
      cases e
    · rw [List.getElem?_set_ne (Ne.symm hj)] at e
      exact ⟨j, ⟨l, d, e⟩, es⟩
  have M : Move (Tot T0 σ env) (Tot (T0.or (pairAS p q)) (σ.set i (some v)) (env1.set i (some (.raw v)))) H H2 := ⟨fun a o n e => ⟨K a o (fun z => n (.inr z)) e, fun z => by
    rcases z with (z | z | z) | z
    · exact n (.inl z)
    · rw [z, hp] at e; cases e
    · rw [z, hq] at e; cases e
    · exact n (.inr (sub a z))⟩⟩
  refine ⟨by rw [List.length_set]; exact R2.len, fun a z => ?_, R2.bdom, fun j s e => ?_, fun j k a hj hk => ?_⟩
  · rcases z with z | z | z
    · exact R2.dom a z
    · rw [z]; exact hp2
    · rw [z]; exact hq2
  · by_cases hj : j = i
    · subst hj
      rw [List.getElem?_set_self hi1] at e
      cases e
      exact ⟨v, List.getElem?_set_self his, rfl⟩
    · rw [List.getElem?_set_ne (Ne.symm hj)] at e
      obtain ⟨v2, ev2, o2⟩ := R2.ok j s e
      refine ⟨v2, ev2, ?_⟩
      rw [List.getElem?_set_ne (Ne.symm hj)] at ev2
      rcases KE j s hj e with ⟨e0, fl⟩ | ⟨ns, rfl, l, e0⟩
      · obtain ⟨v0, ev0, o0⟩ := R0.ok j s e0
        rw [ev0] at ev2
        cases ev2
        cases s with
        | dat d => exact At.move M d _ o0
        | brd n gs => exact BrdAt.move M o0
        | scr ns => exact ScrAt.move M o0
        | brds l9 => exact BrdsAt.move M o0
        | raw w => exact o0
        | own l d =>
          obtain ⟨ns, rfl⟩ := fl
          obtain ⟨p1, rfl, c0, n0⟩ := o0
          obtain ⟨p2, e2, c2, n2⟩ := o2
          cases e2
          refine ⟨p1, rfl, ints_cont c2, fun hl => ⟨fun z => ?_, (n0 hl).2⟩⟩
          rcases z with z | z | z
          · exact (n0 hl).1 z
          · exact c0.there (by rw [z]; exact hp)
          · exact c0.there (by rw [z]; exact hq)
      · obtain ⟨v0, ev0, p1, rfl, c0, n0⟩ := R0.ok j _ e0
        rw [ev0] at ev2
        cases ev2
        cases o2 with
        | lst n e l =>
          refine .lst (fun z => ?_) e (by rw [ints_at l]; exact ints_atl ns)
          rcases z with (z | z | z) | z
          · exact n (.inl z)
          · exact c0.there (by rw [z]; exact hp)
          · exact c0.there (by rw [z]; exact hq)
          · exact n (.inr (sub1 _ z))
  · have f : ∀ j, OwnAt (σ.set i (some v)) (env1.set i (some (.raw v))) j a → OwnAt (σ.set i (some v)) env1 j a := by
      rintro j ⟨⟨l, d, e⟩, es⟩
      by_cases hj : j = i
      · subst hj
        rw [List.getElem?_set_self hi1] at e
        cases e
      · rw [List.getElem?_set_ne (Ne.symm hj)] at e
        exact ⟨⟨l, d, e⟩, es⟩
    exact R2.inj j k a (f j hj) (f k hk)
/-- a list of T0 changes -/
theorem mut_rel {W : Wd} {T0 : AS} {σ : L2.St} {H : Hp} {env : MEnv} {p : Addr} {o o' : HO} (R : Rel W T0 σ H env) (hT : T0 p) (hO : ¬ Own σ env p) (hp : H p = some o) (hm : ∀ xs, o' ≠ .tup xs) : Rel W T0 σ (upd H p o') env := by
  have M : Move (Tot T0 σ env) (Tot T0 σ env) H (upd H p o') := Move.keep (Keep.set (O := Tot T0 σ env) (.inl hT)) fun _ z => z
  have dm : ∀ a, H a ≠ none → upd H p o' a ≠ none := fun a t => by
    by_cases z : a = p
    · rw [z, upd_same]; exact fun y => nomatch y
    · rw [upd_ne z]; exact t
  refine ⟨R.len, fun a z => ?_, fun a z => dm a (R.bdom a z), fun j s e => ?_, R.inj⟩
  · by_cases q : a = p
    · rw [q]; exact mu_upd hm
    · exact (R.dom a z).keep fun o' e => by rw [upd_ne q]; exact e
  obtain ⟨v, ev, k⟩ := R.ok j s e
  refine ⟨v, ev, ?_⟩
  cases s with
  | dat d => exact At.move M d v k
  | brd n gs => exact BrdAt.move M k
  | scr ns => exact ScrAt.move M k
  | brds l9 => exact BrdsAt.move M k
  | raw w => exact k
  | own l d =>
    obtain ⟨p1, rfl, c, n⟩ := k
    have hne : p1 ≠ p := fun z => hO ⟨j, ⟨l, d, e⟩, by rw [← z]; exact ev⟩
    exact ⟨p1, rfl, c.move M (fun u w => by rw [upd_ne hne]; exact w), n⟩
theorem rel_forget {W : Wd} {T0 : AS} {σ : L2.St} {H : Hp} {env : MEnv} {i : Nat} (R : Rel W T0 σ H env) (hi : i < env.length) (hs : ∀ l d, env[i]? ≠ some (some (.own l d))) : Rel W T0 σ H (env.set i none) := by
  have f : ∀ j a, OwnAt σ (env.set i none) j a → OwnAt σ env j a := by
    rintro j a ⟨⟨l, d, e⟩, es⟩
    by_cases hj : j = i
    · subst hj
      rw [List.getElem?_set_self hi] at e
      cases e
    · rw [List.getElem?_set_ne (Ne.symm hj)] at e
      exact ⟨⟨l, d, e⟩, es⟩
  have M : Move (Tot T0 σ env) (Tot T0 σ (env.set i none)) H H := Move.sub fun a z => z.elim .inl fun ⟨j, w⟩ => .inr ⟨j, f j a w⟩
  refine ⟨by rw [List.length_set]; exact R.len, R.dom, R.bdom, fun j s e => ?_, fun j k a hj hk => R.inj j k a (f j a hj) (f k a hk)⟩
  by_cases hj : j = i
  · subst hj
    rw [List.getElem?_set_self hi] at e
    cases e
  · rw [List.getElem?_set_ne (Ne.symm hj)] at e
    obtain ⟨v, ev, k⟩ := R.ok j s e
    refine ⟨v, ev, ?_⟩
    cases s with
    | dat d => exact At.move M d v k
    | brd n gs => exact BrdAt.move M k
    | scr ns => exact ScrAt.move M k
    | brds l9 => exact BrdsAt.move M k
    | raw w => exact k
    | own l d =>
      obtain ⟨p1, rfl, c, n⟩ := k
      exact ⟨p1, rfl, c.move M (fun u w => w), n⟩
theorem rel_setdat {W : Wd} {T0 : AS} {σ : L2.St} {H : Hp} {env : MEnv} {i : Nat} {v : V} {d : D} (R : Rel W T0 σ H env) (hi : i < env.length) (hv : At (Tot T0 σ env) H v d) : Rel W T0 (σ.set i (some v)) H (env.set i (some (.dat d))) := by
  have his : i < σ.length := by rw [← R.len]; exact hi
  have f : ∀ j a, OwnAt (σ.set i (some v)) (env.set i (some (.dat d))) j a → OwnAt σ env j a := by
    rintro j a ⟨⟨l, d, e⟩, es⟩
    by_cases hj : j = i
    · subst hj
      rw [List.getElem?_set_self hi] at e
      cases e
    · rw [List.getElem?_set_ne (Ne.symm hj)] at e es
      exact ⟨⟨l, d, e⟩, es⟩
  have M : Move (Tot T0 σ env) (Tot T0 (σ.set i (some v)) (env.set i (some (.dat d)))) H H := Move.sub fun a z => z.elim .inl fun ⟨j, w⟩ => .inr ⟨j, f j a w⟩
  refine ⟨by rw [List.length_set, List.length_set]; exact R.len, R.dom, R.bdom, fun j s e => ?_, fun j k a hj hk => R.inj j k a (f j a hj) (f k a hk)⟩
  by_cases hj : j = i
  · subst hj
    rw [List.getElem?_set_self hi] at e
    cases e
    exact ⟨v, List.getElem?_set_self his, At.move M d v hv⟩
  · rw [List.getElem?_set_ne (Ne.symm hj)] at e
    obtain ⟨v, ev, k⟩ := R.ok j s e
    refine ⟨v, by rw [List.getElem?_set_ne (Ne.symm hj)]; exact ev, ?_⟩
    cases s with
    | dat d => exact At.move M d v k
    | brd n gs => exact BrdAt.move M k
    | scr ns => exact ScrAt.move M k
    | brds l9 => exact BrdsAt.move M k
    | raw w => exact k
    | own l d =>
      obtain ⟨p1, rfl, c, n⟩ := k
      exact ⟨p1, rfl, c.move M (fun u w => w), n⟩
theorem Rel.at' {W : Wd} {B0 : AS} {T0 : AS} {σ : L2.St} {H : Hp} {env : MEnv} (R : Rel W T0 σ H env) (d : ∀ a, B0 a → H a ≠ none) (n : ∀ a, B0 a → W.B0 a ∨ ¬ Own σ env a) : Rel (W.at B0) T0 σ H env := by
  refine ⟨R.len, R.dom, d, fun i s e => ?_, R.inj⟩
  obtain ⟨v, ev, o⟩ := R.ok i s e
  refine ⟨v, ev, ?_⟩
  cases s with
  | dat d => exact o
  | brd n gs => exact o
  | scr ns => exact o
  | brds l9 => exact o
  | raw v0 => exact o
  | own l d =>
    obtain ⟨p, rfl, c, n0⟩ := o
    exact ⟨p, rfl, c, fun hl => ⟨(n0 hl).1, fun z => (n p z).elim (n0 hl).2 fun y => y ⟨i, ⟨l, d, e⟩, ev⟩⟩⟩
def Two (i : Nat) (mc : MX) (mt : MT) (mB mT : MS) (env env' : MEnv) : Prop := ∃ (a b : List PyData) (env1 env2 : MEnv), i < env.length ∧ i < env2.length ∧ a.length < 16777216 ∧ b.length < 16777216 ∧
  mc env = some (.dat (.tuple [.list a, .list b]), env) ∧ mt (env.set i (some (.dat (.tuple [.list a, .list b])))) = some (false, env1) ∧ KeptE i env env1 ∧
  (∀ v, mB (env1.set i (some (.raw v))) = some (.nx, env2.set i (some (.raw v)))) ∧ mT (env2.set i none) = some (.nx, env')
open Classical in
/-- told = a new pair; if ..: (never); ..; told[0] changes; told[1] changes; .. -/
noncomputable def mTwo (i : Nat) (mc : MX) (mt : MT) (mB mT : MS) : MS := fun env => if h : ∃ env', Two i mc mt mB mT env env' then some (.nx, choose h) else none
theorem set_set {α : Type} {l : List α} {i : Nat} {a b : α} : (l.set i a).set i b = l.set i b := by simp
theorem Two.uniq {i : Nat} {mc : MX} {mt : MT} {mB mT : MS} {env e1 e2 : MEnv} (h : Two i mc mt mB mT env e1) (k : Two i mc mt mB mT env e2) : e1 = e2 := by
  obtain ⟨a, b, x1, x2, _, _, _, _, p1, p2, _, p4, p5⟩ := h
  obtain ⟨a', b', y1, y2, _, _, _, _, q1, q2, _, q4, q5⟩ := k
  rw [p1] at q1
  cases q1
  rw [p2] at q2
  cases q2
  have p := p4 .non
  rw [q4 .non] at p
  have p' : y2.set i (some (.raw .non)) = x2.set i (some (.raw .non)) := (Prod.mk.inj (Option.some.inj p)).2
  have p'' : y2.set i none = x2.set i none := by
    rw [← set_set (l := y2) (a := some (.raw .non)), p', set_set]
  rw [p''] at q5
  rw [p5] at q5
  exact (Prod.mk.inj (Option.some.inj q5)).2
theorem W_mTwo {i : Nat} {mc : MX} {mt : MT} {mB mT : MS} {env env' : MEnv} {Q : Fl × MEnv → Prop} (h : Two i mc mt mB mT env env') (k : Q (.nx, env')) : Mx.W (mTwo i mc mt mB mT env) Q := by
  have ex : ∃ e, Two i mc mt mB mT env e := ⟨_, h⟩
  refine ⟨_, by unfold mTwo; rw [dif_pos ex], ?_⟩
  rw [(Classical.choose_spec ex).uniq h]
  exact k
theorem mTwo_some {i : Nat} {mc : MX} {mt : MT} {mB mT : MS} {env env' : MEnv} {f : Fl} (h : mTwo i mc mt mB mT env = some (f, env')) : f = .nx ∧ Two i mc mt mB mT env env' := by
  unfold mTwo at h
  split at h
  · rename_i ex
    cases h
    exact ⟨rfl, Classical.choose_spec ex⟩
  · cases h
def tThen (W : Wd) (m : MS) (t : TS) : TS := fun E σ H => ∃ B0, tS (W.at B0) m { E with nx := t E } σ H
theorem then_nil {W : Wd} {X : Cx} {rest : List Stmt} {t : TS} (h : PSs X rest t) : PSs X ([] ++ rest) (tThen W mNext t) := PSs.imp h fun E σ H ⟨B0, T0, env, f, env', R, e, k⟩ => by
  cases e
  exact k σ H Stp.refl R
theorem then_one {W : Wd} {X : Cx} {st : Stmt} {m : MS} {rest : List Stmt} {t : TS} (hm : PMS W X st m) (h : PSs X rest t) : PSs X ([st] ++ rest) (tThen W m t) := by
  have a : PS X st (fun E σ H => ∃ B0, tS (W.at B0) m E σ H) := ⟨fun pins s σ H E I ⟨B0, q⟩ => (hm.ps B0).run pins s σ H E I q⟩
  exact PSs.imp (pss_cons a h) fun E σ H ⟨B0, q⟩ => ⟨B0, q⟩
theorem then_two {W : Wd} {X : Cx} {s1 s2 : Stmt} {m n : MS} {rest : List Stmt} {t : TS} (hm : PMS W X s1 m) (hn : PMS W X s2 n) (h : PSs X rest t) : PSs X ([s1, s2] ++ rest) (tThen W (mSeq m n) t) := by
  have a : PS X s1 (fun E σ H => ∃ B0, tS (W.at B0) m E σ H) := ⟨fun pins s σ H E I ⟨B0, q⟩ => (hm.ps B0).run pins s σ H E I q⟩
  have b : PS X s2 (fun E σ H => ∃ B0, tS (W.at B0) n E σ H) := ⟨fun pins s σ H E I ⟨B0, q⟩ => (hn.ps B0).run pins s σ H E I q⟩
  refine PSs.imp (pss_cons a (pss_cons b h)) fun E σ H ⟨B0, q⟩ => ⟨B0, ?_⟩
  obtain ⟨T0, env, f, env', R, e, k⟩ := seq_split q
  refine ⟨T0, env, f, env', R, e, ?_⟩
  cases f with
  | nx => exact fun σ1 H1 a1 R1 => ⟨B0, k σ1 H1 a1 R1⟩
  | bk => exact k
  | ct => exact k
  | rt o => exact k
def tMut (i k : Nat) (f : List V → List V) : TS := fun E σ H => ∃ t p vs xs, σ[i]? = some (some (.ref t)) ∧ H t = some (.tup vs) ∧ vs[k]? = some (.ref p) ∧ H p = some (.lst xs) ∧ xs.length < sizeLine ∧ E.nx σ (upd H p (.lst (f xs)))
theorem pmb_two {W : Wd} {X : Cx} {i : Nat} {x : Str} {e test : Expr} {body Bs tail : List Stmt} {m0 m1 : Stmt} {mc : MX} {mt : MT} {mB mT : MS} {f0 f1 : List V → List V} {tb : TS} {pos pos' pos2 : Pos}
    (hN : X.N.Nodup) (hi : X.N[i]? = some x) (hx : Loc X.env.scope x) (he : PM2 W X e mc) (hs : swapsWith e (some (.Name x pos')) pos.line X.env = pure false) (hf : X.fn x = true ∨ X.env.scope.names.lookup x = some .local)
    (ht : PMT W X test mt) (hbody : PSs X body tb) (hB : ∀ {rest : List Stmt} {t : TS}, PSs X rest t → PSs X (Bs ++ rest) (tThen W mB t))
    (h0 : PS X m0 (tMut i 0 f0)) (h1 : PS X m1 (tMut i 1 f1)) (hT : PMB W X tail mT) :
    PMB W X (.Assign [.Name x pos'] e pos :: .If test body [] pos2 :: (Bs ++ (m0 :: m1 :: tail))) (mTwo i mc mt mB mT) := by
  have he' : PE X e (fun σ H Q => ∃ B0, tM2 (W.at B0) mc σ H Q) := ⟨fun pins s σ H Q I ⟨B0, q⟩ => (he.pe B0).run pins s σ H Q I q⟩
  have ht' : PT X test (fun σ H Q => ∃ B0, tT (W.at B0) mt σ H Q) := ⟨fun pins s σ H Q I ⟨B0, q⟩ => (ht.pt B0).run pins s σ H Q I q⟩
  refine ⟨fun B0 => PSs.imp (pss_cons (ps_set hN hi hx he' hs hf) (pss_cons (ps_if ht' hbody pss_nil) (hB (pss_cons h0 (pss_cons h1 (hT.ps B0)))))) fun E σ H ⟨T0, env, f, env', R, e, k⟩ => ?_⟩
  obtain ⟨rfl, a, b, env1, env2, hil, hi2, al, bl, hc, htt, KE, hBB, hTT⟩ := mTwo_some e
  -- the call
  refine ⟨fun a => B0 a ∨ (H a ≠ none ∧ ¬ Own σ env a), T0, env, _, env, ?_, hc, fun v H1 k1 s1 o1 fr => ?_⟩
  · refine R.at' (B0 := fun a => B0 a ∨ (H a ≠ none ∧ ¬ Own σ env a)) (fun a z => ?_) (fun a z => ?_)
    · rcases z with z | z
      · exact R.bdom a z
      · exact z.1
    · rcases z with z | z
      · exact .inl z
      · exact .inr z.2
  obtain ⟨hv, R1⟩ := o1
  obtain ⟨t, p, q, rfl, htp, hpq, fp, fq⟩ := fr
  have hv0 := hv
  cases hv with
  | tup nt et lt =>
  rw [htp] at et
  cases et
  cases lt with
  | cons hp1 lt =>
  cases lt with
  | cons hq1 lt =>
  cases hp1 with
  | lst np ep lp =>
  cases hq1 with
  | lst nq eq lq =>
  rename_i xs ys
  have npo : ¬ Own σ env p := fun z => np (.inr z)
  have nqo : ¬ Own σ env q := fun z => nq (.inr z)
  have nto : ¬ Own σ env t := fun z => nt (.inr z)
  have hp0 : H p = none := by
    cases z : H p with
    | none => rfl
    | some u => exact absurd (.inr ⟨by rw [z]; exact fun y => (nomatch y), npo⟩) fp
  have hq0 : H q = none := by
    cases z : H q with
    | none => rfl
    | some u => exact absurd (.inr ⟨by rw [z]; exact fun y => (nomatch y), nqo⟩) fq
  have R1' : Rel (W.at B0) T0 σ H1 env := R1.at' (B0 := B0) (fun a z => R1.bdom a (.inl z)) fun a z => .inl (.inl z)
  have R1s := rel_setdat (d := .tuple [.list a, .list b]) R1' hil hv0
  -- the test
  refine ⟨B0, T0, _, false, env1, R1s, htt, fun H2 k2 s2 R2 => ?_⟩
  have sub1 : ∀ c, Own (σ.set i (some (.ref t))) (env.set i (some (.dat (.tuple [.list a, .list b])))) c → Own σ env c := by
    rintro c ⟨j, ⟨l, d, e⟩, es⟩
    by_cases hj : j = i
    · subst hj
      rw [List.getElem?_set_self hil] at e
      cases e
    · rw [List.getElem?_set_ne (Ne.symm hj)] at e es
      exact ⟨j, ⟨l, d, e⟩, es⟩
  have K12 : ∀ c o, ¬ Own σ env c → H1 c = some o → H2 c = some o := fun c o n e => k2 c o (fun z => n (sub1 c z)) e
  have K02 : ∀ c o, ¬ Own σ env c → H c = some o → H2 c = some o := fun c o n e => K12 c o n (k1 c o n e)
  have ht2 := K12 t _ nto htp
  have hp2 := K12 p _ npo ep
  have hq2 := K12 q _ nqo eq
  have R3 := two_rel R R2 hil hp0 hq0 ⟨(by rw [hp2]; exact fun y => (nomatch y)), fun xs y => (by rw [hp2] at y; cases y)⟩ ⟨(by rw [hq2]; exact fun y => (nomatch y)), fun xs y => (by rw [hq2] at y; cases y)⟩ K02 KE
  have hi1 : i < env1.length := by
    have a := R2.len
    have b := R.len
    rw [List.length_set] at a
    omega
  have sub2 : ∀ c, Own (σ.set i (some (.ref t))) (env1.set i (some (.raw (.ref t)))) c → Own σ env c := fun c => KE.own (fun l d z => by cases z) hi1
  show tThen W mB _ _ _ _
  -- what stands between
  refine ⟨fun c => B0 c ∨ (H2 c ≠ none ∧ ¬ Own (σ.set i (some (.ref t))) (env1.set i (some (.raw (.ref t)))) c), T0.or (pairAS p q), _, .nx, _, ?_, hBB (.ref t), fun σ3 H3 st3 R4 => ?_⟩
  · refine R3.at' (B0 := fun c => B0 c ∨ (H2 c ≠ none ∧ ¬ Own (σ.set i (some (.ref t))) (env1.set i (some (.raw (.ref t)))) c)) (fun a z => ?_) (fun a z => ?_)
    · rcases z with z | z
      · exact R3.bdom a z
      · exact z.1
    · rcases z with z | z
      · exact .inl z
      · exact .inr z.2
  have pr : ∀ c o, ¬ Own σ env c → H2 c = some o → H3 c = some o := fun c o n e => st3.prot c o (.inr ⟨by rw [e]; exact fun y => (nomatch y), fun z => n (sub2 c z)⟩) (fun z => n (sub2 c z)) e
  have ht3 := pr t _ nto ht2
  have hp3 := pr p _ npo hp2
  have hq3 := pr q _ nqo hq2
  obtain ⟨v3, ev3, (o3 : v3 = V.ref t)⟩ := R4.ok i _ (List.getElem?_set_self hi2)
  subst o3
  -- own lists are others
  have own3 : ∀ c, Own σ3 (env2.set i (some (.raw (.ref t)))) c → c ≠ p ∧ c ≠ q := by
    rintro c ⟨j, ⟨l, d, e⟩, es⟩
    cases l with
    | true =>
      obtain ⟨w, ew, c', e', _, n⟩ := R4.ok j _ e
      rw [es] at ew
      cases ew
      cases e'
      exact ⟨fun z => (n rfl).1 (.inr (.inl z)), fun z => (n rfl).1 (.inr (.inr z))⟩
    | false =>
      obtain ⟨q1, d', q2⟩ := st3.par j d e
      have oc : Own σ env c := sub2 c ⟨j, ⟨false, d', q2⟩, by rw [← q1]; exact es⟩
      exact ⟨fun z => npo (z ▸ oc), fun z => nqo (z ▸ oc)⟩
  have htp' : t ≠ p := fun z => by rw [z, hp3] at ht3; cases ht3
  have hsz : xs.length < sizeLine := by
    have := lp.length
    rw [sizeLine_eq]
    omega
  have hsz2 : ys.length < sizeLine := by
    have := lq.length
    rw [sizeLine_eq]
    omega
  refine ⟨t, p, _, xs, ev3, ht3, rfl, hp3, hsz, ?_⟩
  have R5 := mut_rel (o' := .lst (f0 xs)) R4 (.inr (.inl rfl)) (fun z => (own3 p z).1 rfl) hp3 (fun _ y => nomatch y)
  refine ⟨t, q, _, ys, ev3, by rw [upd_ne htp']; exact ht3, rfl, by rw [upd_ne (Ne.symm hpq)]; exact hq3, hsz2, ?_⟩
  have R6 := mut_rel (o' := .lst (f1 ys)) R5 (.inr (.inr rfl)) (fun z => (own3 q z).2 rfl) (by rw [upd_ne (Ne.symm hpq)]; exact hq3) (fun _ y => nomatch y)
  have R7 : Rel (W.at B0) (T0.or (pairAS p q)) σ3 (upd (upd H3 p (.lst (f0 xs))) q (.lst (f1 ys))) (env2.set i (some (.raw (.ref t)))) := R6.at' (B0 := B0) (fun a z => R6.bdom a (.inl z)) fun a z => .inl (.inl z)
  have R8 := rel_forget R7 (i := i) (by rw [List.length_set]; exact hi2) (fun l d => by rw [List.getElem?_set_self hi2]; exact fun z => by cases z)
  rw [set_set] at R8
  have S : Stp (W.at B0) σ H env σ3 (upd (upd H3 p (.lst (f0 xs))) q (.lst (f1 ys))) (env2.set i none) := by
    refine ⟨fun c o z n e => ?_, fun j d e => ?_⟩
    · have cp : c ≠ p := fun y => by rw [y, hp0] at e; cases e
      have cq : c ≠ q := fun y => by rw [y, hq0] at e; cases e
      rw [upd_ne cq, upd_ne cp]
      exact pr c o n (K02 c o n e)
    · by_cases hj : j = i
      · subst hj
        rw [List.getElem?_set_self hi2] at e
        cases e
      · rw [List.getElem?_set_ne (Ne.symm hj)] at e
        obtain ⟨q1, d', q2⟩ := st3.par j d (by rw [List.getElem?_set_ne (Ne.symm hj)]; exact e)
        rw [List.getElem?_set_ne (Ne.symm hj)] at q1 q2
        rcases KE j _ hj q2 with ⟨e0, _⟩ | ⟨_, e0, _⟩
        · exact ⟨q1, d', e0⟩
        · cases e0
  refine ⟨T0.or (pairAS p q), _, .nx, env', R8, hTT, fun σ' H' b r => k σ' H' (S.trans R8 b) (r.less fun a z => .inl z)⟩
section
variable {W : Wd} {X : Cx} {i : Nat} {x : Str} {e test : Expr} {body tail : List Stmt} {m0 m1 s1 s2 : Stmt} {mc : MX} {mt : MT} {m n mT mb : MS} {f0 f1 : List V → List V} {pos pos' pos2 : Pos}
theorem pmb_two0 (hN : X.N.Nodup) (hi : X.N[i]? = some x) (hx : Loc X.env.scope x) (he : PM2 W X e mc) (ht : PMT W X test mt) (hbody : PMB W X body mb) (h0 : PS X m0 (tMut i 0 f0)) (h1 : PS X m1 (tMut i 1 f1)) (hT : PMB W X tail mT)
    (hs : swapsWith e (some (.Name x pos')) pos.line X.env = pure false := by rfl) (hf : X.fn x = true ∨ X.env.scope.names.lookup x = some .local := by first | exact .inl rfl | exact .inr rfl | assumption) :
    PMB W X (.Assign [.Name x pos'] e pos :: .If test body [] pos2 :: m0 :: m1 :: tail) (mTwo i mc mt mNext mT) :=
  pmb_two (Bs := []) hN hi hx he hs hf ht (hbody.ps AS.emp) (fun h => then_nil h) h0 h1 hT
theorem pmb_two2 (hN : X.N.Nodup) (hi : X.N[i]? = some x) (hx : Loc X.env.scope x) (he : PM2 W X e mc) (ht : PMT W X test mt) (hbody : PMB W X body mb) (hs1 : PMS W X s1 m) (hs2 : PMS W X s2 n) (h0 : PS X m0 (tMut i 0 f0)) (h1 : PS X m1 (tMut i 1 f1)) (hT : PMB W X tail mT)
    (hs : swapsWith e (some (.Name x pos')) pos.line X.env = pure false := by rfl) (hf : X.fn x = true ∨ X.env.scope.names.lookup x = some .local := by first | exact .inl rfl | exact .inr rfl | assumption) :
    PMB W X (.Assign [.Name x pos'] e pos :: .If test body [] pos2 :: s1 :: s2 :: m0 :: m1 :: tail) (mTwo i mc mt (mSeq m n) mT) :=
  pmb_two (Bs := [s1, s2]) hN hi hx he hs hf ht (hbody.ps AS.emp) (fun h => then_two hs1 hs2 h) h0 h1 hT
theorem ps_mutApp {o c : Expr} {k : Nat} {cv : V} {apos cpos ipos ppos pos : Pos} {j : _} (ho : PE X o (tVar i)) (hc : PE X c (tC cv)) (hpe : ∀ {to : TE} {t : TA}, PE X (.Subscript o (.Constant (.int (k : Int)) j ipos) ppos) to → PA X [c] t → PE X (.Call (.Attribute (.Subscript o (.Constant (.int (k : Int)) j ipos) ppos) "append" apos) [c] [] cpos) (tBM X.K "list" rAppend to t))
    (hse : starEach [c] X.env = (false, eval c X.env) :: starEach [] X.env := by rfl) (hix : PlainIx (.Constant (.int (k : Int)) j ipos) := by intro _ _; rfl)
    (hs : swapsWith (.Call (.Attribute (.Subscript o (.Constant (.int (k : Int)) j ipos) ppos) "append" apos) [c] [] cpos) none pos.line X.env = pure false := by rfl) :
    PS X (.Expr (.Call (.Attribute (.Subscript o (.Constant (.int (k : Int)) j ipos) ppos) "append" apos) [c] [] cpos) pos) (tMut i k (· ++ [cv])) :=
  PS.imp (ps_expr (hpe (pe_ix ix_tup ho pe_int hix) (pa_cons hc pa_nil hse)) hs) fun E σ H ⟨t, p, vs, xs, e1, e2, e3, e4, e5, q⟩ =>
    ⟨.ref t, e1, t, vs, (k : Int), .ref p, rfl, rfl, SqT.of e2, atI_nat e3, .inl ⟨rfl, xs, SqL.of e4⟩, p, xs, cv, rfl, rfl, e4, e5, q⟩
theorem ps_mutRev {o : Expr} {k : Nat} {apos cpos ipos ppos pos : Pos} {j : _} (ho : PE X o (tVar i)) (hpe : ∀ {to : TE}, PE X (.Subscript o (.Constant (.int (k : Int)) j ipos) ppos) to → PE X (.Call (.Attribute (.Subscript o (.Constant (.int (k : Int)) j ipos) ppos) "reverse" apos) [] [] cpos) (tBM0 X.K "list" rReverse to))
    (hix : PlainIx (.Constant (.int (k : Int)) j ipos) := by intro _ _; rfl)
    (hs : swapsWith (.Call (.Attribute (.Subscript o (.Constant (.int (k : Int)) j ipos) ppos) "reverse" apos) [] [] cpos) none pos.line X.env = pure false := by rfl) :
    PS X (.Expr (.Call (.Attribute (.Subscript o (.Constant (.int (k : Int)) j ipos) ppos) "reverse" apos) [] [] cpos) pos) (tMut i k List.reverse) :=
  PS.imp (ps_expr (hpe (pe_ix ix_tup ho pe_int hix)) hs) fun E σ H ⟨t, p, vs, xs, e1, e2, e3, e4, e5, q⟩ =>
    ⟨.ref t, e1, t, vs, (k : Int), .ref p, rfl, rfl, SqT.of e2, atI_nat e3, .inl ⟨rfl, xs, SqL.of e4⟩, p, xs, rfl, rfl, e4, q⟩
end
end Mx

set_option Elab.async false
set_option autoImplicit false
set_option linter.all false
set_option maxRecDepth 100000
/-! Mx27: a method of a Board; dicts of ints. -/
namespace Mx
open PySem PySem.Spec PyProof.Rows L2
open L2 (Inv)
/-! ### board.m(board) -/
def mBrd (m : MX) : MX := fun env => (m env).bind fun (o, env1) => (brdOf o env1).bind fun _ => some (o, env1)
theorem brd_split {W : Wd} {m : MX} {σ : L2.St} {H : Hp} {Q : VK} (h : tM W (mBrd m) σ H Q) : tM W m σ H fun x H1 => (∃ a dx n g, x = .ref a ∧ H1 a = some (.ins W.B dx [("_lanes", .int n), ("_gates", .ref g)])) ∧ Q x H1 := by
  obtain ⟨T0, env, o, env', R, e, k⟩ := h
  unfold mBrd at e
  cases e1 : m env with
  | none => simp [e1] at e
  | some z =>
    obtain ⟨o1, env1⟩ := z
    cases e2 : brdOf o1 env1 with
    | none => simp [e1, e2] at e
    | some y =>
      obtain ⟨n, gs⟩ := y
      simp [e1, e2] at e
      obtain ⟨rfl, rfl⟩ := e
      refine ⟨T0, env, o1, env1, R, e1, fun v H1 k1 s1 o1' => ⟨?_, k v H1 k1 s1 o1'⟩⟩
      obtain ⟨T2, R2, sub2, put2⟩ := opdK_rel o1'
      obtain ⟨a, dx, g, xs, rfl, _, _, h1, _, _⟩ := brd_at o1' (R2.less sub2) e2
      exact ⟨a, dx, n, g, rfl, h1⟩
theorem pm_methB {W : Wd} {X : Cx} {k : Nat} {f : Addr} {fd : FuncData} {io : List Bool} {F : Den} {m : Str} {ps : List Str} {o e : Expr} {mo me : MX} {apos pos : Pos} {pl : Sem Bool} (hK : X.K = W.K) (cl : Cls W.K W.B) (hm : Meth W.K W.B m f)
    (fo : FnOk X.prog X.w X.K X.mg X.base CX0 k f fd ps (spF W.K W.B 2 F)) (hr : Room k X.A) (hb : Binds X.K fd ps []) (ho : PM W X o mo) (he : PM W X e me) (hl : ∀ n g : V, ([("_lanes", n), ("_gates", g)] : List (Str × V)).lookup m = none)
    (hst : starEach [e] X.env = (false, eval e X.env) :: starEach [] X.env := by rfl) (hpl : (backTo pos (starEach [] X.env)).any (·.1) = false := by rfl)
    (ht : eval (.Call (.Attribute o m apos) [e] [] pos) X.env = (do
      let ov ← eval o X.env
      standAt apos.atName
      let (f, first) ← holding [ov] (getMethod ov m pl)
      callWith pos f first (backTo pos (starEach [e] X.env)) (backToKw pos (keywordEach [] X.env))) := by rfl) :
    PM W X (.Call (.Attribute o m apos) [e] [] pos) (mPrim (fCall io 2 F) (mCons (mBrd mo) (mCons me mNil))) := by
  refine ⟨fun B0 => PE.imp (pe_meth (C := W.B) (ho.pe B0) (by rw [hK]; exact cl) (by rw [hK]; exact hm) fo hr hb .nil pass0 (pa_cons he.pex pa_nil hst) hst hpl ht) fun σ H Q h => ?_⟩
  have h1 := prim_split (prim_call (W := W.at B0) (E := E0)) h
  refine tM_mono (brd_split (mcons_split h1)) fun x H1 ⟨⟨a, dx, n, g, e1, e2⟩, q⟩ => ⟨a, dx, _, e1, e2, hl _ _, ?_⟩
  obtain ⟨B1, q⟩ := q
  exact ⟨B1, tM_mono (split1 q) fun y H2 q2 => q2⟩
theorem W_mBrd {R : Opd × MEnv → Prop} {m : MX} {env : MEnv} : Mx.W (mBrd m env) R = Mx.W (m env) fun p => Mx.W (brdOf p.1 p.2) fun _ => R p := by
  unfold mBrd
  rw [W_bind]
  congr 1
  funext p
  obtain ⟨o, e⟩ := p
  rw [W_bind]
  congr 1
  funext q
  exact W_some
/-! ### dicts of ints -/
def iiOf : List (PyData × PyData) → Option (List (Int × Int))
  | [] => some []
  | (.int i, .int v) :: l => (iiOf l).map fun kvs => (i, v) :: kvs
  | _ => none
def iiD (kvs : List (Int × Int)) : List (PyData × PyData) := kvs.map fun p => (.int p.1, .int p.2)
def iiV (kvs : List (Int × Int)) : List (Key × V) := kvs.map fun p => (.inl p.1, .int p.2)
theorem iiOf_D : ∀ (kvs : List (Int × Int)), iiOf (iiD kvs) = some kvs
  | [] => rfl
  | (i, v) :: kvs => by
    show (iiOf (iiD kvs)).map _ = _
    rw [iiOf_D kvs]
    rfl
theorem iiOf_eq : ∀ {l : List (PyData × PyData)} {kvs : List (Int × Int)}, iiOf l = some kvs → l = iiD kvs
  | [], kvs, e => by cases e; rfl
  | (a, b) :: l, kvs, e => by
    unfold iiOf at e
    split at e
    · rename_i q
      cases q
    · rename_i i v l' q
      cases q
      cases e1 : iiOf l with
      | none => rw [e1] at e; cases e
      | some k' =>
        rw [e1] at e
        cases e
        rw [iiOf_eq e1]
        rfl
    · cases e
theorem ii_at {T : AS} {H : Hp} : ∀ {kvs : List (Int × Int)} {vs : List (Key × V)}, AtM T H vs (iiD kvs) → vs = iiV kvs
  | [], _, l => by cases l; rfl
  | (i, v) :: kvs, vs, l => by
    generalize hd : iiD ((i, v) :: kvs) = d at l
    cases l with
    | nil => cases hd
    | @cons k w vs' d' ds' a b =>
      have h1 : (PyData.int i, PyData.int v) = (kD k, d') := (List.cons.inj hd).1
      have h2 : iiD kvs = ds' := (List.cons.inj hd).2
      subst h2
      have hk : kD k = .int i := (Prod.mk.inj h1).1.symm
      have hv : PyData.int v = d' := (Prod.mk.inj h1).2
      subst hv
      cases k with
      | inl j =>
        have : j = i := by
          have z : PyData.int j = PyData.int i := hk
          cases z
          rfl
        subst this
        cases a
        rw [ii_at b]
        rfl
      | inr x =>
        have z : PyData.str x = PyData.int i := hk
        cases z
theorem ii_atm {T : AS} {H : Hp} : ∀ (kvs : List (Int × Int)), AtM T H (iiV kvs) (iiD kvs)
  | [] => .nil
  | (i, v) :: kvs => .cons (k := .inl i) (.int v) (ii_atm kvs)
def lk (kvs : List (Int × Int)) (i : Int) : Option Int := (kvs.find? fun p => decide (p.1 = i)).map (·.2)
def pk (kvs : List (Int × Int)) (i v : Int) : List (Int × Int) := if (kvs.any fun p => decide (p.1 = i)) = true then kvs.map (fun p => if p.1 = i then (p.1, v) else p) else kvs ++ [(i, v)]
theorem lk_val : ∀ (kvs : List (Int × Int)) (i : Int), valV (iiV kvs) (.inl i) = (lk kvs i).map V.int
  | [], _ => rfl
  | (j, v) :: kvs, i => by
    by_cases e : j = i
    · subst e
      rw [show iiV ((j, v) :: kvs) = (.inl j, .int v) :: iiV kvs from rfl, valV_pos rfl]
      simp [lk]
    · rw [show iiV ((j, v) :: kvs) = (.inl j, .int v) :: iiV kvs from rfl, valV_neg (fun z => e (Sum.inl.inj z)), lk_val kvs i]
      simp [lk, List.find?_cons, e]
theorem pk_put (kvs : List (Int × Int)) (i v : Int) : putK (iiV kvs) (.inl i) (.int v) = iiV (pk kvs i v) := by
  have a : ((iiV kvs).any fun kv => decide (kv.1 = (.inl i : Key))) = kvs.any fun p => decide (p.1 = i) := by
    unfold iiV
    rw [List.any_map]
    congr 1
    funext p
    simp
  unfold putK pk
  rw [a]
  split
  · unfold iiV
    rw [List.map_map, List.map_map]
    refine List.map_congr_left fun p _ => ?_
    by_cases e : p.1 = i
    · simp [e]
    · simp [e]
  · unfold iiV
    rw [List.map_append]
    rfl
theorem ii_not {T : AS} {H : Hp} {kvs : List (List Key × V)} {l : List (Int × Int)} (h : AtT T H kvs (l.map fun p => (PyData.int p.1, PyData.int p.2))) (z : kvs ≠ []) : False := by
  cases l with
  | nil => cases h; exact z rfl
  | cons p l => rw [List.map_cons] at h; cases h
/-- i in d -/
def gInDict : List PyData → Option PyData
  | [.int i, .dict l] => (iiOf l).map fun kvs => .bool (lk kvs i).isSome
  | _ => none
theorem prim_inDict {W : Wd} : Prim W (R2P (fun y x H Q => ∃ a o, x = .ref a ∧ DGet H a y o ∧ Q (.bl o.isSome) H)) (fPure gInDict) := prim_pure fun vs H ds d v Q l e ev q => by
  unfold gInDict at e
  split at e
  · rename_i i l'
    obtain ⟨x, y, rfl, hx, hy⟩ := atl2 l
    cases e1 : iiOf l' with
    | none => rw [e1] at e; cases e
    | some kvs =>
      rw [e1] at e
      cases e
      cases ev
      have hl := iiOf_eq e1
      subst hl
      cases hx
      cases hy with
      | dit n e2 z m => exact (ii_not m z).elim
      | dic n e2 m =>
        have := ii_at m
        subst this
        refine ⟨_, _, rfl, _, valV (iiV kvs) (.inl i), rfl, .inl ⟨_, .inl i, .inl e2, rfl, rfl⟩, ?_⟩
        rw [lk_val, Option.isSome_map]
        exact q
  · cases e
section
variable {W : Wd} {X : Cx} {a b o e f : Expr} {ma mb mo me mf : MX} {apos cpos pos : Pos}
theorem pmt_inDict (hu : X.A.units + 1 < cLine) (ha : PM W X a ma) (hb : PM W X b mb) (hm : behindInMarks .In b = false := by rfl) : PMT W X (.Compare a [.In] [b] pos) (mTr (mPrim (fPure gInDict) (mCons ma (mCons mb mNil)))) :=
  ⟨fun B0 => PT.imp (pt_cmp (pc_din hu (ha.pe B0) hb.pex) hm) fun σ H Q h => op_split (prim_inDict (W := W.at B0)) (tr_split h)⟩
/-- d.get(i, x) -/
def gGetD : List PyData → Option PyData
  | [.dict l, .int i, .int x] => (iiOf l).map fun kvs => .int ((lk kvs i).getD x)
  | _ => none
def isDd : Option PyData → Bool
  | some (.dict _) => true
  | _ => false
def mDct (m : MX) : MX := fun env => (m env).bind fun (o, env1) => if isDd (peek o env1) = true then some (o, env1) else none
theorem dct_split {m : MX} {σ : L2.St} {H : Hp} {Q : VK} (h : tM W (mDct m) σ H Q) : tM W m σ H fun x H1 => (∃ a, x = .ref a ∧ IsD H1 a) ∧ Q x H1 := by
  obtain ⟨T0, env, o, env', R, e, k⟩ := h
  unfold mDct at e
  cases e1 : m env with
  | none => simp [e1] at e
  | some z =>
    obtain ⟨o1, env1⟩ := z
    simp only [e1, Option.bind] at e
    split at e
    · rename_i hl
      cases e
      refine ⟨T0, env, o, env', R, e1, fun v H1 k1 s1 o1 => ⟨?_, k v H1 k1 s1 o1⟩⟩
      unfold isDd at hl
      split at hl
      · rename_i ds q
        obtain ⟨T2, R2, sub2, put2⟩ := opdK_rel o1
        have := peek_at o1 (R2.less sub2) q
        cases this with
        | dic n e m => exact ⟨_, rfl, .inl ⟨_, .inl e⟩⟩
        | dit n e z m => exact ⟨_, rfl, .inr ⟨_, .inl e⟩⟩
      · cases hl
    · cases e
theorem atl3 {T : AS} {H : Hp} {vs : List V} {d e g : D} (h : AtL T H vs [d, e, g]) : ∃ x y z, vs = [x, y, z] ∧ At T H x d ∧ At T H y e ∧ At T H z g := by
  cases h with
  | cons a h =>
    cases h with
    | cons b h =>
      cases h with
      | cons c h =>
        cases h
        exact ⟨_, _, _, rfl, a, b, c⟩
theorem prim_getD : Prim W (fun vs H Q => ∃ a y z o, vs = [.ref a, y, z] ∧ DGet H a y o ∧ Q (o.getD z) H) (fPure gGetD) := prim_pure fun vs H ds d v Q l e ev q => by
  unfold gGetD at e
  split at e
  · rename_i l' i x
    obtain ⟨x', y, z, rfl, hx, hy, hz⟩ := atl3 l
    cases e1 : iiOf l' with
    | none => rw [e1] at e; cases e
    | some kvs =>
      rw [e1] at e
      cases e
      cases ev
      have hl := iiOf_eq e1
      subst hl
      cases hy
      cases hz
      cases hx with
      | dit n e2 z m => exact (ii_not m z).elim
      | dic n e2 m =>
        have := ii_at m
        subst this
        refine ⟨_, _, _, valV (iiV kvs) (.inl i), rfl, .inl ⟨_, .inl i, .inl e2, rfl, rfl⟩, ?_⟩
        rw [lk_val]
        cases hg : lk kvs i with
        | none => rw [hg] at q; exact q
        | some w => rw [hg] at q; exact q
  · cases e
theorem pm_getD (hu : X.A.units + 1 < cLine) (ho : PM W X o mo) (he : PM W X e me) (hf : PM W X f mf) (m : M2 X o "get" apos e f cpos := by exact ⟨rfl, rfl, rfl, rfl⟩) : PM W X (.Call (.Attribute o "get" apos) [e, f] [] cpos) (mPrim (fPure gGetD) (mCons (mDct mo) (mCons me (mCons mf mNil)))) :=
  ⟨fun B0 => PE.imp (pe_dget2 hu (ho.pe B0) he.pex hf.pex m) fun σ H Q h => by
    have h1 := prim_split (prim_getD (W := W.at B0)) h
    refine tM_mono (dct_split (mcons_split h1)) fun x H1 ⟨⟨a, e1, e2⟩, q⟩ => ⟨a, e1, e2, ?_⟩
    obtain ⟨B1, q⟩ := q
    refine ⟨B1, tM_mono (mcons_split q) fun y H2 ⟨B2, q2⟩ => ⟨B2, tM_mono (split1 q2) fun z H3 ⟨a', y', z', o', ev, g, q3⟩ => ?_⟩⟩
    cases ev
    cases e1
    exact ⟨o', g, q3⟩⟩
end
end Mx

set_option Elab.async false
set_option autoImplicit false
set_option linter.all false
set_option maxRecDepth 100000
set_option maxHeartbeats 1000000
/-! Mx28: list(d.values()). -/
namespace Mx
open PySem PySem.Spec PyProof.Rows L2
open L2 (Inv)
section
variable {X : Cx} {e : Expr} {te : TE} {p cpos apos pos : Pos}
def tListVals (te : TE) : TE := fun σ H Q => te σ H fun x H1 => ∃ (d : Addr) (kvs : List (Key × V)), x = .ref d ∧ H1 d = some (.dK kvs) ∧ ∀ q, H1 q = none → Q (.ref q) (upd H1 q (.lst (kvs.map (·.2))))
theorem vals_of {kvs : List (Key × V)} {vs : List (Key × Value)} (h : KV kvs vs) : Vals (kvs.map (·.2)) (vs.map (·.2)) := by
  unfold KV at h
  induction h with
  | nil => exact .nil
  | cons a _ ih => exact .cons a.2 ih
theorem pe_listVals (hc : X.calm = true) (he : PE X e te) (hg : Gl X "list") (hm : X.mg "list" = none) (hv : bootBuiltins "list" = some (.type "list")) (hbase : attributeBase e "values" X.env (eval e X.env) = eval e X.env := by rfl) (hline : (apos.endLine == cpos.line) = true := by rfl)
    (hs : starEach [.Call (.Attribute e "values" apos) [] [] cpos] X.env = (false, eval (.Call (.Attribute e "values" apos) [] [] cpos) X.env) :: starEach [] X.env := by rfl) :
    PE X (.Call (.Name "list" p) [.Call (.Attribute e "values" apos) [] [] cpos] [] pos) (tListVals te) := by
  refine ⟨fun pins s σ H Q I hq => ?_⟩
  refine wpAny_Call_Name_kw (ld_blt I hg hm hv ?_)
  refine PyProof.Rows.callWith_type1 ?_ hs rfl
  rw [hs]
  show wpAny _ _ (spliced ((false, eval (.Call (.Attribute e "values" apos) [] [] cpos) X.env) :: backTo pos (starEach [] X.env))) _ _ s
  refine Calls.spliced_cons ?_
  refine wpAny_Call_method (T := "dict") (id := "dict.values") hbase rfl hline F.plainAttrs_dict F.slot_dict_values F.type_dict_values (thn (he.run pins s σ H _ I hq) fun u s1 ⟨x, H1, I1, rx, d, kvs, ex, hd, q⟩ => ?_)
  subst ex
  obtain rfl : u = Value.ref d := rx
  obtain ⟨hz, hs0, vs, kv, hdo⟩ := I1.hok d _ hd
  obtain ⟨ep, hat⟩ := hdo.dictAt
  have lk : kvs.length = vs.length := Paired.length kv
  have I2 : Inv X pins σ H1 { s1 with heap := s1.heap.push { cls := .type "dict_values", data := .fields #[.ref d] } } := I1.kept (t' := s1.toks) fun b ob q => Heap.get?_push_of_some _ q
  refine ⟨hdo.typeIs, hdo.mapOf.noDict, ?_⟩
  show wpAny _ _ (callWith cpos (.builtin "dict.values") [.ref d] [] []) _ X.xe s1
  refine method_meetsIn F.slot_dict_values F.entry_dict_values rfl (PySem.evalArgs_none ⟨rfl, hdo.typeIs, F.args_dict_values_1 _, _, meets_dict_values (mixKind X.prog X.w) d hs0, ⟨vs, hdo⟩, ?_⟩)
  refine Calls.spliced_nil ?_
  refine PySem.W.kdl_call (PySem.W.kdl_values (knd := mixKind X.prog X.w) (kvs := vs) (ep := ep)) (I1.ok.hd hc) ⟨⟨_, Heap.get?_push_size _ rfl, rfl, rfl⟩, hat.push _⟩ (by omega) fun h' tk acc c hk hS hacc => ?_
  have ea : acc.toList = vs.map (·.2) := by
    refine List.ext_getElem? fun i => ?_
    rw [List.getElem?_map]
    cases z : acc.toList[i]? with
    | some v =>
      obtain ⟨k, hk⟩ := hacc.2 i v (by rw [← Array.getElem?_toList]; exact z)
      rw [hk]
      rfl
    | none =>
      have h1 := List.getElem?_eq_none_iff.mp z
      have h2 : vs.length ≤ i := by
        have := hacc.1
        rw [Array.length_toList] at h1
        omega
      rw [List.getElem?_eq_none h2]
      rfl
  refine ⟨.ref _, _, I2.laid (t' := tk) (o := .lst (kvs.map (·.2))) hk (Nat.le_refl _) ⟨by rw [List.length_map]; exact hz, acc.toList, c, by rw [ea]; exact vals_of kv, by rw [Array.toArray_toList]; exact hS⟩, rfl, q _ (I2.hok.fresh (Nat.le_refl _))⟩
end
/-- list(d.values()) -/
def fVals (o : Opd) (env : MEnv) : Option (Opd × MEnv) := match peek o env with
  | some (.dict l) => (iiOf l).bind fun kvs => some (.new (.list (kvs.map fun p => PyData.int p.2)), env)
  | _ => none
def mVals (m : MX) : MX := fun env => (m env).bind fun (o, env1) => fVals o env1
theorem vals_atl {T : AS} {H : Hp} : ∀ (kvs : List (Int × Int)), AtL T H ((iiV kvs).map (·.2)) (kvs.map fun p => PyData.int p.2)
  | [] => .nil
  | p :: kvs => .cons (.int p.2) (vals_atl kvs)
theorem pm_listVals {W : Wd} {X : Cx} {e : Expr} {me : MX} {p cpos apos pos : Pos} (hc : X.calm = true) (he : PM W X e me) (hg : Gl X "list") (hm : X.mg "list" = none) (hbase : attributeBase e "values" X.env (eval e X.env) = eval e X.env := by rfl) (hline : (apos.endLine == cpos.line) = true := by rfl)
    (hs : starEach [.Call (.Attribute e "values" apos) [] [] cpos] X.env = (false, eval (.Call (.Attribute e "values" apos) [] [] cpos) X.env) :: starEach [] X.env := by rfl) :
    PM W X (.Call (.Name "list" p) [.Call (.Attribute e "values" apos) [] [] cpos] [] pos) (mVals me) :=
  ⟨fun B0 => PE.imp (pe_listVals hc (he.pe B0) hg hm rfl hbase hline hs) fun σ H Q ⟨T0, env, o, env', R, e, k⟩ => by
    unfold mVals at e
    cases e1 : me env with
    | none => simp [e1] at e
    | some z =>
      obtain ⟨o1, env1⟩ := z
      simp only [e1, Option.bind] at e
      unfold fVals at e
      split at e
      · rename_i l q
        cases e2 : iiOf l with
        | none => rw [e2] at e; cases e
        | some kvs =>
          rw [e2] at e
          cases e
          have hl := iiOf_eq e2
          subst hl
          refine ⟨T0, env, o1, env', R, e1, fun v H1 k1 s1 o1' => ?_⟩
          have R1 := opdK_base o1'
          have := peek_at o1' R1 q
          cases this with
          | dit n e3 z m => exact (ii_not m z).elim
          | dic n e3 m =>
            have := ii_at m
            subst this
            exact ⟨_, _, rfl, e3, fun q hq => k _ _ (k1.trans (Keep.new hq) fun a z => s1.own a z) s1 (mk_list R1 hq (vals_atl kvs))⟩
      · cases e⟩
/-- {i: v} -/
def fDisp1 : FX
  | [o1, o2], env => (gInt (peek o1 env)).bind fun i => (gInt (peek o2 env)).bind fun v => some (.new (.dict (iiD [(i, v)])), env)
  | _, _ => none
theorem pm_disp1 {W : Wd} {X : Cx} {a b : Expr} {ma mb : MX} {pos : Pos} (ha : PM W X a ma) (hb : PM W X b mb) : PM W X (.Dict [some a] [b] pos) (mPrim fDisp1 (mCons ma (mCons mb mNil))) :=
  ⟨fun B0 => PE.imp (pe_disp (pps_cons (ha.pe B0) hb.pex pps_nil) rfl rfl (by simp) (by simp)) fun σ H Q ⟨T0, env, o, env', R, e, k⟩ p hp => by
    unfold mPrim at e
    cases e1 : mCons ma (mCons mb mNil) env with
    | none => simp [e1] at e
    | some z =>
      obtain ⟨os, env1⟩ := z
      simp only [e1, Option.bind] at e
      unfold fDisp1 at e
      split at e
      · rename_i o1 o2
        cases e2 : gInt (peek o1 env1) with
        | none => simp [e2] at e
        | some i =>
          cases e3 : gInt (peek o2 env1) with
          | none => simp [e2, e3] at e
          | some w =>
            simp only [e2, e3, Option.bind] at e
            cases e
            have np := R.fresh hp
            have k0 : Keep AS.emp H (upd H p (.dK [])) := Keep.new hp
            have R' := R.more hp k0 (mu_upd fun _ y => nomatch y)
            have q : tMA (W.at B0) (mCons ma (mCons mb mNil)) σ (upd H p (.dK [])) (fun vs H2 => ∃ x y, vs = [x, y] ∧ (H2 p = some (.dK []) ∧ ∃ kvs : List (Key × V), [(x, y)] = kvs.map (fun kv => (kV kv.1, kv.2)) ∧ kvs.length ≤ 15 ∧ Q (.ref p) (upd H2 p (.dK (mergeK [] kvs))))) := by
              refine ⟨T0.or (.one p), env, _, _, R', e1, fun vs H2 k2 s2 os2 => ?_⟩
              obtain ⟨x, y, T1, rfl, _, h1, h2, R2, R0⟩ := opds2 os2
              have hx := at_int (peek_at h1 R0 (gInt_some e2))
              have hy := at_int (peek_at h2 R2 (gInt_some e3))
              subst hx
              subst hy
              have npo : ¬ Own σ env p := fun z => np (.inr z)
              have hp2 : H2 p = some (.dK []) := k2 p _ npo upd_same
              refine ⟨_, _, rfl, hp2, [(.inl i, .int w)], rfl, by simp, ?_⟩
              have npo2 : ¬ Own σ env' p := fun z => npo (s2.own p z)
              have R3 := mut_rel (o' := .dK [(.inl i, .int w)]) R0 (.inr rfl) npo2 hp2 (fun _ y => nomatch y)
              have kk : Keep (Own σ env) H (upd H2 p (.dK [(.inl i, .int w)])) := fun a u n e => by
                have ap : a ≠ p := fun z => by rw [z, hp] at e; cases e
                rw [upd_ne ap]
                exact k2 a u n (by rw [upd_ne ap]; exact e)
              refine k _ _ kk s2 ⟨p, rfl, ⟨fun z => ?_, fun z => R.bdom p z hp⟩, .inl ⟨_, upd_same, ii_atm [(i, w)]⟩, R3⟩
              rcases z with z | z
              · exact np (.inl z)
              · exact npo2 z
            have q2 := split2 q
            refine tM_mono q2 fun x H1 q3 => tMx_mono q3 fun y H2 ⟨x', y', e, q4⟩ => ?_
            cases e
            exact q4
      · cases e⟩
/-- d[i] = v -/
def ownD : Option (Option Slot) → Option (Bool × List (PyData × PyData))
  | some (some (.own l (.dict ds))) => some (l, ds)
  | _ => none
theorem ownD_some {x : Option (Option Slot)} {l : Bool} {ds : List (PyData × PyData)} (h : ownD x = some (l, ds)) : x = some (some (.own l (.dict ds))) := by
  unfold ownD at h
  split at h
  · cases h; rfl
  · cases h
def mDSub (i : Nat) (mi me : MX) : MS := fun env => (mCons me (mCons (mVar i) (mCons mi mNil)) env).bind fun (os, env1) => match os with
  | [o, _, oi] => (gInt (peek oi env1)).bind fun k => (gInt (peek o env1)).bind fun w => (ownD env1[i]?).bind fun (l, ds) => (iiOf ds).bind fun kvs => if kvs.length < 16777216 then some (.nx, env1.set i (some (.own l (.dict (iiD (pk kvs k w)))))) else none
  | _ => none
theorem pms_dsub {W : Wd} {X : Cx} {o ix e : Expr} {i : Nat} {mi me : MX} {p1 pos : Pos} (hu : X.A.units + 1 < cLine) (ho : PM W X o (mVar i)) (hi : PM W X ix mi) (he : PM W X e me) (ha : ∀ v, assign (.Subscript o ix p1) X.env v = (do
      let ov ← holding [v] (eval o X.env)
      let iv ← holding [v, ov] (eval ix X.env)
      standAt p1
      holding [v, ov, iv] (setItem ov iv v)
      release [v, ov, iv] []) := by intro _; rfl)
    (hs : swapsWithSole [.Subscript o ix p1] e pos.line X.env = pure false := by rfl) (hw : swappedStores [.Subscript o ix p1] e X.env = pure none := by rfl) (h1 : (assignEach [.Subscript o ix p1] X.env).map (·.2) = [assign (.Subscript o ix p1) X.env] := by rfl) :
    PMS W X (.Assign [.Subscript o ix p1] e pos) (mDSub i mi me) :=
  ⟨fun B0 => PS.imp (ps_asg (he.pe B0) (pg_sub ho.pex hi.pex (set_dict hu) ha) hs hw h1) fun E σ H ⟨T0, env, f, env', R, e, k⟩ => by
    unfold mDSub at e
    cases e1 : mCons me (mCons (mVar i) (mCons mi mNil)) env with
    | none => simp [e1] at e
    | some z =>
      obtain ⟨os, env1⟩ := z
      simp only [e1, Option.bind] at e
      have q : tMA (W.at B0) (mCons me (mCons (mVar i) (mCons mi mNil))) σ H (fun vs H1 => ∃ v x y, vs = [v, x, y] ∧ rSetD x y v H1 fun H3 => E.nx σ H3) := by
        refine ⟨T0, env, os, env1, R, e1, fun vs H1 k1 s1 o1 => ?_⟩
        split at e
        · rename_i o2 oX oi
          have hX : oX = .slot i := by
            unfold mCons at e1
            cases f1 : me env with
            | none => simp [f1] at e1
            | some w =>
              obtain ⟨a1, b1⟩ := w
              cases f2 : mVar i b1 with
              | none => simp [f1, f2] at e1
              | some w2 =>
                obtain ⟨a2, b2⟩ := w2
                obtain ⟨rfl, rfl⟩ := mVar_slot f2
                cases f3 : mi b2 with
                | none => simp [f1, f2, f3] at e1
                | some w3 =>
                  simp [f1, f2, f3, mNil] at e1
                  exact e1.1.2.1.symm
          subst hX
          cases e2 : gInt (peek oi env1) with
          | none => simp [e2] at e
          | some n =>
            cases e3 : gInt (peek o2 env1) with
            | none => simp [e2, e3] at e
            | some w =>
              simp only [e2, e3] at e
              cases e4 : ownD env1[i]? with
              | none => simp [e4] at e
              | some w2 =>
                obtain ⟨l, ds⟩ := w2
                simp only [e4] at e
                cases e5 : iiOf ds with
                | none => simp [e5] at e
                | some kvs =>
                  simp only [e5] at e
                  split at e
                  · rename_i hlen
                    cases e
                    have hds := iiOf_eq e5
                    subst hds
                    cases vs with
                    | nil => exact o1.elim
                    | cons v vs =>
                      obtain ⟨T1, s1', h1', h2'⟩ := opdsK_cons o1
                      obtain ⟨x, y, T2, rfl, s2', h3', h4', R2, R1⟩ := opds2 h2'
                      have R0 := R1.less s1'
                      have hy := at_int (peek_at h4' R2 (gInt_some e2))
                      subst hy
                      have hv := at_int (peek_at h1' R0 (gInt_some e3))
                      subst hv
                      have hs := ownD_some e4
                      have hx : σ[i]? = some (some x) := h3'.1
                      obtain ⟨p, rfl, c0, n0⟩ := slot_get R0 hx hs
                      obtain ⟨kv0, hp, la⟩ : ∃ kv0, H1 p = some (.dK kv0) ∧ AtM (Tot T0 σ env1) H1 kv0 _ := c0.elim id fun ⟨kv, _, z, m⟩ => (ii_not m z).elim
                      have hkv := ii_at la
                      subst hkv
                      refine ⟨_, _, _, rfl, p, _, rfl, .inl ⟨_, .inl n, hp, rfl, ?_, rfl⟩, ?_⟩
                      · show (iiV kvs).length < sizeLine
                        rw [sizeLine_eq]
                        unfold iiV
                        rw [List.length_map]
                        exact hlen
                      · rw [pk_put]
                        obtain ⟨R4, s4, k4⟩ := own_write (u := .dK (iiV (pk kvs n w))) (d := .dict (iiD (pk kvs n w))) R0 hs hx (.inl ⟨_, upd_same, ii_atm _⟩)
                        exact k σ _ (Stp.of (k1.trans k4 fun a z => s1.own a z) (s1.trans s4)) R4
                  · cases e
        · cases e
      refine tM_mono (mcons_split q) fun v H1 q1 => ?_
      obtain ⟨B1, q1⟩ := q1
      refine ⟨B1, tM_mono (mcons_split q1) fun x H2 q2 => ?_⟩
      obtain ⟨B2, q2⟩ := q2
      refine ⟨B2, tM_mono (split1 q2) fun y H3 ⟨v', x', y', e, q3⟩ => ?_⟩
      cases e
      exact q3⟩
theorem W_mDSub {Q : Fl × MEnv → Prop} {env : MEnv} {i : Nat} {mi me : MX} : Mx.W (mDSub i mi me env) Q = Mx.W (me env) fun p => Mx.W (mVar i p.2) fun _ => Mx.W (mi p.2) fun q => Mx.W (gInt (peek q.1 q.2)) fun k => Mx.W (gInt (peek p.1 q.2)) fun w => Mx.W (ownD q.2[i]?) fun l => Mx.W (iiOf l.2) fun kvs => kvs.length < 16777216 ∧ Q (.nx, q.2.set i (some (.own l.1 (.dict (iiD (pk kvs k w)))))) := by
  unfold mDSub
  rw [W_bind, W_mCons]
  congr 1
  funext p
  rw [W_mCons]
  cases e0 : mVar i p.2 with
  | none => rw [W_none, W_none]
  | some z =>
    obtain ⟨o, e⟩ := z
    obtain ⟨rfl, rfl⟩ := mVar_slot e0
    rw [W_some, W_some, W_mCons]
    congr 1
    funext q
    rw [W_mNil]
    show Mx.W ((gInt (peek q.1 q.2)).bind fun k => (gInt (peek p.1 q.2)).bind fun w => (ownD q.2[i]?).bind fun (l, ds) => (iiOf ds).bind fun kvs => if kvs.length < 16777216 then some (Fl.nx, q.2.set i (some (.own l (.dict (iiD (pk kvs k w)))))) else none) Q = _
    rw [W_bind]
    congr 1
    funext k
    rw [W_bind]
    congr 1
    funext w
    rw [W_bind]
    congr 1
    funext l
    obtain ⟨l, ds⟩ := l
    rw [W_bind]
    congr 1
    funext kvs
    show Mx.W (if kvs.length < 16777216 then _ else none) Q = _
    rw [W_ite, W_none]
    simp [W_some]
theorem W_mVals {R : Opd × MEnv → Prop} {m : MX} {env : MEnv} : Mx.W (mVals m env) R = Mx.W (m env) fun p => Mx.W (fVals p.1 p.2) R := by
  unfold mVals
  rw [W_bind]
theorem W_mDct {R : Opd × MEnv → Prop} {m : MX} {env : MEnv} : Mx.W (mDct m env) R = Mx.W (m env) fun p => isDd (peek p.1 p.2) = true ∧ R p := by
  unfold mDct
  rw [W_bind]
  congr 1
  funext p
  obtain ⟨o, e⟩ := p
  show Mx.W (if isDd (peek o e) = true then some (o, e) else none) R = _
  rw [W_ite, W_none]
  simp [W_some]
theorem gInDict_ii {i : Int} {kvs : List (Int × Int)} : gInDict [.int i, .dict (iiD kvs)] = some (.bool (lk kvs i).isSome) := by
  show (iiOf (iiD kvs)).map _ = _
  rw [iiOf_D]
  rfl
theorem gGetD_ii {i x : Int} {kvs : List (Int × Int)} : gGetD [.dict (iiD kvs), .int i, .int x] = some (.int ((lk kvs i).getD x)) := by
  show (iiOf (iiD kvs)).map _ = _
  rw [iiOf_D]
  rfl
theorem hu1 {u : Nat} (h : u + 65 < cLine) : u + 1 < cLine := by omega
end Mx

set_option Elab.async false
set_option autoImplicit false
set_option linter.all false
set_option maxRecDepth 100000
/-! Mx29: a list of two Boards. -/
namespace Mx
open PySem PySem.Spec PyProof.Rows L2
open L2 (Inv)
def brdsS : Option (Option Slot) → Option (List (Int × List D))
  | some (some (.brds l)) => some l
  | _ => none
def brdsOf : Opd → MEnv → Option (List (Int × List D))
  | .slot i, env => brdsS env[i]?
  | _, _ => none
def ixB (l : List (Int × List D)) (i : Int) : Option (Int × List D) := if 0 ≤ i then l[i.toNat]? else none
/-- boards[i] -/
def fIxB : FX
  | [o1, o2], env => (brdsOf o1 env).bind fun l => (gInt (peek o2 env)).bind fun i => (ixB l i).bind fun p => some (.brd p.1 p.2, env)
  | _, _ => none
theorem brds_at {W : Wd} {T0 : AS} {σ : L2.St} {H : Hp} {env : MEnv} {v : V} {R : AS → Prop} {o : Opd} {l : List (Int × List D)} (h : OpdK W T0 σ H env v R o) (Rl : Rel W T0 σ H env) (e : brdsOf o env = some l) : BrdsAt W.B (Tot T0 σ env) H v l := by
  cases o with
  | brd m g => cases e
  | dat d => cases e
  | new d => cases e
  | slot i =>
    have e' : brdsS env[i]? = some l := e
    unfold brdsS at e'
    split at e'
    · rename_i q
      cases e'
      exact slot_get Rl h.1 q
    · cases e'
theorem prim_ixB {W : Wd} {K : PySem.W.Frag} : Prim W (R2P (rIx K)) fIxB := by
  intro T0 σ H env vs os o env' Q ho e k
  unfold fIxB at e
  split at e
  · rename_i o1 o2
    obtain ⟨x, y, T1, rfl, s1, h1, h2, R1, R0⟩ := opds2 ho
    cases e1 : brdsOf o1 env with
    | none => simp [e1] at e
    | some l =>
      cases e2 : gInt (peek o2 env) with
      | none => simp [e1, e2] at e
      | some i =>
        cases e3 : ixB l i with
        | none => simp [e1, e2, e3] at e
        | some d =>
          simp [e1, e2, e3] at e
          obtain ⟨rfl, rfl⟩ := e
          have hy := at_int (peek_at h2 R1 (gInt_some e2))
          subst hy
          obtain ⟨p, xs, rfl, np, hp, hl, q⟩ := brds_at h1 R0 e1
          unfold ixB at e3
          split at e3
          · rename_i hi
            have hlt : i.toNat < xs.length := by
              rw [hl]
              exact (List.getElem?_eq_some_iff.mp e3).1
            have hx : xs[i.toNat]? = some xs[i.toNat] := List.getElem?_eq_getElem hlt
            have hb := q _ _ _ hx e3
            have ha : atI xs i = some xs[i.toNat] := by
              have := atI_nat hx
              rwa [Int.toNat_of_nonneg hi] at this
            exact ⟨_, _, rfl, .inl ⟨p, xs, i, _, rfl, rfl, SqL.of hp, ha, k _ H Keep.refl Osub.refl ⟨hb, R0⟩⟩⟩
          · cases e3
  · cases e
section
variable {W : Wd} {X : Cx} {a b : Expr} {ma mb : MX} {pos : Pos}
theorem pm_idxB (ha : PM W X a ma) (hb : PM W X b mb) (hs : PlainIx b := by intro _ _; rfl) : PM W X (.Subscript a b pos) (mPrim fIxB (mCons ma (mCons mb mNil))) := pm_ix ix_seq (fun _ => prim_ixB) ha hb hs
end
theorem rel_setbrds {W : Wd} {T0 : AS} {σ : L2.St} {H : Hp} {env : MEnv} {i : Nat} {v : V} {l : List (Int × List D)} (R : Rel W T0 σ H env) (hi : i < env.length) (hv : BrdsAt W.B (Tot T0 σ env) H v l) : Rel W T0 (σ.set i (some v)) H (env.set i (some (.brds l))) := by
  have his : i < σ.length := by rw [← R.len]; exact hi
  have f : ∀ j a, OwnAt (σ.set i (some v)) (env.set i (some (.brds l))) j a → OwnAt σ env j a := by
    rintro j a ⟨⟨l, d, e⟩, es⟩
    by_cases hj : j = i
    · subst hj
      rw [List.getElem?_set_self hi] at e
      cases e
    · rw [List.getElem?_set_ne (Ne.symm hj)] at e es
      exact ⟨⟨l, d, e⟩, es⟩
  have M : Move (Tot T0 σ env) (Tot T0 (σ.set i (some v)) (env.set i (some (.brds l)))) H H := Move.sub fun a z => z.elim .inl fun ⟨j, w⟩ => .inr ⟨j, f j a w⟩
  refine ⟨by rw [List.length_set, List.length_set]; exact R.len, R.dom, R.bdom, fun j s e => ?_, fun j k a hj hk => R.inj j k a (f j a hj) (f k a hk)⟩
  by_cases hj : j = i
  · subst hj
    rw [List.getElem?_set_self hi] at e
    cases e
    exact ⟨v, List.getElem?_set_self his, BrdsAt.move M hv⟩
  · rw [List.getElem?_set_ne (Ne.symm hj)] at e
    obtain ⟨v, ev, k⟩ := R.ok j s e
    refine ⟨v, by rw [List.getElem?_set_ne (Ne.symm hj)]; exact ev, ?_⟩
    cases s with
    | dat d => exact At.move M d v k
    | brd n gs => exact BrdAt.move M k
    | scr ns => exact ScrAt.move M k
    | brds l9 => exact BrdsAt.move M k
    | raw w => exact k
    | own l d =>
      obtain ⟨p1, rfl, c, n⟩ := k
      exact ⟨p1, rfl, c.move M (fun u w => w), n⟩
/-- x = [Board, Board] -/
def two2 : List Opd → Option (List (Int × List D))
  | [.brd n gs, .brd m hs] => some [(n, gs), (m, hs)]
  | _ => none
def mBrds (i : Nat) (m : MA) : MS := fun env => (m env).bind fun (os, env1) => (two2 os).bind fun l => if i < env1.length then some (.nx, env1.set i (some (.brds l))) else none
theorem pms_brds {W : Wd} {X : Cx} {es : List Expr} {m : MA} {i : Nat} {x : Str} {pos pos' lpos : Pos} (hN : X.N.Nodup) (hi : X.N[i]? = some x) (hx : Loc X.env.scope x) (hm : PMA W X es m) (hs : swapsWith (.List es lpos) (some (.Name x pos')) pos.line X.env = pure false := by rfl) (hf : X.fn x = true ∨ X.env.scope.names.lookup x = some .local := by first | exact .inl rfl | exact .inr rfl | assumption) :
    PMS W X (.Assign [.Name x pos'] (.List es lpos) pos) (mBrds i m) := ⟨fun B0 => PS.imp (ps_set hN hi hx (pe_lst (hm.pa B0)) hs hf) fun E σ H ⟨T0, env, f, env', R, e, k⟩ => by
  unfold mBrds at e
  cases e1 : m env with
  | none => simp [e1] at e
  | some z =>
    obtain ⟨os, env1⟩ := z
    cases e2 : two2 os with
    | none => simp [e1, e2] at e
    | some l =>
      simp only [e1, e2, Option.bind] at e
      split at e
      · rename_i hlt
        cases e
        unfold two2 at e2
        split at e2
        · rename_i n gs n' gs'
          cases e2
          refine ⟨T0, env, _, env1, R, e1, fun vs H1 k1 s1 ok => ?_⟩
          obtain ⟨u, v, T1, rfl, sT, h1, h2, R1, R0⟩ := opds2 ok
          refine ⟨show 2 ≤ sizeLine by rw [sizeLine_eq]; decide, fun p hp => ?_⟩
          have hT : T0 = T1 := h1.2
          subst hT
          have kp : Keep AS.emp H1 (upd H1 p (.lst [u, v])) := Keep.new hp
          have R2 := R0.grow kp
          have M : Move (Tot T0 σ env1) (Tot T0 σ env1) H1 (upd H1 p (.lst [u, v])) := Move.keep kp fun _ z => z.elim
          have B1 := BrdAt.move M h1.1
          have B2 := BrdAt.move M h2.1
          refine k _ _ ⟨fun a o z n q => ?_, fun j d q => ?_⟩ (rel_setbrds R2 hlt ⟨p, [u, v], rfl, R0.fresh hp, upd_same, rfl, fun j y z hy hz => ?_⟩)
          · exact kp a o (fun z => z) (k1 a o n q)
          · by_cases hj : j = i
            · subst hj
              rw [List.getElem?_set_self hlt] at q
              cases q
            · rw [List.getElem?_set_ne (Ne.symm hj)] at q
              refine ⟨by rw [List.getElem?_set_ne (Ne.symm hj)], ?_⟩
              exact s1 j false d q
          · match j, hy, hz with
            | 0, hy, hz => cases hy; cases hz; exact B1
            | 1, hy, hz => cases hy; cases hz; exact B2
            | j + 2, hy, hz => cases hy
        · cases e2
      · cases e⟩
theorem W_mBrds {i : Nat} {m : MA} {env : MEnv} {R : Fl × MEnv → Prop} : Mx.W (mBrds i m env) R = Mx.W (m env) fun p => Mx.W (two2 p.1) fun l => i < p.2.length ∧ Mx.W (some (Fl.nx, p.2.set i (some (.brds l)))) R := by
  unfold mBrds
  rw [W_bind]
  congr 1
  funext p
  obtain ⟨os, e⟩ := p
  rw [W_bind]
  congr 1
  funext l
  by_cases h : i < e.length
  · rw [if_pos h]
    exact propext ⟨fun q => ⟨h, q⟩, fun q => q.2⟩
  · rw [if_neg h]
    refine propext ⟨fun q => ?_, fun q => absurd q.1 h⟩
    obtain ⟨_, e, _⟩ := q
    cases e
end Mx

set_option Elab.async false
set_option autoImplicit false
set_option linter.all false
set_option maxRecDepth 100000
/-! Mx30: f(e) where f changes its argument and e is a new list that nobody sees behind the call; f gives a bool. -/
namespace Mx
open PySem PySem.Spec PyProof.Rows L2
open L2 (Inv)
theorem rel_drop {W : Wd} {T0 : AS} {σ : L2.St} {H H2 : Hp} {env : MEnv} {p : Addr} (R : Rel W (T0.or (.one p)) σ H env) (hk : Keep (.one p) H H2) (nT : ¬ Tot T0 σ env p) (nB : ¬ W.B0 p) : Rel W T0 σ H2 env := by
  have dm : ∀ a, a ≠ p → H a ≠ none → H2 a ≠ none := fun a n t z => by
    cases q : H a with
    | none => exact t q
    | some o =>
      have := hk a o n q
      rw [z] at this; cases this
  have M : Move (Tot (T0.or (.one p)) σ env) (Tot T0 σ env) H H2 := ⟨fun a o n e => ⟨hk a o (fun z => n (.inl (.inr z))) e, fun z => n (z.elim (fun y => .inl (.inl y)) .inr)⟩⟩
  refine ⟨R.len, fun a t => (R.dom a (.inl t)).keep fun o q => hk a o (fun z => nT (.inl (z ▸ t))) q, fun a t => dm a (fun z => nB (z ▸ t)) (R.bdom a t), fun i s e => ?_, R.inj⟩
  obtain ⟨v, ev, o⟩ := R.ok i s e
  refine ⟨v, ev, ?_⟩
  cases s with
  | dat d => exact At.move M d v o
  | brd n gs => exact BrdAt.move M o
  | scr ns => exact ScrAt.move M o
  | brds l9 => exact BrdsAt.move M o
  | raw v0 => exact o
  | own l d =>
    obtain ⟨q, rfl, c, n⟩ := o
    have hq : q ≠ p := fun z => nT (.inr ⟨i, ⟨l, d, e⟩, by rw [← z]; exact ev⟩)
    exact ⟨q, rfl, c.move M (fun o z => hk q o hq z), fun hl => ⟨fun z => (n hl).1 (.inl z), (n hl).2⟩⟩
def callN (F : Den) : Opd → Option D
  | .new d => (F [.own false d]).bind fun r => match r.1 with
    | .dat (.bool b) => some (.bool b)
    | _ => none
  | _ => none
def mCallN (F : Den) (me : MX) : MX := fun env => (me env).bind fun p => (callN F p.1).bind fun d => some (.dat d, p.2)
theorem pm_callN0 {W : Wd} {X : Cx} {f : Addr} {F : Den} {x : Str} {p pos : Pos} {e : Expr} {me : MX} (C : Callee X f (spF W.K W.B 1 F)) (hg : Gl X x) (hm : X.mg x = some (.ref f)) (hk : PySem.W.keepIn X.K (.ref f) = true) (he : PM W X e me)
    (hdb : (x == ("__debug__" : Str)) = false := by decide) (hs : starEach [e] X.env = (false, eval e X.env) :: starEach [] X.env := by rfl) (hpl : (backTo pos (starEach [] X.env)).any (·.1) = false := by rfl) :
    PM W X (.Call (.Name x p) [e] [] pos) (mCallN F me) := by
  refine ⟨fun B0 => PE.imp (pe_callee C hg hm hk (pa_cons he.pex pa_nil hs) hdb hs hpl) fun σ H Q ⟨T0, env, o, env', R, ee, k⟩ => ?_⟩
  unfold mCallN at ee
  cases e1 : me env with
  | none => simp [e1] at ee
  | some z =>
    obtain ⟨o1, env1⟩ := z
    cases e2 : callN F o1 with
    | none => simp [e1, e2] at ee
    | some d1 =>
      simp only [e1, e2, Option.bind, Option.some.injEq, Prod.mk.injEq] at ee
      obtain ⟨rfl, rfl⟩ := ee
      unfold callN at e2
      split at e2
      · rename_i d
        cases e3 : F [.own false d] with
        | none => simp [e3] at e2
        | some r =>
          obtain ⟨r, as⟩ := r
          simp only [e3, Option.bind] at e2
          split at e2
          · rename_i b
            obtain rfl := Option.some.inj e2
            refine ⟨fun a => B0 a ∨ (H a ≠ none ∧ ¬ Own σ env a), T0, env, _, env1, ?_, e1, fun v H1 k1 s1 o1' => ?_⟩
            · refine R.at' (B0 := fun a => B0 a ∨ (H a ≠ none ∧ ¬ Own σ env a)) (fun a z => ?_) (fun a z => ?_)
              · rcases z with z | z
                · exact R.bdom a z
                · exact z.1
              · rcases z with z | z
                · exact .inl z
                · exact .inr z.2
            obtain ⟨p, rfl, ⟨n1, n2⟩, c, R1⟩ := o1'
            have n2' : ¬ (B0 p ∨ (H p ≠ none ∧ ¬ Own σ env p)) := n2
            have kh : ∀ a o, ¬ Own σ env a → H a = some o → a ≠ p := fun a o n e z => by
              subst z
              exact n2' (.inr ⟨by rw [e]; exact fun y => (nomatch y), n⟩)
            have ow1 : ∀ {d' : D} {as : List Slot} {b : Addr}, Own [some (V.ref p)] [some (Slot.own false d')] b → b = p := by
              rintro d' as b ⟨i, _, es⟩
              match i, es with
              | 0, es => cases es; rfl
              | i + 1, es => cases es
            have sub : ∀ b, Tot (Tot T0 σ env1) [some (V.ref p)] [some (Slot.own false d)] b → Tot (T0.or (.one p)) σ env1 b := fun b z => by
              rcases z with (z | z) | z
              · exact .inl (.inl z)
              · exact .inr z
              · exact .inl (.inr (ow1 (as := []) z))
            have hp1 : H1 p ≠ none := c.there
            refine ⟨Tot T0 σ env1, [.own false d], _, as, ⟨rfl, fun a z => R1.totMu (z.elim (fun y => .inl (.inl y)) .inr), fun a z => z, fun j s ej => ?_, fun i j a hi hj => ?_⟩, rfl, e3, fun v' H2 k2 s2 o2 => ?_⟩
            · match j, ej with
              | 0, ej =>
                cases ej
                exact ⟨_, rfl, p, rfl, c.move (Move.sub sub) fun _ z => z, fun z => nomatch z⟩
              | j + 1, ej => cases ej
            · have a1 : i = 0 := by
                obtain ⟨_, es⟩ := hi
                match i, es with
                | 0, es => rfl
                | i + 1, es => cases es
              have a2 : j = 0 := by
                obtain ⟨_, es⟩ := hj
                match j, es with
                | 0, es => rfl
                | i + 1, es => cases es
              rw [a1, a2]
            · obtain ⟨hv, _⟩ := o2
              cases hv
              have k2' : Keep (.one p) H1 H2 := k2.sub fun b z => ow1 (as := []) z
              have R2 := rel_drop R1 k2' n1 n2
              have R3 : Rel (W.at B0) T0 σ H2 env1 := R2.at' (B0 := B0) (fun a z => R2.bdom a (.inl z)) fun a z => .inl (.inl z)
              exact k _ H2 (fun a o n e => k2' a o (kh a o n e) (k1 a o n e)) s1 ⟨.bl b, R3⟩
          · cases e2
      · cases e2
theorem pm_callN {W : Wd} {X : Cx} {k : Nat} {F : Den} {x : Str} {ps : List Str} {p pos : Pos} {e : Expr} {me : MX} (c : Kn X.prog X.w X.K X.mg X.base k x ps (spF W.K W.B 1 F)) (hr : Room k X.A) (hg : Gl X x) (he : PM W X e me)
    (hdb : (x == ("__debug__" : Str)) = false := by decide) (hs : starEach [e] X.env = (false, eval e X.env) :: starEach [] X.env := by rfl) (hpl : (backTo pos (starEach [] X.env)).any (·.1) = false := by rfl) : PM W X (.Call (.Name x p) [e] [] pos) (mCallN F me) := by
  obtain ⟨f, fd, a, b, c, d⟩ := c.ex
  exact pm_callN0 (callee_of a hr b) hg c d he hdb hs hpl
theorem pm_callNG {W : Wd} {X : Cx} {k : Nat} {F : Den} {x : Str} {ps : List Str} {p pos : Pos} {e : Expr} {me : MX} (c : KnG X.prog X.w X.K X.mg X.base k x ps (spF W.K W.B 1 F)) (q : Quiet X) (hr : Room k X.A) (hg : Gl X x) (he : PM W X e me)
    (hdb : (x == ("__debug__" : Str)) = false := by decide) (hs : starEach [e] X.env = (false, eval e X.env) :: starEach [] X.env := by rfl) (hpl : (backTo pos (starEach [] X.env)).any (·.1) = false := by rfl) : PM W X (.Call (.Name x p) [e] [] pos) (mCallN F me) := by
  obtain ⟨f, fd, a, b, c, d⟩ := c.ex
  exact pm_callN0 (calleeG a q hr b) hg c d he hdb hs hpl
theorem W_mCallN {F : Den} {me : MX} {env : MEnv} {R : Opd × MEnv → Prop} : Mx.W (mCallN F me env) R = Mx.W (me env) fun p => Mx.W (callN F p.1) fun d => R (.dat d, p.2) := by
  unfold mCallN
  rw [W_bind]
  congr 1
  funext p
  rw [W_bind]
  congr 1
  funext d
  exact W_some
theorem callN_eq {F : Den} {d : D} {b : Bool} {as : List Slot} (h : F [.own false d] = some (.dat (.bool b), as)) : callN F (.new d) = some (.bool b) := by
  simp only [callN, h, Option.bind]
/-! ### x is not True -/
def gNotB : List D → Option D
  | [.bool x, .bool y] => some (.bool (!decide (x = y)))
  | _ => none
theorem prim_notB {W : Wd} : Prim W (R2P (fun x y H Q => ∃ a b, x = .bl a ∧ y = .bl b ∧ Q (.bl (!decide (a = b))) H)) (fPure gNotB) := prim_pure fun vs H ds d v Q l e ev q => by
  unfold gNotB at e
  split at e
  · rename_i x y
    obtain ⟨u, w, rfl, hx, hy⟩ := atl2 l
    cases e
    cases ev
    exact ⟨_, _, rfl, x, y, at_bl hx, at_bl hy, q⟩
  · cases e
theorem pm_notB {W : Wd} {X : Cx} {a b : Expr} {ma mb : MX} {pos : Pos} (ha : PM W X a ma) (hb : PM W X b mb) : PM W X (.Compare a [.IsNot] [b] pos) (mPrim (fPure gNotB) (mCons ma (mCons mb mNil))) := pm_cmp op_isnot_bl (fun _ => prim_notB) ha hb (nomark _)
end Mx

set_option Elab.async false
set_option autoImplicit false
set_option linter.all false
set_option maxRecDepth 100000
/-! Mx31: a list's truth. -/
namespace Mx
open PySem PySem.Spec PyProof.Rows L2
open L2 (Inv)
def gTruL : Option D → Option Bool
  | some (.list ds) => some (!ds.isEmpty)
  | _ => none
def mTrL (m : MX) : MT := fun env => (m env).bind fun p => (gTruL (peek p.1 p.2)).bind fun b => some (b, p.2)
theorem pmt_valL {W : Wd} {X : Cx} {a : Expr} {ma : MX} (h : PM W X a ma) (he : ∀ whole, isTrue a X.env whole = (do let v ← whole; standAt a.pos; holding [v] (truthy v)) := by intro _; rfl) : PMT W X a (mTrL ma) :=
  ⟨fun B0 => PT.imp (pt_truth (h.pe B0) he) fun σ H Q ⟨T0, env, b, env', R, e, k⟩ => by
    unfold mTrL at e
    cases e1 : ma env with
    | none => simp [e1] at e
    | some z =>
      obtain ⟨o, env1⟩ := z
      cases e2 : gTruL (peek o env1) with
      | none => simp [e1, e2] at e
      | some b' =>
        simp [e1, e2] at e
        obtain ⟨rfl, rfl⟩ := e
        refine ⟨T0, env, o, env1, R, e1, fun v H1 k1 s1 o1 => ?_⟩
        obtain ⟨T1, R1, sub, _⟩ := opdK_rel o1
        have R0 := R1.less sub
        unfold gTruL at e2
        split at e2
        · rename_i ds q
          cases e2
          obtain ⟨p, xs, rfl, hp, l⟩ := peek_list o1 R0 q
          refine ⟨_, .inl ⟨xs, SqL.of hp, rfl⟩, ?_⟩
          have : xs.isEmpty = ds.isEmpty := by
            have := l.length
            cases xs <;> cases ds <;> simp_all
          rw [this]
          exact k H1 k1 s1 R0
        · cases e2⟩
theorem W_mTrL {m : MX} {env : MEnv} {R : Bool × MEnv → Prop} : Mx.W (mTrL m env) R = Mx.W (m env) fun p => Mx.W (gTruL (peek p.1 p.2)) fun b => R (b, p.2) := by
  unfold mTrL
  rw [W_bind]
  congr 1
  funext p
  rw [W_bind]
  congr 1
  funext d
  exact W_some
end Mx

set_option Elab.async false
set_option autoImplicit false
set_option linter.all false
set_option maxRecDepth 100000
/-! Mx32: board == board by the class's own ==, whatever it answers. -/
namespace Mx
open PySem PySem.Spec PyProof.Rows L2
open L2 (Inv)
/-- two objects of C; what the own == promises of them -/
def rOwnEq (C : Addr) (sp : Sp) : R2 := fun x y H Q => (∃ a b dx dy fs gs, x = .ref a ∧ y = .ref b ∧ H a = some (.ins C dx fs) ∧ H b = some (.ins C dy gs)) ∧ sp [x, y] H (fun v H' => (∃ r, v = .bl r) ∧ Q v H') E0
theorem op_ownEq {X : Cx} {k : Nat} {C f : Addr} {fd : FuncData} {ps : List Str} {sp : Sp} (F : FnOk X.prog X.w X.K X.mg X.base CX0 k f fd ps sp) (hr : Room k X.A)
    (hs : PySem.W.findIn X.K (.ref C) "__eq__" = some (some (.ref f))) (hf : PySem.W.isFn X.K (.ref f) = true) (hb : Binds X.K fd ps []) : OpR X (compareOp .Eq) (rOwnEq C sp) := by
  intro pins s σ H x y v u Q I rx ry hq
  obtain ⟨⟨a, b, dx, dy, fs, gs, rfl, rfl, ha, hb'⟩, hsp⟩ := hq
  cases rx
  cases ry
  obtain ⟨mA, J, _⟩ := ins_get I.hok ha
  obtain ⟨mB, J', _⟩ := ins_get I.hok hb'
  obtain ⟨od, J, _⟩ := J.look
  obtain ⟨od', J', _⟩ := J'.look
  obtain ⟨m, hF⟩ := I.fr
  show wpAny (model X.prog X.w) X.A (richCompare .Eq (.ref a) (.ref b)) (EP X pins σ Q) X.xe s
  refine PySem.W.cmp_K (op := .Eq) (tb := .ref C) hr.units0 hF I.ok.mod.kin J J'.type (by simp [PySem.W.notFirst]) hs hf ?_
  have hl := F.len _ _ _ _ hsp
  have r2 : Vals [V.ref a, V.ref b] [Value.ref a, Value.ref b] := .cons rfl (.cons rfl .nil)
  refine wpAny_call (codeAny_mono (F.run X.A X.stack s H ⟨[.ref a, .ref b], []⟩ [.ref a, .ref b] [.ref a, .ref b] _ E0 hr I.env0 (by
    have := hb s [.ref a, .ref b] I.kIn (by simpa using hl)
    simpa using this) r2 hsp) fun r s' hq => ?_)
  cases r with
  | error e => exact False.elim hq
  | ok fl =>
    cases fl with
    | ret w =>
      obtain ⟨z, H', I', rz, ⟨r, rfl⟩, q⟩ := I.after hq
      cases rz
      exact ⟨.bl r, H', I', rfl, q⟩
    | next => exact False.elim hq
    | brk => exact False.elim hq
    | cont => exact False.elim hq
def fEqBB (D : Den) : FX
  | [o1, o2], env => (brdOf o1 env).bind fun x => (brdOf o2 env).bind fun y => (D [.brd x.1 x.2, .brd y.1 y.2]).bind fun r => match r with
    | (.dat (.bool b), _) => some (.dat (.bool b), env)
    | _ => none
  | _, _ => none
theorem prim_eqBB {W : Wd} {D : Den} : Prim W (R2P (rOwnEq W.B (spF W.K W.B 2 D))) (fEqBB D) := by
  intro T0 σ H env vs os o env' Q ho e k
  unfold fEqBB at e
  split at e
  · rename_i o1 o2
    obtain ⟨x, y, T1, rfl, _, h1, h2, R1, R0⟩ := opds2 ho
    cases e1 : brdOf o1 env with
    | none => simp [e1] at e
    | some u =>
      obtain ⟨n, gs⟩ := u
      cases e2 : brdOf o2 env with
      | none => simp [e1, e2] at e
      | some u =>
        obtain ⟨m, hs⟩ := u
        cases e3 : D [.brd n gs, .brd m hs] with
        | none => simp [e1, e2, e3] at e
        | some r =>
          obtain ⟨r, as⟩ := r
          simp only [e1, e2, e3, Option.bind] at e
          split at e
          · rename_i bb as' q
            cases q
            cases e
            have B1 := (brd_at h1 R0 e1).bare
            have B2 := (brd_at h2 R1 e2).bare
            obtain ⟨a, dx, g, xs, rfl, n1, n2, p1, p2, l⟩ := id B1
            obtain ⟨b, dy, g', ys, rfl, n1', n2', p1', p2', l'⟩ := id B2
            refine ⟨_, _, rfl, ⟨a, b, dx, dy, _, _, rfl, rfl, p1, p1'⟩, AS.emp, [.brd n gs, .brd m hs], _, as, ⟨rfl, fun _ z => z.elim, fun b z => z, fun j s ej => ?_, fun i j b z => absurd ⟨i, z⟩ own_brd2⟩, rfl, e3, fun v H2 k2 s2 o2 => ?_⟩
            · have M : ∀ {σ : L2.St}, Move AS.emp (Tot AS.emp σ [some (.brd n gs), some (.brd m hs)]) H H := Move.sub fun b z => z.elim (fun q => q) fun q => absurd q own_brd2
              match j, ej with
              | 0, ej => cases ej; exact ⟨_, rfl, BrdAt.move M B1⟩
              | 1, ej => cases ej; exact ⟨_, rfl, BrdAt.move M B2⟩
              | j + 2, ej => cases ej
            · obtain ⟨hv, _⟩ := o2
              cases hv
              have k2' : Keep AS.emp H H2 := fun c o z e => k2 c o (fun z => absurd z own_brd2) e
              exact ⟨⟨_, rfl⟩, k _ H2 (k2'.sub fun _ z => z.elim) Osub.refl ⟨.bl _, R0.grow k2'⟩⟩
          · cases e
  · cases e
theorem pm_eqBB {W : Wd} {X : Cx} {k : Nat} {a b : Expr} {ma mb : MX} {pos : Pos} {f : Addr} {fd : FuncData} {D : Den} (hK : X.K = W.K) (F : FnOk X.prog X.w X.K X.mg X.base CX0 k f fd ["self", "other"] (spF W.K W.B 2 D)) (hb : Binds X.K fd ["self", "other"] [])
    (h1 : PySem.W.findIn X.K (.ref W.B) "__eq__" = some (some (.ref f))) (h2 : PySem.W.isFn X.K (.ref f) = true) (hr : Room k X.A) (ha : PM W X a ma) (hbm : PM W X b mb) (hm : behindInMarks .Eq b = false) : PM W X (.Compare a [.Eq] [b] pos) (mPrim (fEqBB D) (mCons ma (mCons mb mNil))) :=
  pm_cmp (op_ownEq F hr h1 h2 hb) (fun _ => prim_eqBB) ha hbm hm
end Mx

set_option Elab.async false
set_option autoImplicit false
set_option linter.all false
set_option maxRecDepth 100000
/-! Mx33: board != board: object's own != turns the class's own == round. -/
namespace Mx
open PySem PySem.Spec PyProof.Rows L2
open L2 (Inv)
section
variable {prog : Program} {w : World} {A : Around} {E : Value → Shared → Prop} {s : Shared} {K : PySem.W.Frag} {x C f L : Addr} {ox : Obj} {od : Option Obj} {y tb : Value}
theorem ne_entry (hu : A.units < cLine) (X : K.In s.heap) (I : PySem.W.InstAt s.heap x ox C od) (hs : PySem.W.findIn K (.ref C) "__eq__" = some (some (.ref f))) (hf : PySem.W.isFn K (.ref f) = true) {Q : Fin → Shared → Prop}
    (h : wpAny (model prog w) A (call (.ref f) [.ref x, y]) (fun v s' => ∃ b, v = .bool b ∧ Q (.done (.ret (.bool (!b)))) s') E s) :
    wpAny (model prog w) A (Builtin.«object.__ne__» ⟨[.ref x, y], []⟩) Q E s := by
  unfold Builtin.«object.__ne__»
  repeat (first
    | with_reducible refine wpAny_cRoomFor hu ?_
    | (refine wpAny_bind (m := callSpecialIfBound? (.ref x) (Str.ofString "__eq__") [y])
        (PySem.W.ifBound_K X I hs hf (wpAny_mono h (fun r s' hr => by
          obtain ⟨b, rfl, hq⟩ := hr
          repeat (first | exact hq | exact wpAny_pure hq | exact wpAny_truthy_bool hq | (refine wpAny_bind (m := truthy (.bool _)) (wpAny_truthy_bool ?_)) | wp_step)) fun _ _ e => e)))
    | wp_step)
theorem ifBound_objNe {M : Model} {args : List Value} {Q : Option Value → Shared → Prop} (X : K.In s.heap) (I : PySem.W.InstAt s.heap x ox C od) (hs : PySem.W.findIn K (.ref C) "__ne__" = some (some (.builtin "object.__ne__")))
    (h : wpAny M A (call (.builtin "object.__ne__") (.ref x :: args)) (fun v => Q (some v)) E s) : wpAny M A (callSpecialIfBound? (.ref x) "__ne__" args) Q E s := by
  simp only [callSpecialIfBound?, bindSpecialIfBound?]
  refine wpAny_holding (wpAny_bind (wpAny_bind (wpAny_bind (I.type.here ((PySem.W.looks_findIn X hs).here ?_)))))
  refine wpAny_bind (wpAny_askSetting (wpAny_ite ?_))
  have fin : wpAny M A (call (.builtin "object.__ne__") ([.ref x] ++ args) >>= fun v => pure (some v)) Q E s := wpAny_bind (wpAny_mono h (fun v s' h' => wpAny_pure h') fun _ _ h' => h')
  split
  · exact wpAny_bind (wpAny_of_eq (F.cmp_object.ne.bind _) (wpAny_pure (by exact fin)))
  · exact wpAny_tryCatch (wpAny_bind (wpAny_of_eq (F.cmp_object.ne.bind _) (wpAny_pure (by exact fin))))
theorem ne_K {Q : Value → Shared → Prop} (hu : A.units + 1 < cLine) (X : K.In s.heap) (I : PySem.W.InstAt s.heap x ox C od) (hb : PySem.W.Looks (model prog w) s.heap (typeOf y) tb) (hn : PySem.W.notFirst K C tb = true)
    (hm : PySem.W.mroIn K C (.type "object") = some true) (hne : PySem.W.findIn K (.ref C) "__ne__" = some (some (.builtin "object.__ne__")))
    (hs : PySem.W.findIn K (.ref C) "__eq__" = some (some (.ref f))) (hf : PySem.W.isFn K (.ref f) = true)
    (h : wpAny (model prog w) A.in1 (call (.ref f) [.ref x, y]) (fun v s' => ∃ b, v = .bool b ∧ Q (.bool (!b)) s') E s) : wpAny (model prog w) A (richCompare .NotEq (.ref x) y) Q E s := by
  have hu1 : A.in1.units < cLine := by show A.units + 1 < cLine; exact hu
  have one : wpAny (model prog w) A (tryCompare (.ref x) "__ne__" y) (fun r s' => ∃ v, r = some v ∧ Q v s') E s := by
    unfold tryCompare
    refine wpAny_bind (ifBound_objNe X I hne (wpAny_call (codeAny_call_builtin F.cmp_object.ne.plain F.cmpEntry_ne (PySem.W.check_slot F.cmpKind_ne F.cmpSplit_ne (I.type.andThen (PySem.W.looks_mroIn X hm)) (F.cmpArgs_ne _ _) (ne_entry hu1 X I hs hf (wpAny_mono h (fun v s' hv => ?_) fun _ _ e => e))))))
    obtain ⟨b, rfl, hq⟩ := hv
    exact ⟨b, rfl, wpAny_pure ⟨_, rfl, hq⟩⟩
  unfold richCompare
  simp only [oneThing_ref]
  refine wpAny_holding (wpAny_bind (wpAny_cRoomFor (Nat.lt_of_succ_lt hu) ?_))
  refine wpAny_bind (I.type.here (wpAny_bind (hb.here ?_)))
  split
  · rename_i q
    have e : PySem.W.subIn K tb (.ref C) = some false := by
      rcases Bool.or_eq_true_iff.mp hn with e | e
      · rw [beq_iff_eq.mp e] at q; simp at q
      · exact beq_iff_eq.mp e
    refine wpAny_bind ((PySem.W.looks_subIn X e).here ?_)
    simp only [Bool.false_eq_true, if_false]
    refine wpAny_bind (wpAny_mono one (fun r s' z => ?_) fun _ _ e => e)
    obtain ⟨v, rfl, hq⟩ := z
    exact wpAny_pure hq
  · refine wpAny_bind (wpAny_pure ?_)
    simp only [Bool.false_eq_true, if_false]
    refine wpAny_bind (wpAny_mono one (fun r s' z => ?_) fun _ _ e => e)
    obtain ⟨v, rfl, hq⟩ := z
    exact wpAny_pure hq
end
/-- x != y of two objects of C -/
def rOwnNe (C : Addr) (sp : Sp) : R2 := fun x y H Q => (∃ a b dx dy fs gs, x = .ref a ∧ y = .ref b ∧ H a = some (.ins C dx fs) ∧ H b = some (.ins C dy gs)) ∧ sp [x, y] H (fun v H' => ∃ r, v = .bl r ∧ Q (.bl (!r)) H') E0
theorem op_ownNe {X : Cx} {k : Nat} {C f : Addr} {fd : FuncData} {ps : List Str} {sp : Sp} (F : FnOk X.prog X.w X.K X.mg X.base CX0 k f fd ps sp) (hr : Room (k + 1) X.A)
    (hm : PySem.W.mroIn X.K C (.type "object") = some true) (hne : PySem.W.findIn X.K (.ref C) "__ne__" = some (some (.builtin "object.__ne__")))
    (hs : PySem.W.findIn X.K (.ref C) "__eq__" = some (some (.ref f))) (hf : PySem.W.isFn X.K (.ref f) = true) (hb : Binds X.K fd ps []) : OpR X (compareOp .NotEq) (rOwnNe C sp) := by
  intro pins s σ H x y v u Q I rx ry hq
  obtain ⟨⟨a, b, dx, dy, fs, gs, rfl, rfl, ha, hb'⟩, hsp⟩ := hq
  cases rx
  cases ry
  obtain ⟨mA, J, _⟩ := ins_get I.hok ha
  obtain ⟨mB, J', _⟩ := ins_get I.hok hb'
  obtain ⟨od, J, _⟩ := J.look
  obtain ⟨od', J', _⟩ := J'.look
  show wpAny (model X.prog X.w) X.A (richCompare .NotEq (.ref a) (.ref b)) (EP X pins σ Q) X.xe s
  have hr1 := hr.in1
  refine ne_K (tb := .ref C) hr1.units0 I.kIn J J'.type (by simp [PySem.W.notFirst]) hm hne hs hf ?_
  have hl := F.len _ _ _ _ hsp
  have r2 : Vals [V.ref a, V.ref b] [Value.ref a, Value.ref b] := .cons rfl (.cons rfl .nil)
  refine wpAny_call (codeAny_mono (F.run X.A.in1 X.stack s H ⟨[.ref a, .ref b], []⟩ [.ref a, .ref b] [.ref a, .ref b] _ E0 hr1 I.env0.in1 (by
    have := hb s [.ref a, .ref b] I.kIn (by simpa using hl)
    simpa using this) r2 hsp) fun r s' hq => ?_)
  cases r with
  | error e => exact False.elim hq
  | ok fl =>
    cases fl with
    | ret w =>
      obtain ⟨z, H', I', rz, r, rfl, q⟩ := I.after hq
      cases rz
      exact ⟨r, rfl, .bl (!r), H', I', rfl, q⟩
    | next => exact False.elim hq
    | brk => exact False.elim hq
    | cont => exact False.elim hq
end Mx

set_option Elab.async false
set_option autoImplicit false
set_option linter.all false
set_option maxRecDepth 100000
/-! Mx34: board == x, board != x, where x is any value whose type is known. -/
namespace Mx
open PySem PySem.Spec PyProof.Rows L2
open L2 (Inv)
section
variable {X : Cx} {pins : List (Addr × Obj)} {σ : L2.St} {H : Hp} {s : Shared}
theorem looks_ty {x : V} {u t : Value} (I : Inv X pins σ H s) (rx : RelV x u) (ty : TyOf X.K H x t) : PySem.W.Looks (model X.prog X.w) s.heap (typeOf u) t := by
  cases ty with
  | non => cases (show u = Value.none from rx); exact PySem.W.Looks.of_pure rfl
  | bl y => cases (show u = Value.bool y from rx); exact PySem.W.Looks.of_pure rfl
  | int i => obtain ⟨t, q⟩ := (show ∃ t, u = Value.int i t from rx); cases q; exact PySem.W.Looks.of_pure rfl
  | str y => obtain ⟨t, q⟩ := (show ∃ t, u = Value.str y t from rx); cases q; exact PySem.W.Looks.of_pure rfl
  | flt y => obtain ⟨t, q⟩ := (show ∃ t, u = Value.float y t from rx); cases q; exact PySem.W.Looks.of_pure rfl
  | @lst a xs ea =>
    cases (show u = Value.ref a from rx)
    obtain ⟨_, _, n, _, h1⟩ := (show ObjOk X.prog X.w H s.heap a (.lst xs) from I.hok a _ ea)
    exact (PySem.W.Looks.ld h1).andThen .now
  | @frz a ob xs ea =>
    cases (show u = Value.ref a from rx)
    obtain ⟨_, _, _, n, _, h1⟩ := (show ObjOk X.prog X.w H s.heap a (.frz ob (.lst xs)) from I.hok a _ ea)
    exact (PySem.W.Looks.ld h1).andThen .now
  | @tup a xs ea =>
    cases (show u = Value.ref a from rx)
    obtain ⟨_, _, _, o, h1, h2, _⟩ := (show ObjOk X.prog X.w H s.heap a (.tup xs) from I.hok a _ ea)
    exact fun A Q E s k q => wpAny_typeOf_ref (k _ _ h1) (by rw [h2]; exact q)
  | @dK a kvs ea =>
    cases (show u = Value.ref a from rx)
    obtain ⟨_, _, vs, _, o, es, ep, h1, h2, _⟩ := (show ObjOk X.prog X.w H s.heap a (.dK kvs) from I.hok a _ ea)
    exact fun A Q E s k q => wpAny_typeOf_ref (k _ _ h1) (by rw [h2.1]; exact q)
  | @dT a kvs ea =>
    cases (show u = Value.ref a from rx)
    obtain ⟨_, _, xs, _, o, es, ep, h1, h2, _⟩ := (show ObjOk X.prog X.w H s.heap a (.dT kvs) from I.hok a _ ea)
    exact fun A Q E s k q => wpAny_typeOf_ref (k _ _ h1) (by rw [h2.1]; exact q)
  | @ins a C dx fs ea cl ha hn htk hm =>
    cases (show u = Value.ref a from rx)
    obtain ⟨mA, O, _⟩ := ins_get I.hok ea
    obtain ⟨od, J, _⟩ := O.look
    exact J.type
end
/-- an object of C, any value; what the own == promises of them -/
def rOwnEqT (K : PySem.W.Frag) (C : Addr) (sp : Sp) : R2 := fun x y H Q => (∃ a dx fs t, x = .ref a ∧ H a = some (.ins C dx fs) ∧ TyOf K H y t ∧ PySem.W.notFirst K C t = true) ∧ sp [x, y] H (fun v H' => ∃ r, v = .bl r ∧ Q (.bl r) H') E0
def rOwnNeT (K : PySem.W.Frag) (C : Addr) (sp : Sp) : R2 := fun x y H Q => (∃ a dx fs t, x = .ref a ∧ H a = some (.ins C dx fs) ∧ TyOf K H y t ∧ PySem.W.notFirst K C t = true) ∧ sp [x, y] H (fun v H' => ∃ r, v = .bl r ∧ Q (.bl (!r)) H') E0
theorem op_ownEqT {X : Cx} {k : Nat} {C f : Addr} {fd : FuncData} {ps : List Str} {sp : Sp} (F : FnOk X.prog X.w X.K X.mg X.base CX0 k f fd ps sp) (hr : Room k X.A)
    (hs : PySem.W.findIn X.K (.ref C) "__eq__" = some (some (.ref f))) (hf : PySem.W.isFn X.K (.ref f) = true) (hb : Binds X.K fd ps []) : OpR X (compareOp .Eq) (rOwnEqT X.K C sp) := by
  intro pins s σ H x y v u Q I rx ry hq
  obtain ⟨⟨a, dx, fs, t, rfl, ha, ty, nf⟩, hsp⟩ := hq
  cases rx
  obtain ⟨mA, J, _⟩ := ins_get I.hok ha
  obtain ⟨od, J, _⟩ := J.look
  obtain ⟨m, hF⟩ := I.fr
  show wpAny (model X.prog X.w) X.A (richCompare .Eq (.ref a) u) (EP X pins σ Q) X.xe s
  refine PySem.W.cmp_K (op := .Eq) (tb := t) hr.units0 hF I.ok.mod.kin J (looks_ty I ry ty) nf hs hf ?_
  have hl := F.len _ _ _ _ hsp
  have r2 : Vals [V.ref a, y] [Value.ref a, u] := .cons rfl (.cons ry .nil)
  refine wpAny_call (codeAny_mono (F.run X.A X.stack s H ⟨[.ref a, u], []⟩ [.ref a, u] [.ref a, y] _ E0 hr I.env0 (by
    have := hb s [.ref a, u] I.kIn (by simpa using hl)
    simpa using this) r2 hsp) fun r s' hq => ?_)
  cases r with
  | error e => exact False.elim hq
  | ok fl =>
    cases fl with
    | ret w =>
      obtain ⟨z, H', I', rz, r, rfl, q⟩ := I.after hq
      cases rz
      exact ⟨.bl r, H', I', rfl, q⟩
    | next => exact False.elim hq
    | brk => exact False.elim hq
    | cont => exact False.elim hq
theorem op_ownNeT {X : Cx} {k : Nat} {C f : Addr} {fd : FuncData} {ps : List Str} {sp : Sp} (F : FnOk X.prog X.w X.K X.mg X.base CX0 k f fd ps sp) (hr : Room (k + 1) X.A)
    (hm : PySem.W.mroIn X.K C (.type "object") = some true) (hne : PySem.W.findIn X.K (.ref C) "__ne__" = some (some (.builtin "object.__ne__")))
    (hs : PySem.W.findIn X.K (.ref C) "__eq__" = some (some (.ref f))) (hf : PySem.W.isFn X.K (.ref f) = true) (hb : Binds X.K fd ps []) : OpR X (compareOp .NotEq) (rOwnNeT X.K C sp) := by
  intro pins s σ H x y v u Q I rx ry hq
  obtain ⟨⟨a, dx, fs, t, rfl, ha, ty, nf⟩, hsp⟩ := hq
  cases rx
  obtain ⟨mA, J, _⟩ := ins_get I.hok ha
  obtain ⟨od, J, _⟩ := J.look
  show wpAny (model X.prog X.w) X.A (richCompare .NotEq (.ref a) u) (EP X pins σ Q) X.xe s
  have hr1 := hr.in1
  refine ne_K (tb := t) hr1.units0 I.kIn J (looks_ty I ry ty) nf hm hne hs hf ?_
  have hl := F.len _ _ _ _ hsp
  have r2 : Vals [V.ref a, y] [Value.ref a, u] := .cons rfl (.cons ry .nil)
  refine wpAny_call (codeAny_mono (F.run X.A.in1 X.stack s H ⟨[.ref a, u], []⟩ [.ref a, u] [.ref a, y] _ E0 hr1 I.env0.in1 (by
    have := hb s [.ref a, u] I.kIn (by simpa using hl)
    simpa using this) r2 hsp) fun r s' hq => ?_)
  cases r with
  | error e => exact False.elim hq
  | ok fl =>
    cases fl with
    | ret w =>
      obtain ⟨z, H', I', rz, r, rfl, q⟩ := I.after hq
      cases rz
      exact ⟨r, rfl, .bl (!r), H', I', rfl, q⟩
    | next => exact False.elim hq
    | brk => exact False.elim hq
    | cont => exact False.elim hq
end Mx

set_option Elab.async false
set_option autoImplicit false
set_option linter.all false
set_option maxRecDepth 100000
/-! Mx35: f(..).append(x): a new list that nobody keeps is changed. -/
namespace Mx
open PySem PySem.Spec PyProof.Rows L2
open L2 (Inv)
def newL : Opd → Option (List D)
  | .new (.list ds) => if ds.length < 16777216 then some ds else none
  | _ => none
def mAppN (mo me : MX) : MS := fun env => (mo env).bind fun p => (newL p.1).bind fun _ => (me p.2).bind fun q => (toDat q.1 q.2).bind fun r => some (.nx, r.2)
theorem pms_appN {W : Wd} {X : Cx} {o e : Expr} {mo me : MX} {apos cpos pos : Pos} (ho : PM W X o mo) (he : PM W X e me) (hpe : ∀ {to : TE} {t : TA}, PE X o to → PA X [e] t → PE X (.Call (.Attribute o "append" apos) [e] [] cpos) (tBM X.K "list" rAppend to t))
    (hse : starEach [e] X.env = (false, eval e X.env) :: starEach [] X.env := by rfl) (hs : swapsWith (.Call (.Attribute o "append" apos) [e] [] cpos) none pos.line X.env = pure false := by rfl) : PMS W X (.Expr (.Call (.Attribute o "append" apos) [e] [] cpos) pos) (mAppN mo me) :=
  ⟨fun B0 => PS.imp (ps_expr (hpe ho.pex (pma_cons he pma_nil hse).pax) hs) fun E σ H ⟨T0, env, f, env', R, e, k⟩ => by
    unfold mAppN at e
    cases e1 : mo env with
    | none => simp [e1] at e
    | some z =>
      obtain ⟨o1, env1⟩ := z
      cases e2 : newL o1 with
      | none => simp [e1, e2] at e
      | some ds =>
        cases e3 : me env1 with
        | none => simp [e1, e2, e3] at e
        | some z2 =>
          obtain ⟨o2, env2⟩ := z2
          cases e4 : toDat o2 env2 with
          | none => simp [e1, e2, e3, e4] at e
          | some z3 =>
            obtain ⟨d, env3⟩ := z3
            simp only [e1, e2, e3, e4, Option.bind, Option.some.injEq, Prod.mk.injEq] at e
            obtain ⟨rfl, rfl⟩ := e
            unfold newL at e2
            split at e2
            · rename_i ds'
              split at e2
              · rename_i hl
                obtain rfl := Option.some.inj e2
                refine ⟨fun a => B0 a ∨ (H a ≠ none ∧ ¬ Own σ env a), T0, env, _, env1, ?_, e1, fun x H1 k1 s1 o1' => ?_⟩
                · refine R.at' (B0 := fun a => B0 a ∨ (H a ≠ none ∧ ¬ Own σ env a)) (fun a z => ?_) (fun a z => ?_)
                  · rcases z with z | z
                    · exact R.bdom a z
                    · exact z.1
                  · rcases z with z | z
                    · exact .inl z
                    · exact .inr z.2
                obtain ⟨p, rfl, ⟨n1, n2⟩, ⟨xs, hp, la⟩, R1⟩ := o1'
                have n2' : ¬ (B0 p ∨ (H p ≠ none ∧ ¬ Own σ env p)) := n2
                have kh : ∀ a o, ¬ Own σ env a → H a = some o → a ≠ p := fun a o n e z => by
                  subst z
                  exact n2' (.inr ⟨by rw [e]; exact fun y => (nomatch y), n⟩)
                refine ⟨.inl ⟨rfl, xs, SqL.of hp⟩, fun a => B0 a ∨ (H a ≠ none ∧ ¬ Own σ env a), T0.or (.one p), env1, [o2], env2, R1, by simp [mCons, mNil, e3], fun vs H2 k2 s2 o2' => ?_⟩
                obtain ⟨y, rfl, h2', R2⟩ := opds1 o2'
                obtain ⟨R3, s3⟩ := toDat_rel R2 e4
                have hp2 : H2 p = some (.lst xs) := k2 p _ (fun z => n1 (.inr z)) hp
                refine ⟨p, xs, y, rfl, rfl, hp2, by rw [la.length, sizeLine_eq]; exact hl, ?_⟩
                have np3 : ¬ Tot T0 σ env3 p := fun z => n1 (z.elim .inl fun w => .inr ((s2.trans s3).own p w))
                have kp : Keep (.one p) H2 (upd H2 p (.lst (xs ++ [y]))) := Keep.set rfl
                have R4 := rel_drop R3 kp np3 n2
                have R5 : Rel (W.at B0) T0 σ (upd H2 p (.lst (xs ++ [y]))) env3 := R4.at' (B0 := B0) (fun a z => R4.bdom a (.inl z)) fun a z => .inl (.inl z)
                exact k σ _ (Stp.of (fun a o n e => kp a o (kh a o n e) (k2 a o (fun z => n (s1.own a z)) (k1 a o n e))) ((s1.trans s2).trans s3)) R5
              · cases e2
            · cases e2⟩
theorem W_mAppN {mo me : MX} {env : MEnv} {R : Fl × MEnv → Prop} : Mx.W (mAppN mo me env) R = Mx.W (mo env) fun p => Mx.W (newL p.1) fun _ => Mx.W (me p.2) fun q => Mx.W (toDat q.1 q.2) fun r => R (.nx, r.2) := by
  unfold mAppN
  rw [W_bind]
  congr 1
  funext p
  rw [W_bind]
  congr 1
  funext d
  rw [W_bind]
  congr 1
  funext q
  rw [W_bind]
  congr 1
  funext r
  exact W_some
end Mx

set_option Elab.async false
set_option autoImplicit false
set_option linter.all false
set_option maxRecDepth 100000
/-! Mx36: board == x and board != x over operands. -/
namespace Mx
open PySem PySem.Spec PyProof.Rows L2
open L2 (Inv)
def dTys : List String := ["NoneType", "bool", "int", "str", "list", "tuple", "dict"]
theorem tyOf_at {K : PySem.W.Frag} {T : AS} {H : Hp} {v : V} {d : D} (h : At T H v d) : ∃ t ∈ dTys, TyOf K H v (.type t) := by
  cases h with
  | non => exact ⟨_, by decide, .non⟩
  | bl b => exact ⟨_, by decide, .bl b⟩
  | int i => exact ⟨_, by decide, .int i⟩
  | str x => exact ⟨_, by decide, .str x⟩
  | lst n e l => exact ⟨_, by decide, .lst e⟩
  | tup n e l => exact ⟨_, by decide, .tup e⟩
  | dic n e l => exact ⟨_, by decide, .dK e⟩
  | dit n e z l => exact ⟨_, by decide, .dT e⟩
theorem mro_ty : ∀ t ∈ dTys, ∃ l, PySem.fastBuiltinMro t = some l ∧ ∀ C : Addr, l.contains (Value.ref C) = false := by
  intro t m
  simp only [dTys, List.mem_cons, List.not_mem_nil, or_false] at m
  rcases m with rfl | rfl | rfl | rfl | rfl | rfl | rfl
  · exact ⟨[.type "NoneType", .type "object"], by decide +kernel, fun C => by simp⟩
  · exact ⟨[.type "bool", .type "int", .type "object"], by decide +kernel, fun C => by simp⟩
  · exact ⟨[.type "int", .type "object"], by decide +kernel, fun C => by simp⟩
  · exact ⟨[.type "str", .type "object"], by decide +kernel, fun C => by simp⟩
  · exact ⟨[.type "list", .type "object"], by decide +kernel, fun C => by simp⟩
  · exact ⟨[.type "tuple", .type "object"], by decide +kernel, fun C => by simp⟩
  · exact ⟨[.type "dict", .type "object"], by decide +kernel, fun C => by simp⟩
theorem notFirst_ty {K : PySem.W.Frag} {C : Addr} {t : String} (m : t ∈ dTys) : PySem.W.notFirst K C (.type t) = true := by
  obtain ⟨l, e, h⟩ := mro_ty t m
  have s : PySem.W.subIn K (.type t) (.ref C) = some false := by
    show (PySem.fastBuiltinMro t).map (·.contains (Value.ref C)) = some false
    rw [e, Option.map_some, h]
  unfold PySem.W.notFirst
  rw [s]
  simp
def argD (o : Opd) (env : MEnv) : Option Slot := match brdOf o env with
  | some p => some (.brd p.1 p.2)
  | none => (peek o env).map Slot.dat
def fOwn (neg : Bool) (D : Den) : FX
  | [o1, o2], env => (brdOf o1 env).bind fun x => (argD o2 env).bind fun s => (D [.brd x.1 x.2, s]).bind fun r => match r with
    | (.dat (.bool b), _) => some (.dat (.bool (if neg then !b else b)), env)
    | _ => none
  | _, _ => none
theorem own_bs {σ : L2.St} {n : Int} {gs : List PyData} {s : Slot} (hs : ∀ l d, s ≠ .own l d) {a : Addr} : ¬ Own σ [some (.brd n gs), some s] a := fun ⟨i, ⟨l, d, e⟩, _⟩ => by
  match i, e with
  | 0, e => cases e
  | 1, e => exact hs l d (Option.some.inj (Option.some.inj e))
  | i + 2, e => cases e
theorem prim_own {W : Wd} {D : Den} {neg : Bool} (bc : BoardCls W.K W.B) : Prim W (R2P (fun x y H Q => (∃ a dx fs t, x = .ref a ∧ H a = some (.ins W.B dx fs) ∧ TyOf W.K H y t ∧ PySem.W.notFirst W.K W.B t = true) ∧ spF W.K W.B 2 D [x, y] H (fun v H' => ∃ r, v = .bl r ∧ Q (.bl (if neg then !r else r)) H') E0)) (fOwn neg D) := by
  intro T0 σ H env vs os o env' Q ho e k
  unfold fOwn at e
  split at e
  · rename_i o1 o2
    obtain ⟨x, y, T1, rfl, _, h1, h2, R1, R0⟩ := opds2 ho
    cases e1 : brdOf o1 env with
    | none => simp [e1] at e
    | some u =>
      obtain ⟨n, gs⟩ := u
      cases e2 : argD o2 env with
      | none => simp [e1, e2] at e
      | some s =>
        cases e3 : D [.brd n gs, s] with
        | none => simp [e1, e2, e3] at e
        | some r =>
          obtain ⟨r, as⟩ := r
          simp only [e1, e2, e3, Option.bind] at e
          split at e
          · rename_i bb as' q
            cases q
            cases e
            have B1 := (brd_at h1 R0 e1).bare
            obtain ⟨a, dx, g, xs, rfl, n1, n2, p1, p2, l⟩ := id B1
            have st : (∃ t, TyOf W.K H y t ∧ PySem.W.notFirst W.K W.B t = true) ∧ (∀ l d, s ≠ .own l d) ∧ ∀ (T T' : AS), (∀ c, ¬ T c) → SlotOk ⟨W.K, W.B, domOf H⟩ T T' H y s := by
              unfold argD at e2
              split at e2
              · rename_i p q
                obtain rfl := Option.some.inj e2
                have B2 := (brd_at h2 R1 q).bare
                obtain ⟨b, dy, g', ys, rfl, n1', n2', p1', p2', l'⟩ := id B2
                refine ⟨⟨.ref W.B, .ins p1' bc.cl bc.c1 bc.c2 bc.c3 bc.c4, by simp [PySem.W.notFirst]⟩, fun l d z => (nomatch z), fun T T' hT => ?_⟩
                exact BrdAt.move (Move.sub fun c z => absurd z (hT c)) B2
              · cases q : peek o2 env with
                | none => rw [q] at e2; cases e2
                | some d =>
                  rw [q] at e2
                  obtain rfl := Option.some.inj e2
                  have A2 := peek_at h2 R1 q
                  obtain ⟨t, m, ty⟩ := tyOf_at (K := W.K) A2
                  exact ⟨⟨_, ty, notFirst_ty m⟩, fun l d z => (nomatch z), fun T T' hT => At.move (Move.sub fun c z => absurd z (hT c)) d y A2⟩
            obtain ⟨⟨t, ty, nf⟩, ns, sok⟩ := st
            have em : ∀ {σ : L2.St} (c : Addr), ¬ Tot AS.emp σ [some (.brd n gs), some s] c := fun c z => z.elim (fun q => q) fun q => own_bs ns q
            refine ⟨_, _, rfl, ⟨a, dx, _, t, rfl, p1, ty, nf⟩, AS.emp, [.brd n gs, s], _, as, ⟨rfl, fun _ z => z.elim, fun b z => z, fun j s' ej => ?_, fun i j b z => absurd ⟨i, z⟩ (own_bs ns)⟩, rfl, e3, fun v H2 k2 s2 o2 => ?_⟩
            · match j, ej with
              | 0, ej => cases ej; exact ⟨_, rfl, BrdAt.move (Move.sub fun c z => absurd z (em c)) B1⟩
              | 1, ej =>
                obtain rfl := Option.some.inj (Option.some.inj ej)
                exact ⟨_, rfl, sok _ _ em⟩
              | j + 2, ej => cases ej
            · obtain ⟨hv, _⟩ := o2
              cases hv
              have k2' : Keep AS.emp H H2 := fun c o z e => k2 c o (fun z => absurd z (own_bs ns)) e
              exact ⟨_, rfl, k _ H2 (k2'.sub fun _ z => z.elim) Osub.refl ⟨.bl _, R0.grow k2'⟩⟩
          · cases e
  · cases e
section
variable {W : Wd} {X : Cx} {k : Nat} {a b : Expr} {ma mb : MX} {pos : Pos} {f : Addr} {fd : FuncData} {D : Den}
theorem pm_ownEq (hK : X.K = W.K) (bc : BoardCls W.K W.B) (F : FnOk X.prog X.w X.K X.mg X.base CX0 k f fd ["self", "other"] (spF W.K W.B 2 D)) (hb : Binds X.K fd ["self", "other"] [])
    (h1 : PySem.W.findIn X.K (.ref W.B) "__eq__" = some (some (.ref f))) (h2 : PySem.W.isFn X.K (.ref f) = true) (hr : Room k X.A) (ha : PM W X a ma) (hbm : PM W X b mb) (hm : behindInMarks .Eq b = false) : PM W X (.Compare a [.Eq] [b] pos) (mPrim (fOwn false D) (mCons ma (mCons mb mNil))) :=
  pm_cmp (op_ownEqT F hr h1 h2 hb) (fun _ => by rw [hK]; exact prim_own (neg := false) bc) ha hbm hm
theorem pm_ownNe (hK : X.K = W.K) (bc : BoardCls W.K W.B) (F : FnOk X.prog X.w X.K X.mg X.base CX0 k f fd ["self", "other"] (spF W.K W.B 2 D)) (hb : Binds X.K fd ["self", "other"] [])
    (hne : PySem.W.findIn X.K (.ref W.B) "__ne__" = some (some (.builtin "object.__ne__")))
    (h1 : PySem.W.findIn X.K (.ref W.B) "__eq__" = some (some (.ref f))) (h2 : PySem.W.isFn X.K (.ref f) = true) (hr : Room (k + 1) X.A) (ha : PM W X a ma) (hbm : PM W X b mb) (hm : behindInMarks .NotEq b = false) : PM W X (.Compare a [.NotEq] [b] pos) (mPrim (fOwn true D) (mCons ma (mCons mb mNil))) :=
  pm_cmp (op_ownNeT F hr (by rw [hK]; exact bc.c4) hne h1 h2 hb) (fun _ => by rw [hK]; exact prim_own (neg := true) bc) ha hbm hm
theorem pmt_ownEq (hK : X.K = W.K) (bc : BoardCls W.K W.B) (F : FnOk X.prog X.w X.K X.mg X.base CX0 k f fd ["self", "other"] (spF W.K W.B 2 D)) (hb : Binds X.K fd ["self", "other"] [])
    (h1 : PySem.W.findIn X.K (.ref W.B) "__eq__" = some (some (.ref f))) (h2 : PySem.W.isFn X.K (.ref f) = true) (hr : Room k X.A) (ha : PM W X a ma) (hbm : PM W X b mb) (hm : behindInMarks .Eq b = false) : PMT W X (.Compare a [.Eq] [b] pos) (mTr (mPrim (fOwn false D) (mCons ma (mCons mb mNil)))) :=
  pmt_cmp (op_ownEqT F hr h1 h2 hb) (fun _ => by rw [hK]; exact prim_own (neg := false) bc) ha hbm hm
theorem pmt_ownNe (hK : X.K = W.K) (bc : BoardCls W.K W.B) (F : FnOk X.prog X.w X.K X.mg X.base CX0 k f fd ["self", "other"] (spF W.K W.B 2 D)) (hb : Binds X.K fd ["self", "other"] [])
    (hne : PySem.W.findIn X.K (.ref W.B) "__ne__" = some (some (.builtin "object.__ne__")))
    (h1 : PySem.W.findIn X.K (.ref W.B) "__eq__" = some (some (.ref f))) (h2 : PySem.W.isFn X.K (.ref f) = true) (hr : Room (k + 1) X.A) (ha : PM W X a ma) (hbm : PM W X b mb) (hm : behindInMarks .NotEq b = false) : PMT W X (.Compare a [.NotEq] [b] pos) (mTr (mPrim (fOwn true D) (mCons ma (mCons mb mNil)))) :=
  pmt_cmp (op_ownNeT F hr (by rw [hK]; exact bc.c4) hne h1 h2 hb) (fun _ => by rw [hK]; exact prim_own (neg := true) bc) ha hbm hm
end
end Mx

set_option Elab.async false
set_option autoImplicit false
set_option linter.all false
set_option maxRecDepth 100000
/-! Mx37: isinstance(x, Board), x any value. -/
namespace Mx
open PySem PySem.Spec PyProof.Rows L2
open L2 (Inv)
def isBX (o : Opd) (env : MEnv) : Option Bool := match brdOf o env with
  | some _ => some true
  | none => (peek o env).map fun _ => false
def fIsBX : FX
  | [o1], env => (isBX o1 env).bind fun b => some (.dat (.bool b), env)
  | _, _ => none
theorem pm_isBrdX {W : Wd} {X : Cx} {x : Str} {p p2 pos : Pos} {e : Expr} {me : MX} (hK : X.K = W.K) (bc : BoardCls W.K W.B) (no : ∀ t ∈ dTys, PySem.W.kitOne W.K (.type t) (.ref W.B) = some false) (hg : Gl X "isinstance") (hm : X.mg "isinstance" = none) (hv : bootBuiltins "isinstance" = some (.builtin "isinstance")) (he : PM W X e me) (hgx : Gl X x) (hmx : X.mg x = some (.ref W.B))
    (hd : (x == ("__debug__" : Str)) = false := by decide) (hse : starEach (e :: [.Name x p2]) X.env = (false, eval e X.env) :: starEach [.Name x p2] X.env := by rfl) (hse2 : starEach [.Name x p2] X.env = (false, eval (.Name x p2) X.env) :: starEach [] X.env := by rfl)
    (hpl : (backTo pos (starEach [.Name x p2] X.env)).any (·.1) = false := by rfl) : PM W X (.Call (.Name "isinstance" p) [e, .Name x p2] [] pos) (mPrim fIsBX (mCons me mNil)) :=
  ⟨fun B0 => PE.imp (pe_callB call_isi hg hm hv (pa_cons (he.pe B0) (pa_cons (pe_glob (v := .ref W.B) hgx hmx rfl hd) pa_nil hse2) hse) (by decide) (by decide) hse hpl) fun σ H Q h => by
    have P : Prim (W.at B0) (fun vs H Q => ∃ x, vs = [x] ∧ rIsi X.K [x, .ref W.B] H Q) fIsBX := by
      intro T0 σ H env vs os o env' Q ho e k
      unfold fIsBX at e
      split at e
      · rename_i o1
        obtain ⟨x, rfl, h1, R0⟩ := opds1 ho
        cases e0 : isBX o1 env with
        | none => simp [e0] at e
        | some b =>
          simp only [e0, Option.bind, Option.some.injEq, Prod.mk.injEq] at e
          obtain ⟨rfl, rfl⟩ := e
          have kk := k (.bl b) H Keep.refl Osub.refl ⟨.bl _, R0⟩
          unfold isBX at e0
          split at e0
          · rename_i y e1
            cases e0
            obtain ⟨a, dx, g, xs, rfl, n1, n2, e1, e2, l⟩ := brd_at (n := y.1) (gs := y.2) h1 R0 e1
            exact ⟨_, rfl, .ref a, .ref W.B, .ref W.B, .ref W.B, true, rfl, .own W.B, .base (.ins e1 (by rw [hK]; exact bc.cl) (by rw [hK]; exact bc.c1) (by rw [hK]; exact bc.c2) (by rw [hK]; exact bc.c3) (by rw [hK]; exact bc.c4)), kit_self, kk⟩
          · cases q : peek o1 env with
            | none => rw [q] at e0; cases e0
            | some d =>
              rw [q] at e0
              obtain rfl := Option.some.inj e0
              obtain ⟨t, m, ty⟩ := tyOf_at (K := X.K) (peek_at h1 R0 q)
              exact ⟨_, rfl, x, .ref W.B, .type t, .ref W.B, false, rfl, .own W.B, .base ty, by rw [hK]; exact no t m, kk⟩
      · cases e
    exact tM_mono (split1 (prim_split P h)) fun x H1 ⟨x', e, q⟩ => by
      cases e
      exact q⟩
theorem noB_of {K : PySem.W.Frag} {B : Addr} (h1 : PySem.W.isClsIn K B = true) (h2 : PySem.W.typeIn K (.ref B) = some (.type "type")) : ∀ t ∈ dTys, PySem.W.kitOne K (.type t) (.ref B) = some false := by
  intro t m
  obtain ⟨l, e, h⟩ := mro_ty t m
  have s : PySem.W.subIn K (.type t) (.ref B) = some false := by
    show (PySem.fastBuiltinMro t).map (·.contains (Value.ref B)) = some false
    rw [e, Option.map_some, h]
  have c : ((PySem.W.clsIn K B).isSome && PySem.W.typeIn K (.ref B) == some (.type "type")) = true := by
    rw [h2]
    have h1' : (PySem.W.clsIn K B).isSome = true := h1
    rw [h1']
    simp
  unfold PySem.W.kitOne
  rw [if_neg (by simp)]
  show (if ((PySem.W.clsIn K B).isSome && PySem.W.typeIn K (.ref B) == some (.type "type")) = true then PySem.W.subIn K (.type t) (.ref B) else none) = some false
  rw [if_pos c, s]
end Mx

set_option Elab.async false
set_option autoImplicit false
set_option linter.all false
set_option maxRecDepth 100000
/-! Mx38: dicts whose keys are ints, texts, or tuples of ints, with any values: in, d[k]. -/
namespace Mx
open PySem PySem.Spec PyProof.Rows L2
open L2 (Inv)
inductive KD where
  | i (i : Int)
  | s (x : Str)
  | t (l : List Int)
  deriving DecidableEq
def kdD : KD → D
  | .i i => .int i
  | .s x => .str x
  | .t l => .tuple (l.map PyData.int)
def kdOf : D → Option KD
  | .int i => some (.i i)
  | .str x => some (.s x)
  | .tuple l => (intsOf l).map KD.t
  | _ => none
theorem kdOf_D (k : KD) : kdOf (kdD k) = some k := by
  cases k with
  | i i => rfl
  | s x => rfl
  | t l => show (intsOf (l.map PyData.int)).map KD.t = _; rw [intsOf_map]; rfl
theorem kdOf_eq {d : D} {k : KD} (h : kdOf d = some k) : d = kdD k := by
  unfold kdOf at h
  split at h
  · cases h; rfl
  · cases h; rfl
  · rename_i l
    cases e : intsOf l with
    | none => rw [e] at h; cases h
    | some ns =>
      rw [e] at h
      cases h
      rw [intsOf_eq e]
      rfl
  · cases h
/-- what the data of a dict hold at k -/
def gd (ds : List (D × D)) (k : KD) : Option D := (ds.find? fun p => decide (kdOf p.1 = some k)).map (·.2)
def gp (ds : List (D × D)) (k : KD) (v : D) : List (D × D) :=
  if (ds.any fun p => decide (kdOf p.1 = some k)) = true then ds.map (fun p => if kdOf p.1 = some k then (p.1, v) else p) else ds ++ [(kdD k, v)]
/-- keys are of the kind of k -/
def isTp : D → Bool
  | .tuple _ => true
  | _ => false
def kOk : List (D × D) → KD → Bool
  | p :: _, .t _ => isTp p.1
  | [], .t _ => false
  | p :: _, _ => !isTp p.1
  | [], _ => true
def kK : Key → KD
  | .inl i => .i i
  | .inr x => .s x
theorem kdOf_kD (k : Key) : kdOf (kD k) = some (kK k) := by cases k <;> rfl
theorem kK_inj {a b : Key} : kK a = kK b ↔ a = b := by
  cases a <;> cases b <;> simp [kK]
theorem kdOf_kK {a b : Key} : kdOf (kD a) = some (kK b) ↔ a = b := by rw [kdOf_kD, Option.some.injEq, kK_inj]
theorem gd_nil {k : KD} : gd [] k = none := rfl
theorem gd_cons {p : D × D} {ds : List (D × D)} {k : KD} : gd (p :: ds) k = if kdOf p.1 = some k then some p.2 else gd ds k := by
  unfold gd
  rw [List.find?_cons]
  by_cases e : kdOf p.1 = some k
  · simp [e]
  · simp [e]
theorem valV_cons {κ : Type} [DecidableEq κ] {p : κ × V} {r : List (κ × V)} {k : κ} : valV (p :: r) k = if p.1 = k then some p.2 else valV r k := by
  unfold valV
  rw [List.find?_cons]
  by_cases e : p.1 = k
  · simp [e]
  · simp [e]
/-- the value at a key, on both sides -/
def ValAt (T : AS) (H : Hp) : Option V → Option D → Prop
  | none, none => True
  | some v, some d => At T H v d
  | _, _ => False
theorem atm_get {T : AS} {H : Hp} {k : Key} : ∀ {ds : List (D × D)} {kvs : List (Key × V)}, AtM T H kvs ds → ValAt T H (valV kvs k) (gd ds (kK k))
  | [], _, h => by cases h; exact True.intro
  | _ :: ds, _, h => by
    cases h with
    | @cons k0 v vs d _ a b =>
      rw [gd_cons, valV_cons]
      show ValAt T H (if k0 = k then some v else valV vs k) (if kdOf (kD k0) = some (kK k) then some d else gd ds (kK k))
      by_cases e : k0 = k
      · rw [if_pos e, if_pos (kdOf_kK.mpr e)]; exact a
      · rw [if_neg e, if_neg (fun z => e (kdOf_kK.mp z))]; exact atm_get b
theorem ints_kD : ∀ {k0 : List Key} {l : List Int}, intsOf (k0.map kD) = some l ↔ k0 = l.map Sum.inl
  | [], l => by
    constructor
    · intro h; cases h; rfl
    · intro h
      cases l with
      | nil => rfl
      | cons a l => cases h
  | .inl i :: k0, l => by
    show ((intsOf (k0.map kD)).map fun ns => i :: ns) = some l ↔ _
    constructor
    · intro h
      cases e : intsOf (k0.map kD) with
      | none => rw [e] at h; cases h
      | some ns =>
        rw [e] at h
        cases h
        rw [List.map_cons, (ints_kD (k0 := k0) (l := ns)).mp e]
    · intro h
      cases l with
      | nil => cases h
      | cons a l =>
        rw [List.map_cons] at h
        cases h
        rw [(ints_kD (k0 := l.map Sum.inl) (l := l)).mpr rfl]
        rfl
  | .inr x :: k0, l => by
    constructor
    · intro h; cases h
    · intro h
      cases l with
      | nil => cases h
      | cons a l => cases h
theorem kdOf_kT {k0 : List Key} {l : List Int} : kdOf (kT k0) = some (.t l) ↔ k0 = l.map Sum.inl := by
  show (intsOf (k0.map kD)).map KD.t = some (.t l) ↔ _
  rw [← ints_kD]
  constructor
  · intro h
    cases e : intsOf (k0.map kD) with
    | none => rw [e] at h; cases h
    | some ns => rw [e] at h; cases h; rfl
  · intro h; rw [h]; rfl
theorem att_get {T : AS} {H : Hp} {l : List Int} : ∀ {ds : List (D × D)} {kvs : List (List Key × V)}, AtT T H kvs ds → ValAt T H (valV kvs (l.map Sum.inl)) (gd ds (.t l))
  | [], _, h => by cases h; exact True.intro
  | _ :: ds, _, h => by
    cases h with
    | @cons k0 v vs d _ a b =>
      rw [gd_cons, valV_cons]
      show ValAt T H (if k0 = l.map Sum.inl then some v else valV vs (l.map Sum.inl)) (if kdOf (kT k0) = some (.t l) then some d else gd ds (.t l))
      by_cases e : k0 = l.map Sum.inl
      · rw [if_pos e, if_pos (kdOf_kT.mpr e)]; exact a
      · rw [if_neg e, if_neg (fun z => e (kdOf_kT.mp z))]; exact att_get b
theorem any_kd {T : AS} {H : Hp} {k : Key} : ∀ {ds : List (D × D)} {kvs : List (Key × V)}, AtM T H kvs ds → (kvs.any fun p => decide (p.1 = k)) = ds.any fun p => decide (kdOf p.1 = some (kK k))
  | [], _, h => by cases h; rfl
  | _ :: ds, _, h => by
    cases h with
    | @cons k0 v vs d _ a b =>
      rw [List.any_cons, List.any_cons, any_kd b]
      show (decide (k0 = k) || _) = (decide (kdOf (kD k0) = some (kK k)) || _)
      congr 1
      exact decide_eq_decide.mpr kdOf_kK.symm
theorem atm_map {T : AS} {H : Hp} {k : Key} {v : V} {d : D} (hv : At T H v d) : ∀ {ds : List (D × D)} {kvs : List (Key × V)}, AtM T H kvs ds → AtM T H (kvs.map fun p => if p.1 = k then (p.1, v) else p) (ds.map fun p => if kdOf p.1 = some (kK k) then (p.1, d) else p)
  | [], _, h => by cases h; exact .nil
  | _ :: ds, _, h => by
    cases h with
    | @cons k0 v0 vs d0 _ a b =>
      rw [List.map_cons, List.map_cons]
      have e1 : (if kdOf (kD k0) = some (kK k) then (kD k0, d) else (kD k0, d0)) = (kD k0, if k0 = k then d else d0) := by
        by_cases e : k0 = k
        · rw [if_pos (kdOf_kK.mpr e), if_pos e]
        · rw [if_neg (fun z => e (kdOf_kK.mp z)), if_neg e]
      have e2 : (if k0 = k then (k0, v) else (k0, v0)) = (k0, if k0 = k then v else v0) := by
        by_cases e : k0 = k <;> simp [e]
      show AtM T H ((if k0 = k then (k0, v) else (k0, v0)) :: _) ((if kdOf (kD k0) = some (kK k) then (kD k0, d) else (kD k0, d0)) :: _)
      rw [e1, e2]
      refine .cons ?_ (atm_map hv b)
      by_cases e : k0 = k
      · rw [if_pos e, if_pos e]; exact hv
      · rw [if_neg e, if_neg e]; exact a
theorem atm_app {T : AS} {H : Hp} {k : Key} {v : V} {d : D} (hv : At T H v d) : ∀ {ds : List (D × D)} {kvs : List (Key × V)}, AtM T H kvs ds → AtM T H (kvs ++ [(k, v)]) (ds ++ [(kD k, d)])
  | [], _, h => by cases h; exact .cons hv .nil
  | _ :: ds, _, h => by
    cases h with
    | cons a b => exact .cons a (atm_app hv b)
theorem kK_D (k : Key) : kdD (kK k) = kD k := by cases k <;> rfl
theorem atm_put {T : AS} {H : Hp} {k : Key} {v : V} {d : D} {ds : List (D × D)} {kvs : List (Key × V)} (h : AtM T H kvs ds) (hv : At T H v d) : AtM T H (putK kvs k v) (gp ds (kK k) d) := by
  unfold putK gp
  rw [any_kd h, kK_D]
  split
  · exact atm_map hv h
  · exact atm_app hv h
theorem any_kt {T : AS} {H : Hp} {l : List Int} : ∀ {ds : List (D × D)} {kvs : List (List Key × V)}, AtT T H kvs ds → (kvs.any fun p => decide (p.1 = l.map Sum.inl)) = ds.any fun p => decide (kdOf p.1 = some (.t l))
  | [], _, h => by cases h; rfl
  | _ :: ds, _, h => by
    cases h with
    | @cons k0 v vs d _ a b =>
      rw [List.any_cons, List.any_cons, any_kt b]
      show (decide (k0 = l.map Sum.inl) || _) = (decide (kdOf (kT k0) = some (.t l)) || _)
      congr 1
      exact decide_eq_decide.mpr kdOf_kT.symm
theorem att_map {T : AS} {H : Hp} {l : List Int} {v : V} {d : D} (hv : At T H v d) : ∀ {ds : List (D × D)} {kvs : List (List Key × V)}, AtT T H kvs ds → AtT T H (kvs.map fun p => if p.1 = l.map Sum.inl then (p.1, v) else p) (ds.map fun p => if kdOf p.1 = some (.t l) then (p.1, d) else p)
  | [], _, h => by cases h; exact .nil
  | _ :: ds, _, h => by
    cases h with
    | @cons k0 v0 vs d0 _ a b =>
      rw [List.map_cons, List.map_cons]
      have e1 : (if kdOf (kT k0) = some (.t l) then (kT k0, d) else (kT k0, d0)) = (kT k0, if k0 = l.map Sum.inl then d else d0) := by
        by_cases e : k0 = l.map Sum.inl
        · rw [if_pos (kdOf_kT.mpr e), if_pos e]
        · rw [if_neg (fun z => e (kdOf_kT.mp z)), if_neg e]
      have e2 : (if k0 = l.map Sum.inl then (k0, v) else (k0, v0)) = (k0, if k0 = l.map Sum.inl then v else v0) := by
        by_cases e : k0 = l.map Sum.inl <;> simp [e]
      show AtT T H ((if k0 = l.map Sum.inl then (k0, v) else (k0, v0)) :: _) ((if kdOf (kT k0) = some (.t l) then (kT k0, d) else (kT k0, d0)) :: _)
      rw [e1, e2]
      refine .cons ?_ (att_map hv b)
      by_cases e : k0 = l.map Sum.inl
      · rw [if_pos e, if_pos e]; exact hv
      · rw [if_neg e, if_neg e]; exact a
theorem kT_D (l : List Int) : kdD (.t l) = kT (l.map Sum.inl) := by
  show PyData.tuple (l.map PyData.int) = .tuple ((l.map Sum.inl).map kD)
  rw [List.map_map]
  rfl
theorem att_app {T : AS} {H : Hp} {k : List Key} {v : V} {d : D} (hv : At T H v d) : ∀ {ds : List (D × D)} {kvs : List (List Key × V)}, AtT T H kvs ds → AtT T H (kvs ++ [(k, v)]) (ds ++ [(kT k, d)])
  | [], _, h => by cases h; exact .cons hv .nil
  | _ :: ds, _, h => by
    cases h with
    | cons a b => exact .cons a (att_app hv b)
theorem att_put {T : AS} {H : Hp} {l : List Int} {v : V} {d : D} {ds : List (D × D)} {kvs : List (List Key × V)} (h : AtT T H kvs ds) (hv : At T H v d) : AtT T H (putK kvs (l.map Sum.inl) v) (gp ds (.t l) d) := by
  unfold putK gp
  rw [any_kt h, kT_D]
  split
  · exact att_map hv h
  · exact att_app hv h
theorem atm_len {T : AS} {H : Hp} : ∀ {ds : List (D × D)} {kvs : List (Key × V)}, AtM T H kvs ds → kvs.length = ds.length
  | [], _, h => by cases h; rfl
  | _ :: ds, _, h => by
    cases h with
    | cons a b => rw [List.length_cons, List.length_cons, atm_len b]
theorem att_len {T : AS} {H : Hp} : ∀ {ds : List (D × D)} {kvs : List (List Key × V)}, AtT T H kvs ds → kvs.length = ds.length
  | [], _, h => by cases h; rfl
  | _ :: ds, _, h => by
    cases h with
    | cons a b => rw [List.length_cons, List.length_cons, att_len b]
theorem atm_kind {T : AS} {H : Hp} {ds : List (D × D)} {kvs : List (Key × V)} {l : List Int} (h : AtM T H kvs ds) : kOk ds (.t l) = false := by
  cases h with
  | nil => rfl
  | @cons k0 v vs d ds a b => cases k0 <;> rfl
theorem att_kind {T : AS} {H : Hp} {ds : List (D × D)} {kvs : List (List Key × V)} {k : Key} (h : AtT T H kvs ds) (z : kvs ≠ []) : kOk ds (kK k) = false := by
  cases h with
  | nil => exact (z rfl).elim
  | @cons k0 v vs d ds a b => cases k <;> rfl
theorem kd_cases (k : KD) : (∃ k0, k = kK k0) ∨ ∃ l, k = .t l := by
  cases k with
  | i i => exact .inl ⟨.inl i, rfl⟩
  | s x => exact .inl ⟨.inr x, rfl⟩
  | t l => exact .inr ⟨l, rfl⟩
/-- the dict at p -/
def DAt (T : AS) (H : Hp) (p : Addr) (ds : List (D × D)) : Prop := (∃ kvs, H p = some (.dK kvs) ∧ AtM T H kvs ds) ∨ ∃ kvs, H p = some (.dT kvs) ∧ kvs ≠ [] ∧ AtT T H kvs ds
theorem at_dict {T : AS} {H : Hp} {v : V} {ds : List (D × D)} (h : At T H v (.dict ds)) : ∃ p, v = .ref p ∧ DAt T H p ds := by
  cases h with
  | dic n e m => exact ⟨_, rfl, .inl ⟨_, e, m⟩⟩
  | dit n e z m => exact ⟨_, rfl, .inr ⟨_, e, z, m⟩⟩
theorem kV_at {T : AS} {H : Hp} {v : V} {k : Key} (h : At T H v (kD k)) : v = kV k := by
  cases k with
  | inl i => cases h; rfl
  | inr x => cases h; rfl
theorem atl_ints {T : AS} {H : Hp} : ∀ {l : List Int} {xs : List V}, AtL T H xs (l.map PyData.int) → xs = (l.map Sum.inl).map kV
  | [], _, h => by cases h; rfl
  | i :: l, _, h => by
    rw [List.map_cons] at h
    cases h with
    | cons a b =>
      cases a
      rw [atl_ints b]
      rfl
/-- looking up -/
theorem dat_get {T T' : AS} {H : Hp} {p : Addr} {ds : List (D × D)} {k : KD} {v : V} (h : DAt T H p ds) (hk : At T' H v (kdD k)) (ok : kOk ds k = true) : ∃ r, DGet H p v r ∧ ValAt T H r (gd ds k) := by
  rcases kd_cases k with ⟨k0, rfl⟩ | ⟨l, rfl⟩
  · rw [kK_D] at hk
    obtain rfl := kV_at hk
    rcases h with ⟨kvs, e, m⟩ | ⟨kvs, e, z, m⟩
    · exact ⟨_, .inl ⟨kvs, k0, .inl e, rfl, rfl⟩, atm_get m⟩
    · rw [att_kind m z] at ok; cases ok
  · rcases h with ⟨kvs, e, m⟩ | ⟨kvs, e, z, m⟩
    · rw [atm_kind m] at ok; cases ok
    · cases hk with
      | tup n e2 l2 =>
        have := atl_ints l2
        subst this
        exact ⟨_, .inr ⟨kvs, l.map Sum.inl, _, .inl e, rfl, e2, rfl⟩, att_get m⟩
theorem kd_at {d : D} {k : KD} {T : AS} {H : Hp} {v : V} (h : At T H v d) (e : kdOf d = some k) : At T H v (kdD k) := by
  rw [← kdOf_eq e]
  exact h
/-- k in d, k not in d -/
def gInG (neg : Bool) : List D → Option D
  | [x, .dict ds] => (kdOf x).bind fun k => if kOk ds k = true then some (.bool (if neg then !(gd ds k).isSome else (gd ds k).isSome)) else none
  | _ => none
theorem ValAt.some_eq {T : AS} {H : Hp} {r : Option V} {o : Option D} (h : ValAt T H r o) : r.isSome = o.isSome := by
  cases r <;> cases o <;> first | rfl | exact h.elim
theorem prim_inG {W : Wd} : Prim W (R2P (fun y x H Q => ∃ a o, x = .ref a ∧ DGet H a y o ∧ Q (.bl o.isSome) H)) (fPure (gInG false)) := prim_pure fun vs H ds d v Q l e ev q => by
  unfold gInG at e
  split at e
  · rename_i x0 l'
    obtain ⟨x, y, rfl, hx, hy⟩ := atl2 l
    cases e1 : kdOf x0 with
    | none => rw [e1] at e; cases e
    | some k =>
      rw [e1] at e
      simp only [Option.bind] at e
      split at e
      · rename_i ok
        cases e
        cases ev
        obtain ⟨p, rfl, hd⟩ := at_dict hy
        obtain ⟨r, g, va⟩ := dat_get hd (kd_at hx e1) ok
        refine ⟨_, _, rfl, p, r, rfl, g, ?_⟩
        rw [va.some_eq]
        exact q
      · cases e
  · cases e
theorem prim_notInG {W : Wd} : Prim W (R2P (fun y x H Q => ∃ a o, x = .ref a ∧ DGet H a y o ∧ Q (.bl (!o.isSome)) H)) (fPure (gInG true)) := prim_pure fun vs H ds d v Q l e ev q => by
  unfold gInG at e
  split at e
  · rename_i x0 l'
    obtain ⟨x, y, rfl, hx, hy⟩ := atl2 l
    cases e1 : kdOf x0 with
    | none => rw [e1] at e; cases e
    | some k =>
      rw [e1] at e
      simp only [Option.bind] at e
      split at e
      · rename_i ok
        cases e
        cases ev
        obtain ⟨p, rfl, hd⟩ := at_dict hy
        obtain ⟨r, g, va⟩ := dat_get hd (kd_at hx e1) ok
        refine ⟨_, _, rfl, p, r, rfl, g, ?_⟩
        rw [va.some_eq]
        exact q
      · cases e
  · cases e
section
variable {W : Wd} {X : Cx} {a b o i : Expr} {ma mb mo mi : MX} {pos : Pos}
theorem pmt_inG (hu : X.A.units + 1 < cLine) (ha : PM W X a ma) (hb : PM W X b mb) (hm : behindInMarks .In b = false := by rfl) : PMT W X (.Compare a [.In] [b] pos) (mTr (mPrim (fPure (gInG false)) (mCons ma (mCons mb mNil)))) :=
  ⟨fun B0 => PT.imp (pt_cmp (pc_din hu (ha.pe B0) hb.pex) hm) fun σ H Q h => op_split (prim_inG (W := W.at B0)) (tr_split h)⟩
theorem pmt_notInG (hu : X.A.units + 1 < cLine) (ha : PM W X a ma) (hb : PM W X b mb) (hm : behindInMarks .NotIn b = false := by rfl) : PMT W X (.Compare a [.NotIn] [b] pos) (mTr (mPrim (fPure (gInG true)) (mCons ma (mCons mb mNil)))) :=
  ⟨fun B0 => PT.imp (pt_cmp (pc_dnotin hu (ha.pe B0) hb.pex) hm) fun σ H Q h => op_split (prim_notInG (W := W.at B0)) (tr_split h)⟩
/-- the dict of an operand -/
theorem peek_dict {T0 : AS} {σ : L2.St} {H : Hp} {env : MEnv} {v : V} {R : AS → Prop} {o : Opd} {ds : List (D × D)} (h : OpdK W T0 σ H env v R o) (Rl : Rel W T0 σ H env) (e : peek o env = some (.dict ds)) : ∃ p, v = .ref p ∧ DAt (Tot T0 σ env) H p ds := by
  cases o with
  | dat d' =>
    cases e
    exact at_dict h.1
  | new d' =>
    cases e
    obtain ⟨p, rfl, n, c, _⟩ := h
    refine ⟨p, rfl, ?_⟩
    have M : Move (Tot (T0.or (.one p)) σ env) (Tot T0 σ env) H H := Move.sub fun a z => z.elim (fun y => .inl (.inl y)) .inr
    rcases c with ⟨kvs, q, l⟩ | ⟨kvs, q, z, l⟩
    · exact .inl ⟨kvs, q, AtM.move M ds kvs l⟩
    · exact .inr ⟨kvs, q, z, AtT.move M ds kvs l⟩
  | slot i =>
    rcases peek_slot e with q | ⟨l, q⟩
    · exact at_dict (slot_get Rl h.1 q)
    · obtain ⟨p, rfl, c, _⟩ := slot_get Rl h.1 q
      exact ⟨p, rfl, c⟩
  | brd n gs => cases e
/-- d[k] -/
def dictOf : Option D → Option (List (D × D))
  | some (.dict ds) => some ds
  | _ => none
theorem dictOf_some {d : Option D} {ds : List (D × D)} (h : dictOf d = some ds) : d = some (.dict ds) := by
  unfold dictOf at h
  split at h
  · cases h; rfl
  · cases h
def fGetG : FX
  | [o1, o2], env => (dictOf (peek o1 env)).bind fun ds => (peek o2 env).bind fun x => (kdOf x).bind fun k => if kOk ds k = true then (gd ds k).bind fun d => some (.dat d, env) else none
  | _, _ => none
theorem prim_getG : Prim W (R2P (fun x y H Q => ∃ a v, x = .ref a ∧ DGet H a y (some v) ∧ Q v H)) fGetG := by
  intro T0 σ H env vs os o env' Q ho e k
  unfold fGetG at e
  split at e
  · rename_i o1 o2
    obtain ⟨x, y, T1, rfl, s1, h1, h2, R1, R0⟩ := opds2 ho
    cases e1 : dictOf (peek o1 env) with
    | none => simp [e1] at e
    | some ds =>
      cases e2 : peek o2 env with
      | none => simp [e1, e2] at e
      | some d2 =>
        cases e3 : kdOf d2 with
        | none => simp [e1, e2, e3] at e
        | some kk =>
          simp only [e1, e2, e3, Option.bind] at e
          split at e
          · rename_i ok
            cases e4 : gd ds kk with
            | none => simp [e4] at e
            | some d =>
              simp only [e4] at e
              cases e
              obtain ⟨p, rfl, hd⟩ := peek_dict h1 R0 (dictOf_some e1)
              obtain ⟨r, g, va⟩ := dat_get hd (kd_at (peek_at h2 R1 e2) e3) ok
              rw [e4] at va
              cases r with
              | none => exact va.elim
              | some v => exact ⟨_, _, rfl, p, v, rfl, g, k v H Keep.refl Osub.refl ⟨va, R0⟩⟩
          · cases e
  · cases e
theorem pm_getG (hu : X.A.units + 1 < cLine) (ho : PM W X o mo) (hi : PM W X i mi) (hs : NoSl i) : PM W X (.Subscript o i pos) (mPrim fGetG (mCons mo (mCons mi mNil))) :=
  ⟨fun B0 => PE.imp (pe_dget hu (ho.pe B0) hi.pex hs) fun σ H Q h => by
    have h1 := split2 (prim_split (prim_getG (W := W.at B0)) h)
    refine tM_mono h1 fun x H1 q3 => tMx_mono q3 fun y H2 ⟨x', y', e, a, v, ex, g, q⟩ => ?_
    cases e
    exact ⟨a, v, ex, g, q⟩⟩
end
end Mx

set_option Elab.async false
set_option autoImplicit false
set_option linter.all false
set_option maxRecDepth 100000
set_option maxHeartbeats 1000000
/-! Mx39: d[k] = v, {k: v}: keys ints, texts or tuples of ints, any values. -/
namespace Mx
open PySem PySem.Spec PyProof.Rows L2
open L2 (Inv)
/-- {k: v}, the key a tuple -/
def tDispT (tk tv : TE) : TE := fun σ H Q => ∀ p, H p = none → tPairs [(tk, tv)] σ (upd H p (.dT [])) fun ps H2 => H2 p = some (.dT []) ∧ ∃ (l : List Key) (b : Addr) (v : V), ps = [(.ref b, v)] ∧ H2 b = some (.tup (l.map kV)) ∧ Q (.ref p) (upd H2 p (.dT [(l, v)]))
theorem pe_dispT {X : Cx} {k v : Expr} {pos : Pos} {tk tv : TE} (hu : X.A.units < cLine) (hk : PE X k tk) (hv : PE X v tv) : PE X (.Dict [some k] [v] pos) (tDispT tk tv) := by
  refine ⟨fun pins s σ H Q I q => ?_⟩
  have hn := I.hok.fresh (Nat.le_refl s.heap.objs.size)
  have I1 := I.laid (a := s.heap.objs.size) (o := .dT []) (h' := s.heap.push { cls := .type "dict", data := .dict #[] }) (t' := s.toks) (fun _ _ q => Heap.get?_push_of_some _ q) (Nat.le_refl _) (dt_empty s.heap I.big)
  have hl := pairTrees_length [some k] [v] X.env pos rfl rfl
  rw [arm_eval_Dict, zip_pairTrees [some k] [v] X.env pos rfl rfl, dictDisplay_pairs (pairTrees [some k] [v] X.env pos) (fun z => by rw [z] at hl; cases hl) (by rw [hl]; simp)]
  refine wpAny_bind (wpAny_standAt (wpAny_bind (wpAny_subDictH (knd := tupleKind (mixKind X.prog X.w)) (Q := fun d s' => wpAny (model X.prog X.w) X.A (pure (Value.ref d)) (EP X pins σ Q) X.xe s') hu (by rw [hl]; simp) ?_)))
  refine wpAny_mono ((pps_cons hk hv pps_nil).run pins _ σ _ _ I1 (q _ hn)) (fun ws s2 ⟨ps, H2, I2, rel, e, l, b, w, ep, eb, q2⟩ => ?_) fun _ _ e => e
  subst ep
  cases rel with
  | @cons a b0 as bs r rs =>
    cases rs
    obtain ⟨r1, r2⟩ := r
    obtain ⟨u1, u2⟩ := b0
    obtain rfl : u1 = Value.ref b := r1
    obtain ⟨z, hd, xs, rel, dd⟩ := dt_of I2.hok e
    cases rel
    refine ⟨[(l, b, u2)], ⟨rfl, rfl, key_of I2.hok eb, True.intro⟩, dd, fun h' tk dd' hs => wpAny_pure ?_⟩
    refine ⟨.ref s.heap.objs.size, _, ?_, rfl, q2⟩
    obtain ⟨q', es, ep, hq, h2, h3, h4, _, h5⟩ := dd'
    refine d_write I2 (by rw [e]; exact True.intro) hs ⟨q', hq⟩ ⟨by show 1 ≤ sizeLine; rw [sizeLine_eq]; decide, hd, _, (KT.put (H := upd H2 s.heap.objs.size (.dT [(l, w)])) .nil l (by rw [upd_ne (ne_of eb e (fun z => nomatch z))]; exact eb) r2), q', es, ep, hq, h2, h3, h4, h5⟩
/-- {k: v} as data -/
def fDispG (tp : Bool) : FX
  | [o1, o2], env => (peek o1 env).bind fun x => (kdOf x).bind fun k => (toDat o2 env).bind fun (d, env1) => if isTp (kdD k) = tp then some (.new (.dict [(kdD k, d)]), env1) else none
  | _, _ => none
section
variable {W : Wd} {X : Cx} {a b : Expr} {ma mb : MX} {pos : Pos}
theorem disp_fin {T0 : AS} {σ : L2.St} {H H2 : Hp} {env env' env1 : MEnv} {p : Addr} {u u0 : HO} {d : D} {k : KD} {B0 : AS} {Q : VK} (hp : H p = none) (R : Rel (W.at B0) T0 σ H env) (R0 : Rel (W.at B0) (T0.or (.one p)) σ H2 env') (k2 : Keep (Own σ env) (upd H p u0) H2) (s2 : Osub env env')
    (R3 : Rel (W.at B0) (T0.or (.one p)) σ H2 env1) (s3 : Osub env' env1) (hp2 : H2 p = some u0) (hm : ∀ xs, u ≠ .tup xs) (c : ∀ T, Move (Tot (T0.or (.one p)) σ env1) T H2 (upd H2 p u) → Cont T (upd H2 p u) p (.dict [(kdD k, d)]))
    (kq : ∀ v H', Keep (Own σ env) H H' → Osub env env1 → OpdK (W.at B0) T0 σ H' env1 v (fun T => Rel (W.at B0) T σ H' env1) (.new (.dict [(kdD k, d)])) → Q v H') : Q (.ref p) (upd H2 p u) := by
  have np := R.fresh hp
  have npo : ¬ Own σ env p := fun z => np (.inr z)
  have npo2 : ¬ Own σ env1 p := fun z => npo ((s2.trans s3).own p z)
  have R4 := mut_rel (o' := u) R3 (.inr rfl) npo2 hp2 hm
  have kk : Keep (Own σ env) H (upd H2 p u) := fun a w n e => by
    have ap : a ≠ p := fun z => by rw [z, hp] at e; cases e
    rw [upd_ne ap]
    exact k2 a w n (by rw [upd_ne ap]; exact e)
  refine kq _ _ kk (s2.trans s3) ⟨p, rfl, ⟨fun z => ?_, fun z => R.bdom p z hp⟩, c _ (Move.keep (Keep.set (O := Tot (T0.or (.one p)) σ env1) (.inl (.inr rfl))) fun _ z => z), R4⟩
  rcases z with z | z
  · exact np (.inl z)
  · exact npo2 z
theorem pm_dispT (hu : X.A.units < cLine) (ha : PM W X a ma) (hb : PM W X b mb) : PM W X (.Dict [some a] [b] pos) (mPrim (fDispG true) (mCons ma (mCons mb mNil))) :=
  ⟨fun B0 => PE.imp (pe_dispT hu (ha.pe B0) hb.pex) fun σ H Q ⟨T0, env, o, env', R, e, k⟩ p hp => by
    unfold mPrim at e
    cases e1 : mCons ma (mCons mb mNil) env with
    | none => simp [e1] at e
    | some z =>
      obtain ⟨os, env1⟩ := z
      simp only [e1, Option.bind] at e
      unfold fDispG at e
      split at e
      · rename_i o1 o2
        cases e2 : peek o1 env1 with
        | none => simp [e2] at e
        | some x0 =>
          cases e3 : kdOf x0 with
          | none => simp [e2, e3] at e
          | some kk =>
            cases e4 : toDat o2 env1 with
            | none => simp [e2, e3, e4] at e
            | some w =>
              obtain ⟨d, env2⟩ := w
              simp only [e2, e3, e4, Option.bind] at e
              split at e
              · rename_i tk
                cases e
                have k0 : Keep AS.emp H (upd H p (.dT [])) := Keep.new hp
                have R' := R.more hp k0 (mu_upd fun _ y => nomatch y)
                have q : tMA (W.at B0) (mCons ma (mCons mb mNil)) σ (upd H p (.dT [])) (fun vs H2 => ∃ x y, vs = [x, y] ∧ (H2 p = some (.dT []) ∧ ∃ (l : List Key) (b : Addr) (v : V), [(x, y)] = [(.ref b, v)] ∧ H2 b = some (.tup (l.map kV)) ∧ Q (.ref p) (upd H2 p (.dT [(l, v)])))) := by
                  refine ⟨T0.or (.one p), env, _, _, R', e1, fun vs H2 k2 s2 os2 => ?_⟩
                  obtain ⟨x, y, T1, rfl, s1, h1, h2, R2, R0⟩ := opds2 os2
                  have hx := kd_at (peek_at h1 R0 e2) e3
                  have np := R.fresh hp
                  have hp2 : H2 p = some (.dT []) := k2 p _ (fun z => np (.inr z)) upd_same
                  obtain ⟨R3, s3⟩ := toDat_rel R2 e4
                  have av := toDat_at h2 Osub.refl R2 e4
                  have R3' := R3.less s1
                  have av' := At.move (Move.sub (T' := Tot (T0.or (.one p)) σ env') fun a z => z.elim (fun y => .inl (s1 a y)) .inr) d y av
                  rcases kd_cases kk with ⟨kx, rfl⟩ | ⟨l, rfl⟩
                  · rw [kK_D] at tk
                    cases kx <;> cases tk
                  · cases hx with
                    | tup n e5 l2 =>
                      have := atl_ints l2
                      subst this
                      refine ⟨_, _, rfl, hp2, l.map Sum.inl, _, y, rfl, e5, ?_⟩
                      refine disp_fin (u := .dT [(l.map Sum.inl, y)]) hp R R0 k2 s2 R3' s3 hp2 (fun _ y => nomatch y) (fun T M => .inr ⟨_, upd_same, (by simp), ?_⟩) k
                      rw [kT_D]
                      exact .cons (At.move M d y av') .nil
                refine tM_mono (split2 q) fun x H1 q3 => tMx_mono q3 fun y H2 ⟨x', y', e, q4⟩ => ?_
                cases e
                exact q4
              · cases e
      · cases e⟩
theorem pm_dispK (ha : PM W X a ma) (hb : PM W X b mb) : PM W X (.Dict [some a] [b] pos) (mPrim (fDispG false) (mCons ma (mCons mb mNil))) :=
  ⟨fun B0 => PE.imp (pe_disp (pps_cons (ha.pe B0) hb.pex pps_nil) rfl rfl (by simp) (by simp)) fun σ H Q ⟨T0, env, o, env', R, e, k⟩ p hp => by
    unfold mPrim at e
    cases e1 : mCons ma (mCons mb mNil) env with
    | none => simp [e1] at e
    | some z =>
      obtain ⟨os, env1⟩ := z
      simp only [e1, Option.bind] at e
      unfold fDispG at e
      split at e
      · rename_i o1 o2
        cases e2 : peek o1 env1 with
        | none => simp [e2] at e
        | some x0 =>
          cases e3 : kdOf x0 with
          | none => simp [e2, e3] at e
          | some kk =>
            cases e4 : toDat o2 env1 with
            | none => simp [e2, e3, e4] at e
            | some w =>
              obtain ⟨d, env2⟩ := w
              simp only [e2, e3, e4, Option.bind] at e
              split at e
              · rename_i tk
                cases e
                have k0 : Keep AS.emp H (upd H p (.dK [])) := Keep.new hp
                have R' := R.more hp k0 (mu_upd fun _ y => nomatch y)
                have q : tMA (W.at B0) (mCons ma (mCons mb mNil)) σ (upd H p (.dK [])) (fun vs H2 => ∃ x y, vs = [x, y] ∧ (H2 p = some (.dK []) ∧ ∃ kvs : List (Key × V), [(x, y)] = kvs.map (fun kv => (kV kv.1, kv.2)) ∧ kvs.length ≤ 15 ∧ Q (.ref p) (upd H2 p (.dK (mergeK [] kvs))))) := by
                  refine ⟨T0.or (.one p), env, _, _, R', e1, fun vs H2 k2 s2 os2 => ?_⟩
                  obtain ⟨x, y, T1, rfl, s1, h1, h2, R2, R0⟩ := opds2 os2
                  have hx := kd_at (peek_at h1 R0 e2) e3
                  have np := R.fresh hp
                  have hp2 : H2 p = some (.dK []) := k2 p _ (fun z => np (.inr z)) upd_same
                  obtain ⟨R3, s3⟩ := toDat_rel R2 e4
                  have av := toDat_at h2 Osub.refl R2 e4
                  have R3' := R3.less s1
                  have av' := At.move (Move.sub (T' := Tot (T0.or (.one p)) σ env') fun a z => z.elim (fun y => .inl (s1 a y)) .inr) d y av
                  rcases kd_cases kk with ⟨kx, rfl⟩ | ⟨l, rfl⟩
                  · rw [kK_D] at hx
                    obtain rfl := kV_at hx
                    refine ⟨_, _, rfl, hp2, [(kx, y)], rfl, by simp, ?_⟩
                    refine disp_fin (u := .dK [(kx, y)]) hp R R0 k2 s2 R3' s3 hp2 (fun _ y => nomatch y) (fun T M => .inl ⟨_, upd_same, ?_⟩) k
                    rw [kK_D]
                    exact .cons (At.move M d y av') .nil
                  · cases tk
                refine tM_mono (split2 q) fun x H1 q3 => tMx_mono q3 fun y H2 ⟨x', y', e, q4⟩ => ?_
                cases e
                exact q4
              · cases e
      · cases e⟩
end
end Mx

set_option Elab.async false
set_option autoImplicit false
set_option linter.all false
set_option maxRecDepth 100000
set_option maxHeartbeats 1000000
/-! Mx40: enumerate(zip(a, b)), step by step. -/
namespace Mx
open PySem PySem.Spec PyProof.Rows L2
open L2 (Inv)
section
variable {prog : Program} {w : World} {A : Around} {E : Value → Shared → Prop} {s : Shared}
/-- a zip of two lists at turn i; t: the pair that it handed out last -/
def ZSt (z TI TO i1 i2 a b : Addr) (i : Nat) (t : Option Addr) (h : Heap) : Prop :=
  IsPair h TI (.ref i1) (.ref i2) ∧ h.IsListIter i1 a i ∧ h.IsListIter i2 b i ∧ (∃ x y, IsPair h TO x y) ∧ match t with
    | none => IsZip h z TI TO .none
    | some T => ∃ f, IsZipHeld h z TI TO T f
theorem ZSt.obj {z TI TO i1 i2 a b : Addr} {i : Nat} {t : Option Addr} {h : Heap} (q : ZSt z TI TO i1 i2 a b i t h) : ∀ c, c = z ∨ c = TI ∨ c = TO ∨ c = i1 ∨ c = i2 → ∃ o, h.get? c = some o ∧ ∀ v, o.data ≠ .cell v := by
  obtain ⟨h1, ⟨o2, e2, _, d2⟩, ⟨o3, e3, _, d3⟩, ⟨x, y, h4⟩, h5⟩ := q
  rintro c (rfl | rfl | rfl | rfl | rfl)
  · cases t with
    | none => exact ⟨_, h5, fun v z => nomatch z⟩
    | some T => obtain ⟨f, h5⟩ := h5; exact ⟨_, h5, fun v z => nomatch z⟩
  · exact ⟨_, h1, fun v z => nomatch z⟩
  · exact ⟨_, h4, fun v z => nomatch z⟩
  · exact ⟨_, e2, fun v z => by rw [d2] at z; cases z⟩
  · exact ⟨_, e3, fun v z => by rw [d3] at z; cases z⟩
theorem ZSt.keep {z TI TO i1 i2 a b : Addr} {i : Nat} {t : Option Addr} {h h' : Heap} (q : ZSt z TI TO i1 i2 a b i t h) (k : ∀ c, c = z ∨ c = TI ∨ c = TO ∨ c = i1 ∨ c = i2 → ∀ o, h.get? c = some o → h'.get? c = some o) : ZSt z TI TO i1 i2 a b i t h' := by
  obtain ⟨h1, h2, h3, ⟨x, y, h4⟩, h5⟩ := q
  refine ⟨k _ (.inr (.inl rfl)) _ h1, h2.at fun o e => k _ (.inr (.inr (.inr (.inl rfl)))) o e, h3.at fun o e => k _ (.inr (.inr (.inr (.inr rfl)))) o e, ⟨x, y, k _ (.inr (.inr (.inl rfl))) _ h4⟩, ?_⟩
  cases t with
  | none => exact k _ (.inl rfl) _ h5
  | some T => obtain ⟨f, h5⟩ := h5; exact ⟨f, k _ (.inl rfl) _ h5⟩
theorem nextOf_zip_item {z TI TO i1 i2 a b : Addr} {i : Nat} {t : Option Addr} {xs ys : Array Value} {x y : Value} {Q : Value → Shared → Prop} (D : ZipApart z TI TO i1 i2 a b) (q : ZSt z TI TO i1 i2 a b i t s.heap) (ht : ∀ T, t = some T → ∃ o, s.heap.get? T = some o)
    (hl1 : s.heap.IsList a xs) (hl2 : s.heap.IsList b ys) (hx : xs[i]? = some x) (hy : ys[i]? = some y)
    (hQ : ∀ h', ZSt z TI TO i1 i2 a b (i + 1) (some (t.getD s.heap.objs.size)) h' → IsPair h' s.heap.objs.size x y → h'.objs.size = s.heap.objs.size + 1 → (∀ c o, c ≠ z → c ≠ TO → c ≠ i1 → c ≠ i2 → s.heap.get? c = some o → h'.get? c = some o) → Q (.ref s.heap.objs.size) { s with heap := h' }) :
    wpAny (model prog w) A (Builtin.SmallTypes.nextOf (.ref z)) Q E s := by
  obtain ⟨h1, h2, h3, ⟨x0, y0, h4⟩, h5⟩ := q
  have hT : s.TypeIs (.ref z) "zip" := by
    cases t with
    | none => exact ⟨_, h5, rfl⟩
    | some T => obtain ⟨f, h5⟩ := h5; exact ⟨_, h5, rfl⟩
  unfold Builtin.SmallTypes.nextOf
  refine wpAny_bind (wpAny_callSpecial?_slot (name := Str.ofString "__next__") hT F.slot_zip_next (wpAny_call_entry F.slot_zip_next hT F.entry_zip_next ?_ (F.args_zip_next_1 _)))
  cases t with
  | none => exact zip_next_item D h5 h1 h4 h2 h3 hl1 hl2 hx hy fun h' a1 a2 a3 a4 a5 a6 a7 => wpAny_pure (hQ h' ⟨a7 _ _ D.TIz D.TITO D.TIi1 D.TIi2 h1, a3, a4, ⟨_, _, a2⟩, false, a1⟩ a5 a6 a7)
  | some T =>
    obtain ⟨f, h5⟩ := h5
    obtain ⟨oT, eT⟩ := ht T rfl
    exact zip_next_item_held D h5 eT h1 h2 h3 hl1 hl2 hx hy fun h' a1 a2 a3 a4 a5 a6 => wpAny_pure (hQ h' ⟨a6 _ _ D.TIz D.TIi1 D.TIi2 h1, a2, a3, ⟨_, _, a6 _ _ D.TOz D.TOi1 D.TOi2 h4⟩, true, a1⟩ a4 a5 fun c o c1 _ c3 c4 e => a6 c o c1 c3 c4 e)
/-- StopIteration comes out of the zip -/
theorem nextOf_zip_end {z TI TO i1 i2 a b : Addr} {i : Nat} {t : Option Addr} {xs ys : Array Value} {Q : Value → Shared → Prop} (hh : A.handled = none) (D : ZipApart z TI TO i1 i2 a b) (q : ZSt z TI TO i1 i2 a b i t s.heap) (ht : ∀ T, t = some T → ∃ o, s.heap.get? T = some o)
    (hl1 : s.heap.IsList a xs) (hl2 : s.heap.IsList b ys) (hend : xs[i]? = none ∨ ys[i]? = none)
    (hE : ∀ h' e, (∀ c o, c ≠ z → c ≠ TO → c ≠ i1 → c ≠ i2 → s.heap.get? c = some o → h'.get? c = some o) → (∃ o, h'.get? e = some o ∧ o.cls = .type "StopIteration") → E (.ref e) { s with heap := h' }) :
    wpAny (model prog w) A (Builtin.SmallTypes.nextOf (.ref z)) Q E s := by
  obtain ⟨h1, h2, h3, ⟨x0, y0, h4⟩, h5⟩ := q
  have hT : s.TypeIs (.ref z) "zip" := by
    cases t with
    | none => exact ⟨_, h5, rfl⟩
    | some T => obtain ⟨f, h5⟩ := h5; exact ⟨_, h5, rfl⟩
  unfold Builtin.SmallTypes.nextOf
  refine wpAny_bind (wpAny_callSpecial?_slot (name := Str.ofString "__next__") hT F.slot_zip_next (wpAny_call_entry F.slot_zip_next hT F.entry_zip_next ?_ (F.args_zip_next_1 _)))
  cases t with
  | none => exact zip_next_end hh D h5 h1 h4 h2 h3 hl1 hl2 hend hE
  | some T =>
    obtain ⟨f, h5⟩ := h5
    obtain ⟨oT, eT⟩ := ht T rfl
    exact zip_next_end_held hh D h5 eT h1 h2 h3 hl1 hl2 hend fun h' e k => hE h' e fun c o c1 _ c3 c4 => k c o c1 c3 c4
/-- enumerate.__next__ over any iterator whose own objects are in fp -/
theorem enum_next_over {e z : Addr} {i : Nat} {old : Value} {fp : List Addr} {In : Value → Heap → Prop} {Q : Value → Shared → Prop} (he : IsEnum s.heap e z i old) (hef : e ∉ fp)
    (inner : ∀ (Q' : Value → Shared → Prop), (∀ x h₁, In x h₁ → s.heap.objs.size ≤ h₁.objs.size → (∀ c o, c ∉ fp → s.heap.get? c = some o → h₁.get? c = some o) → Q' x { s with heap := h₁ }) → wpAny (model prog w) A (Builtin.SmallTypes.nextOf (.ref z)) Q' E s)
    (hQ : ∀ x h₁ h', In x h₁ → IsEnumOut h' e z ((i : Int) + 1) x h₁.objs.size → h'.get? h₁.objs.size = some { cls := .type "tuple", data := .seq #[.int i s.toks, x] } → h'.objs.size = h₁.objs.size + 1 →
      s.heap.objs.size ≤ h₁.objs.size → (∀ c o, c ∉ fp → s.heap.get? c = some o → h₁.get? c = some o) → (∀ c o, c ≠ e → h₁.get? c = some o → h'.get? c = some o) → Q (.ref h₁.objs.size) { s with heap := h', toks := s.toks + 1 }) :
    wpAny (model prog w) A (Builtin.«enumerate.__next__» ⟨[.ref e], []⟩) (fun fin s' => ∃ v, fin = .done (.ret v) ∧ Q v s') E s := by
  obtain ⟨hp, g, d, tk, os⟩ := s
  show wpAny _ _ (field (.ref e) 2 >>= _) _ _ _
  refine wpAny_bind (wpAny_field he rfl (x := .ref z) rfl ?_)
  refine wpAny_bind (inner _ fun x h₁ hin hz1 hk1 => ?_)
  have he₁ : IsEnum h₁ e z i old := hk1 e _ hef he
  show wpAny _ _ (field (.ref e) 3 >>= _) _ _ ⟨h₁, g, d, tk, os⟩
  refine wpAny_bind (wpAny_field he₁ rfl (x := rawInt i) rfl ?_)
  show wpAny _ _ (field (.ref e) 4 >>= _) _ _ ⟨h₁, g, d, tk, os⟩
  refine wpAny_bind (wpAny_field he₁ rfl (x := .none) rfl ?_)
  show wpAny _ _ (mkInt i >>= _) _ _ ⟨h₁, g, d, tk, os⟩
  refine wpAny_bind (wpAny_mkInt ?_)
  show wpAny _ _ (setField (.ref e) 3 (rawInt ((i : Int) + 1)) >>= _) _ _ ⟨h₁, g, d, tk + 1, os⟩
  refine wpAny_bind (wpAny_setField_rec he₁ (by simp) fun h₂ he₂ hs₂ => ?_)
  replace hs₂ : Heap.SameBut e h₁ h₂ := hs₂
  replace he₂ : IsEnum h₂ e z ((i : Int) + 1) old := he₂
  show wpAny _ _ (setField (.ref e) 4 .none >>= _) _ _ ⟨h₂, g, d, tk + 1, os⟩
  refine wpAny_bind (wpAny_setField_rec he₂ (by simp) fun h₃ he₃ hs₃ => ?_)
  replace hs₃ : Heap.SameBut e h₂ h₃ := hs₃
  replace he₃ : IsEnum h₃ e z ((i : Int) + 1) old := he₃
  show wpAny _ _ (newTuple [.int i tk, x] >>= _) _ _ ⟨h₃, g, d, tk + 1, os⟩
  refine wpAny_bind (wpAny_newTuple ?_)
  have he₄ : IsEnum (h₃.push { cls := .type "tuple", data := .seq #[.int i tk, x] }) e z ((i : Int) + 1) old := Heap.get?_push_of_some _ he₃
  generalize hh₄ : h₃.push { cls := .type "tuple", data := .seq #[.int i tk, x] } = h₄ at he₄
  have hsz : h₃.objs.size = h₁.objs.size := by rw [hs₃.1, hs₂.1]
  have hel : e < h₁.objs.size := Heap.lt_size he₁
  have ht₄ : h₄.get? h₁.objs.size = some { cls := .type "tuple", data := .seq #[.int i tk, x] } := by rw [← hh₄, ← hsz]; exact Heap.get?_push_size _ rfl
  have hz₄ : h₄.objs.size = h₁.objs.size + 1 := by rw [← hh₄, Heap.size_push, hsz]
  have hk₄ : ∀ b o, b ≠ e → h₁.get? b = some o → h₄.get? b = some o := fun b o hbe hb => by
    rw [← hh₄]; exact Heap.get?_push_of_some _ (hs₃.extBut b o hbe (hs₂.extBut b o hbe hb))
  show wpAny _ _ (Builtin.SmallTypes.ownedTupleIsFree (.ref e) >>= _) _ _ ⟨h₄, g, d, tk + 1, os⟩
  rw [hsz]
  clear hh₄ he₃ hs₃ he₂ hs₂ hsz h₃ h₂
  refine wpAny_bind ?_
  · unfold Builtin.SmallTypes.ownedTupleIsFree
    refine wpAny_bind (wpAny_field he₄ rfl (x := .none) rfl (wpAny_pure ?_))
    simp only [if_true]
    refine wpAny_bind (wpAny_rule ?_)
    refine wpAny_bind (wpAny_field he₄ rfl (x := old) rfl ?_)
    refine wpAny_bind (wpAny_setField_rec he₄ (by simp) fun h₅ he₅ hs₅ => ?_)
    replace hs₅ : Heap.SameBut e h₄ h₅ := hs₅
    replace he₅ : IsEnum h₅ e z ((i : Int) + 1) x := he₅
    show wpAny _ _ (Builtin.SmallTypes.ownedTupleHandOut (.ref e) (.ref h₁.objs.size) >>= _) _ _ ⟨h₅, g, d, tk + 1, os⟩
    refine wpAny_bind ?_
    · unfold Builtin.SmallTypes.ownedTupleHandOut
      refine wpAny_bind (wpAny_setField_rec he₅ (by simp) fun h₆ he₆ hs₆ => ?_)
      replace hs₆ : Heap.SameBut e h₅ h₆ := hs₆
      replace he₆ : IsEnumOut h₆ e z ((i : Int) + 1) x h₁.objs.size := he₆
      refine wpAny_setField_rec he₆ (by simp) fun h₇ he₇ hs₇ => ?_
      replace hs₇ : Heap.SameBut e h₆ h₇ := hs₇
      replace he₇ : IsEnumOut h₇ e z ((i : Int) + 1) x h₁.objs.size := he₇
      refine wpAny_bind (wpAny_letGo (wpAny_pure ⟨_, rfl, hQ x h₁ h₇ hin he₇ ?_ ?_ hz1 hk1 ?_⟩))
      · exact hs₇.extBut _ _ (Nat.ne_of_gt hel) (hs₆.extBut _ _ (Nat.ne_of_gt hel) (hs₅.extBut _ _ (Nat.ne_of_gt hel) ht₄))
      · rw [hs₇.1, hs₆.1, hs₅.1, hz₄]
      · exact fun b o hbe hb => hs₇.extBut b o hbe (hs₆.extBut b o hbe (hs₅.extBut b o hbe (hk₄ b o hbe hb)))
theorem pyNext_enum_over {e z : Addr} {i : Nat} {old : Value} {fp : List Addr} {In : Value → Heap → Prop} {Q : Option Value → Shared → Prop} (he : IsEnum s.heap e z i old) (hef : e ∉ fp)
    (inner : ∀ (A : Around) (E : Value → Shared → Prop) (Q' : Value → Shared → Prop), (∀ x h₁, In x h₁ → s.heap.objs.size ≤ h₁.objs.size → (∀ c o, c ∉ fp → s.heap.get? c = some o → h₁.get? c = some o) → Q' x { s with heap := h₁ }) → wpAny (model prog w) A (Builtin.SmallTypes.nextOf (.ref z)) Q' E s)
    (hQ : ∀ x h₁ h', In x h₁ → IsEnumOut h' e z ((i : Int) + 1) x h₁.objs.size → h'.get? h₁.objs.size = some { cls := .type "tuple", data := .seq #[.int i s.toks, x] } → h'.objs.size = h₁.objs.size + 1 →
      s.heap.objs.size ≤ h₁.objs.size → (∀ c o, c ∉ fp → s.heap.get? c = some o → h₁.get? c = some o) → (∀ c o, c ≠ e → h₁.get? c = some o → h'.get? c = some o) → Q (some (.ref h₁.objs.size)) { s with heap := h', toks := s.toks + 1 }) :
    wpAny (model prog w) A (pyNext (.ref e)) Q E s := by
  have hT : s.TypeIs (.ref e) "enumerate" := ⟨_, he, rfl⟩
  unfold pyNext
  exact wpAny_bind (wpAny_attempt (wpAny_callSpecial?_slot (name := Str.ofString "__next__") hT F.slot_enumerate_next
    (wpAny_call_entry F.slot_enumerate_next hT F.entry_enumerate_next
      (enum_next_over he hef (inner _ _) fun x h₁ h' a b c d e f g => wpAny_pure (hQ x h₁ h' a b c d e f g)) (F.args_enumerate_next_1 _))))
theorem pyNext_enum_stop {e z : Addr} {i : Nat} {old : Value} {fp : List Addr} {Q : Option Value → Shared → Prop} (he : IsEnum s.heap e z i old)
    (inner : ∀ (E : Value → Shared → Prop) (Q' : Value → Shared → Prop), (∀ h' x, (∀ c o, c ∉ fp → s.heap.get? c = some o → h'.get? c = some o) → (∃ o, h'.get? x = some o ∧ o.cls = .type "StopIteration") → E (.ref x) { s with heap := h' }) → wpAny (model prog w) A.in1 (Builtin.SmallTypes.nextOf (.ref z)) Q' E s)
    (hQ : ∀ h', (∀ c o, c ∉ fp → s.heap.get? c = some o → h'.get? c = some o) → Q none { s with heap := h' }) : wpAny (model prog w) A (pyNext (.ref e)) Q E s := by
  have hT : s.TypeIs (.ref e) "enumerate" := ⟨_, he, rfl⟩
  unfold pyNext
  refine wpAny_bind (wpAny_attempt (wpAny_callSpecial?_slot (name := Str.ofString "__next__") hT F.slot_enumerate_next
    (wpAny_call_entry F.slot_enumerate_next hT F.entry_enumerate_next ?_ (F.args_enumerate_next_1 _))))
  show wpAny _ _ (field (.ref e) 2 >>= _) _ _ _
  refine wpAny_bind (wpAny_field he rfl (x := .ref z) rfl ?_)
  refine wpAny_bind (inner _ _ fun h' x he' hx' => ?_)
  obtain ⟨o, ho, hc⟩ := hx'
  refine wpAny_bind (wpAny_isInstance (T := "StopIteration") (b := true) ⟨o, ho, hc⟩ isSubtype_stop ?_)
  exact wpAny_pure (hQ _ he')
end
theorem meets_enum_newZ (z TI TO : Addr) (v0 : Value) :
    Meets (Builtin.«enumerate.__new__» ⟨[.type "enumerate", .ref z], []⟩) (fun _ R s => IsZip s.heap z TI TO v0 ∧
      R (.ok (.ret (.ref s.heap.objs.size))) { s with heap := s.heap.push { cls := .type "enumerate", data := .fields #[.none, .bool false, .ref z, rawInt 0, .none, .none] } }) :=
  .of_wp fun prog w A R s h => by
    obtain ⟨hp, g, d, tk, os⟩ := s; obtain ⟨h1, h⟩ := h
    have hsub := sub_enumerate
    have q1 : ∀ {A' : Around} {E : Value → Shared → Prop} {Q : Value → Shared → Prop}, Q (.ref z) ⟨hp, g, d, tk, os⟩ → wpAny (model prog w) A' (pyIter (.ref z)) Q E ⟨hp, g, d, tk, os⟩ :=
      fun q => wpAny_pyIter_zip h1 q
    wp_walk using q1
    refine wpAny_stack_any fun st => wpAny_pure ?_
    split
    · rename_i c _ _ _ _ _
      cases (c == Value.type "enumerate")
      · wp_walk using q1
        exact ⟨_, rfl, h⟩
      · wp_walk using q1
        exact ⟨_, rfl, h⟩
    · wp_walk using q1
      exact ⟨_, rfl, h⟩
theorem call_enum_zip {prog : Program} {w : World} {A : Around} {E : Value → Shared → Prop} {s : Shared} {z TI TO : Addr} {v0 : Value} {Q : Value → Shared → Prop} (hz : IsZip s.heap z TI TO v0)
    (h : ∀ h', IsEnum h' s.heap.objs.size z 0 .none → h'.objs.size = s.heap.objs.size + 1 → (∀ b o, s.heap.get? b = some o → h'.get? b = some o) → Q (.ref s.heap.objs.size) { s with heap := h' }) :
    wpAny (model prog w) A (call (.type "enumerate") [.ref z]) Q E s := by
  refine callType_new F.called_enumerate (by decide) (F.typeCall_enumerate_1 _) (F.newCall_enumerate_1 _) (fun obj => F.args_object_init_2 obj _) F.entry_enumerate_new (meets_enum_newZ z TI TO v0) ⟨hz, ?_⟩
  show _ ∧ _
  have he : IsEnum (s.heap.push { cls := .type "enumerate", data := .fields #[.none, .bool false, .ref z, rawInt 0, .none, .none] }) s.heap.objs.size z 0 .none := Heap.get?_push_size _ rfl
  exact ⟨⟨_, he, rfl⟩, h _ he (Heap.size_push ..) fun b o x => Heap.get?_push_of_some _ x⟩
end Mx

set_option Elab.async false
set_option autoImplicit false
set_option linter.all false
set_option maxRecDepth 100000
set_option maxHeartbeats 1000000
/-! Mx41: for .. in enumerate(zip(a, b)). -/
namespace Mx
open PySem PySem.Spec PyProof.Rows L2
open L2 (Inv)
def ezGo (K : PySem.W.Frag) (a b : Addr) (i : Nat) (H : Hp) : Prop := ∃ (xs ys : List V) (x y : V), SqL K H a xs ∧ SqL K H b ys ∧ xs[i]? = some x ∧ ys[i]? = some y
def ezStop (K : PySem.W.Frag) (a b : Addr) (i : Nat) (H : Hp) : Prop := ∃ xs ys : List V, SqL K H a xs ∧ SqL K H b ys ∧ (xs.length ≤ i ∨ ys.length ≤ i)
def ezYld (K : PySem.W.Frag) (a b : Addr) (i : Nat) (H : Hp) (v : V) (H' : Hp) (T1 : Addr) : Prop :=
  ∃ T2 x y, v = .ref T2 ∧ H T1 = none ∧ H T2 = none ∧ T2 ≠ T1 ∧ H' = upd (upd H T1 (.tup [x, y])) T2 (.tup [.int (i : Nat), .ref T1]) ∧ (∀ xs, SqL K H a xs → xs[i]? = some x) ∧ ∀ ys, SqL K H b ys → ys[i]? = some y
def ezTn (e z TI TO i1 i2 a b : Addr) (i : Nat) (t : Option Addr) (h : Heap) : Prop := (∃ old, IsEnum h e z ((i : Nat) : Int) old) ∧ ZSt z TI TO i1 i2 a b i t h
def ezFp (z TI TO i1 i2 : Addr) : List Addr := [z, TI, TO, i1, i2]
theorem ez_mem {z TI TO i1 i2 c : Addr} : c ∈ ezFp z TI TO i1 i2 ↔ c = z ∨ c = TI ∨ c = TO ∨ c = i1 ∨ c = i2 := by simp [ezFp]
theorem ezTn.obj {e z TI TO i1 i2 a b : Addr} {i : Nat} {t : Option Addr} {h : Heap} (q : ezTn e z TI TO i1 i2 a b i t h) : ∀ c ∈ e :: ezFp z TI TO i1 i2, ∃ o, h.get? c = some o ∧ ∀ v, o.data ≠ .cell v := by
  obtain ⟨⟨old, he⟩, st⟩ := q
  intro c m
  rcases List.mem_cons.mp m with rfl | m
  · exact ⟨_, he, fun v z => nomatch z⟩
  · exact st.obj c (ez_mem.mp m)
theorem ezTn.keep {e z TI TO i1 i2 a b : Addr} {i : Nat} {t : Option Addr} {h h' : Heap} (q : ezTn e z TI TO i1 i2 a b i t h) (k : ∀ c ∈ e :: ezFp z TI TO i1 i2, ∀ o, h.get? c = some o → h'.get? c = some o) : ezTn e z TI TO i1 i2 a b i t h' := by
  obtain ⟨⟨old, he⟩, st⟩ := q
  exact ⟨⟨old, k e (List.mem_cons_self ..) _ he⟩, st.keep fun c m => k c (List.mem_cons_of_mem _ (ez_mem.mpr m))⟩
section
variable {X : Cx} {e z TI TO i1 i2 a b : Addr} {i kk : Nat} {t : Option Addr} {pins : List (Addr × Obj)} {s : Shared} {σ : L2.St} {H : Hp} {E : Value → Shared → Prop} {elts : List Expr} {tpos : Pos}
theorem ez_item (D : ZipApart z TI TO i1 i2 a b) (hef : e ∉ ezFp z TI TO i1 i2) (I : Inv X pins σ H s) (hf : ∀ c ∈ e :: ezFp z TI TO i1 i2, FpOk X pins H c) (st : ezTn e z TI TO i1 i2 a b i t s.heap) (go : ezGo X.K a b i H) (ht : ∀ T, t = some T → ∃ xs, H T = some (.tup xs)) :
    wpAny (model X.prog X.w) X.A (pyNext (.ref e)) (fun r s1 => ∃ u, r = some u ∧ wpAny (model X.prog X.w) X.A (letOwnedTupleGo (.Tuple elts kk tpos) (.ref e) u) (fun _ s2 => ∃ x H' T1, Inv X pins σ H' s2 ∧ RelV x u ∧ ezYld X.K a b i H x H' T1 ∧
      ezTn e z TI TO i1 i2 a b (i + 1) (some (t.getD T1)) s2.heap ∧ ∀ c ∈ e :: ezFp z TI TO i1 i2, H' c = none) E s1) E s := by
  obtain ⟨xs, ys, x, y, hqx, hqy, hx, hy⟩ := go
  obtain ⟨its, rv, p, _⟩ := I.list hqx
  obtain ⟨its2, rv2, p2, _⟩ := I.list hqy
  obtain ⟨u, hu, ru⟩ := rv.get hx
  obtain ⟨u2, hu2, ru2⟩ := rv2.get hy
  have old := st.obj
  obtain ⟨⟨ov, he⟩, zs⟩ := st
  have lt : ∀ c ∈ e :: ezFp z TI TO i1 i2, c < s.heap.objs.size := fun c m => let ⟨o, ho, _⟩ := old c m; Heap.lt_size ho
  have hT : ∀ T, t = some T → ∃ o, s.heap.get? T = some o := fun T q => let ⟨xs, e⟩ := ht T q; objOk_get (I.hok T _ e)
  have hf5 : ∀ c ∈ ezFp z TI TO i1 i2, FpOk X pins H c := fun c m => hf c (List.mem_cons_of_mem _ m)
  refine pyNext_enum_over (fp := ezFp z TI TO i1 i2) (In := fun x h₁ => x = .ref s.heap.objs.size ∧ ZSt z TI TO i1 i2 a b (i + 1) (some (t.getD s.heap.objs.size)) h₁ ∧ IsPair h₁ s.heap.objs.size u u2 ∧ h₁.objs.size = s.heap.objs.size + 1) he hef (fun A E Q' k => ?_) fun v h₁ h' hin ho hp2 hsz ge k1 k2 => ?_
  · refine nextOf_zip_item D zs hT p.isList p2.isList (x := u) (y := u2) (by simpa using hu) (by simpa using hu2) fun h' zs' pr hz kp => k _ _ ⟨rfl, zs', pr, hz⟩ (by omega) fun c o nc q => ?_
    exact kp c o (fun z => nc (ez_mem.mpr (.inl z))) (fun z => nc (ez_mem.mpr (.inr (.inr (.inl z))))) (fun z => nc (ez_mem.mpr (.inr (.inr (.inr (.inl z)))))) (fun z => nc (ez_mem.mpr (.inr (.inr (.inr (.inr z)))))) q
  · obtain ⟨rfl, zs', pr, hz1⟩ := hin
    refine ⟨_, rfl, wpAny_letOwnedTupleGo_enum (s := { s with heap := h', toks := s.toks + 1 }) ho fun h'' he' sb => ?_⟩
    have hel : e < s.heap.objs.size := lt e (List.mem_cons_self ..)
    have new1 : ObjOk X.prog X.w (upd H s.heap.objs.size (.tup [x, y])) h₁ s.heap.objs.size (.tup [x, y]) := ⟨by show 2 ≤ sizeLine; decide, [u, u2], .cons ru (.cons ru2 .nil), ⟨_, pr, rfl, _, rfl⟩⟩
    have J1 : Inv X pins σ (upd H s.heap.objs.size (.tup [x, y])) { s with heap := h₁ } := I.turnedNew (t' := s.toks) (ch := ezFp z TI TO i1 i2) (fun c o hb q => k1 c o hb q) hf5 (Nat.le_refl _) new1
    have fe : ∀ c ∈ [e], FpOk X pins (upd H s.heap.objs.size (.tup [x, y])) c := fun c m => by
      rw [List.mem_singleton.mp m]
      have := hf e (List.mem_cons_self ..)
      exact ⟨by rw [upd_ne (Nat.ne_of_lt hel)]; exact this.1, this.2⟩
    have hT2 : h''.get? h₁.objs.size = some { cls := .type "tuple", data := .seq #[.int i s.toks, .ref s.heap.objs.size] } := (sb.2 _ (Nat.ne_of_gt (Nat.lt_of_lt_of_le hel ge))).trans hp2
    have new2 : ObjOk X.prog X.w (upd (upd H s.heap.objs.size (.tup [x, y])) h₁.objs.size (.tup [.int (i : Nat), .ref s.heap.objs.size])) h'' h₁.objs.size (.tup [.int (i : Nat), .ref s.heap.objs.size]) :=
      ⟨by show 2 ≤ sizeLine; decide, [.int i s.toks, .ref s.heap.objs.size], .cons ⟨_, rfl⟩ (.cons rfl .nil), ⟨_, hT2, rfl, _, rfl⟩⟩
    have J2 : Inv X pins σ (upd (upd H s.heap.objs.size (.tup [x, y])) h₁.objs.size (.tup [.int (i : Nat), .ref s.heap.objs.size])) { s with heap := h'', toks := s.toks + 1 } :=
      J1.turnedNew (t' := s.toks + 1) (ch := [e]) (fun c o hb q => (sb.2 c (fun z => hb (by simp [z]))).trans (k2 c o (fun z => hb (by simp [z])) q)) fe (Nat.le_refl _) new2
    have fr : ∀ c ∈ e :: ezFp z TI TO i1 i2, (upd (upd H s.heap.objs.size (.tup [x, y])) h₁.objs.size (.tup [.int (i : Nat), .ref s.heap.objs.size])) c = none := fun c m => by
      have := lt c m
      rw [upd_ne (Nat.ne_of_lt (Nat.lt_of_lt_of_le this ge)), upd_ne (Nat.ne_of_lt this)]
      exact (hf c m).1
    refine ⟨.ref h₁.objs.size, _, s.heap.objs.size, J2, rfl, ⟨h₁.objs.size, x, y, rfl, I.hok.fresh (Nat.le_refl _), I.hok.fresh ge, (by rw [hz1]; exact Nat.succ_ne_self _), rfl, fun l hl => by rw [I.list_inj hl hqx]; exact hx, fun l hl => by rw [I.list_inj hl hqy]; exact hy⟩, ⟨⟨.ref s.heap.objs.size, ?_⟩, zs'.keep fun c m o q => ?_⟩, fr⟩
    · have e1 : ((i + 1 : Nat) : Int) = (i : Int) + 1 := by omega
      rw [e1]; exact he'
    · have nce : c ≠ e := fun z => hef (by rw [← z]; exact ez_mem.mpr m)
      exact (sb.2 c nce).trans (k2 c o nce q)
theorem ez_done (hc : X.calm = true) (D : ZipApart z TI TO i1 i2 a b) (I : Inv X pins σ H s) (hf : ∀ c ∈ e :: ezFp z TI TO i1 i2, FpOk X pins H c) (st : ezTn e z TI TO i1 i2 a b i t s.heap) (go : ezStop X.K a b i H) (ht : ∀ T, t = some T → ∃ xs, H T = some (.tup xs)) :
    wpAny (model X.prog X.w) X.A (pyNext (.ref e)) (fun r s1 => r = none ∧ Inv X pins σ H s1) E s := by
  obtain ⟨xs, ys, hqx, hqy, hend⟩ := go
  obtain ⟨its, rv, p, _⟩ := I.list hqx
  obtain ⟨its2, rv2, p2, _⟩ := I.list hqy
  have l1 := rv.length
  have l2 := rv2.length
  have hn : its.toArray[i]? = none ∨ its2.toArray[i]? = none := by
    rcases hend with q | q
    · exact .inl (by simp; omega)
    · exact .inr (by simp; omega)
  obtain ⟨⟨ov, he⟩, zs⟩ := st
  have hT : ∀ T, t = some T → ∃ o, s.heap.get? T = some o := fun T q => let ⟨xs, e⟩ := ht T q; objOk_get (I.hok T _ e)
  have hd : X.A.in1.handled = none := I.ok.hd hc
  refine pyNext_enum_stop (fp := ezFp z TI TO i1 i2) he (fun E Q' k => nextOf_zip_end hd D zs hT p.isList p2.isList hn fun h' x kp ho => k h' x (fun c o nc q => ?_) ho) fun h' kp => ⟨rfl, ?_⟩
  · exact kp c o (fun z => nc (ez_mem.mpr (.inl z))) (fun z => nc (ez_mem.mpr (.inr (.inr (.inl z))))) (fun z => nc (ez_mem.mpr (.inr (.inr (.inr (.inl z)))))) (fun z => nc (ez_mem.mpr (.inr (.inr (.inr (.inr z)))))) q
  · exact I.turnedL (t' := s.toks) (ch := ezFp z TI TO i1 i2) (fun c o nc q => kp c o nc q) fun c m => hf c (List.mem_cons_of_mem _ m)
end
def tForEZ (K : PySem.W.Frag) (ta : TA) (g : TG) (tb : TS) : TS := fun D σ H => ta σ H fun vs H1 => ∃ a b xs ys, vs = [.ref a, .ref b] ∧ SqL K H1 a xs ∧ SqL K H1 b ys ∧ ∃ W : Nat → Option Addr → Nat → L2.St → Hp → Prop, (∃ m, W 0 none m σ H1) ∧
  ∀ i t m σ H, W i t m σ H → (∀ T, t = some T → ∃ xs, H T = some (.tup xs)) ∧ ((ezStop K a b i H ∧ D.nx σ H) ∨ (ezGo K a b i H ∧ ∃ N : Addr → L2.St → Hp → Prop, (∀ T σ' H', N T σ' H' → ∃ m', m' < m ∧ W (i + 1) (some (t.getD T)) m' σ' H') ∧
    ∀ x H' T, ezYld K a b i H x H' T → g x σ H' fun σ2 H2 => tb { D with nx := N T, ct := N T, bk := D.nx } σ2 H2))
theorem ps_forEZ {X : Cx} {e1 e2 : Expr} {ta : TA} {elts : List Expr} {kk : Nat} {tpos p p2 pos2 pos3 pos : Pos} {g : TG} {body : List Stmt} {tb : TS} (hp : PassesOwn (model X.prog X.w) X.A X.env X.xe) (hc : X.calm = true) (hg1 : Gl X "enumerate") (hm1 : X.mg "enumerate" = none) (hg2 : Gl X "zip") (hm2 : X.mg "zip" = none)
    (ha : PA X [e1, e2] ta) (hg : PG X (.Tuple elts kk tpos) g) (hb : PSs X body tb)
    (hsz : starEach [e1, e2] X.env = (false, eval e1 X.env) :: starEach [e2] X.env := by rfl) (hpl : (backTo pos2 (starEach [e2] X.env)).any (·.1) = false := by rfl)
    (hse : starEach [.Call (.Name "zip" p2) [e1, e2] [] pos2] X.env = (false, eval (.Call (.Name "zip" p2) [e1, e2] [] pos2) X.env) :: starEach [] X.env := by rfl)
    (hs : ∀ x, foldedSetIterable (.Call (.Name "enumerate" p) [.Call (.Name "zip" p2) [e1, e2] [] pos2] [] pos3) X.env x = pure x := by intro _; rfl) :
    PS X (.For (.Tuple elts kk tpos) (.Call (.Name "enumerate" p) [.Call (.Name "zip" p2) [e1, e2] [] pos2] [] pos3) body [] pos) (tForEZ X.K ta g tb) := by
  refine ⟨fun pins s σ H D I h => ?_⟩
  refine wpAny_For ?_ hs
  refine wpAny_Call_Name_kw (ld_blt I hg1 hm1 boot_enumerate ?_)
  refine PyProof.Rows.callWith_type1 ?_ hse rfl
  rw [hse]
  show wpAny _ _ (spliced ((false, eval (.Call (.Name "zip" p2) [e1, e2] [] pos2) X.env) :: backTo pos3 (starEach [] X.env))) _ _ s
  refine Calls.spliced_cons ?_
  refine wpAny_Call_Name_kw (ld_blt I hg2 hm2 PyProof.Rows.boot_zip ?_)
  refine PyProof.Rows.callWith_type1 (thn (ha.run pos2 pins s σ H _ I h) fun us s1 ⟨vs, H1, I1, r1, q1⟩ => ?_) hsz hpl
  obtain ⟨a, b, xs, ys, ex, hqx, hqy, W, ⟨m0, w0⟩, turn⟩ := q1
  subst ex
  cases r1 with
  | cons r rr =>
    cases rr with
    | cons r' rr =>
      cases rr
      cases r
      cases r'
      obtain ⟨its, rv, p1, _⟩ := I1.list hqx
      obtain ⟨its2, rv2, p2', _⟩ := I1.list hqy
      have la : a < s1.heap.objs.size := p1.lt
      have lb : b < s1.heap.objs.size := p2'.lt
      refine call_zip_2 p1.isList p2'.isList fun h' hz hTI hTO h1 h2 hsz' hk => ?_
      refine Calls.spliced_nil ?_
      refine call_enum_zip (s := { s1 with heap := h' }) hz fun h'' he hsz'' hk' => ?_
      show wpAny _ _ (pyIter (.ref h'.objs.size)) _ _ _
      refine wpAny_pyIter_enum he ?_
      rw [hsz'] at he
      have D0 := PySem.W.ktu_apart s1.heap.objs.size a b la lb
      rw [hsz']
      obtain ⟨sz, hsd⟩ : ∃ n, n = s1.heap.objs.size := ⟨_, rfl⟩
      rw [← hsd] at he hz hTI hTO h1 h2 D0 ⊢
      have I3 : Inv X pins σ H1 { s1 with heap := h'' } := (I1.kept (t' := s1.toks) hk).kept (t' := s1.toks) hk'
      have hef : sz + 5 ∉ ezFp (sz + 4) (sz + 2) (sz + 3) sz (sz + 1) := fun z => by
        rcases ez_mem.mp z with z | z | z | z | z <;> exact absurd z (by show ¬ (_ : Nat) = _; omega)
      have fp0 : ∀ c ∈ (sz + 5) :: ezFp (sz + 4) (sz + 2) (sz + 3) sz (sz + 1), FpOk X pins H1 c := fun c m => by
        have hle : s1.heap.objs.size ≤ c := by
          rw [← hsd]
          rcases List.mem_cons.mp m with z | z
          · rw [z]; exact Nat.le_add_right _ _
          · rcases ez_mem.mp z with z | z | z | z | z <;> (rw [z]; first | exact Nat.le_refl _ | exact Nat.le_add_right _ _)
        exact I1.fpOk hle (I1.hok.fresh hle)
      have st0 : ezTn (sz + 5) (sz + 4) (sz + 2) (sz + 3) sz (sz + 1) a b 0 none h'' := ⟨⟨_, he⟩, hk' _ _ hTI, h1.at fun o q => hk' _ _ q, h2.at fun o q => hk' _ _ q, ⟨_, _, hk' _ _ hTO⟩, hk' _ _ hz⟩
      clear he hz hTI hTO h1 h2 hsd hsz' hsz''
      generalize sz + 5 = e at *
      generalize sz + 4 = z at *
      generalize sz + 2 = TI at *
      generalize sz + 3 = TO at *
      generalize sz + 1 = i2 at *
      have stat : ∀ {H' : Hp}, (∀ c ∈ e :: ezFp z TI TO sz i2, H' c = none) → ∀ c ∈ e :: ezFp z TI TO sz i2, FpOk X pins H' c := fun hn c hb => ⟨hn c hb, (fp0 c hb).2⟩
      refine codeAny_forLoop_any (fun n s' => ∃ i t σ' H', Inv X pins σ' H' s' ∧ ezTn e z TI TO sz i2 a b i t s'.heap ∧ (∀ c ∈ e :: ezFp z TI TO sz i2, H' c = none) ∧ W i t n σ' H') ?_ m0 ⟨0, none, σ, H1, I3, st0, fun c hb => (fp0 c hb).1, w0⟩
      rintro n s3 ⟨i, t, σ3, H3, J3, st3, fr3, w3⟩
      obtain ⟨ht, alt⟩ := turn i t n σ3 H3 w3
      rcases alt with ⟨stop, qn⟩ | ⟨go, N, hN, step⟩
      · refine wpAny_passesOwn hp (thn (ez_done hc D0 J3 (stat fr3) st3 stop ht) fun r s4 ⟨hr, I4⟩ => ?_)
        subst hr
        exact wpAny_execs_nil ⟨σ3, H3, I4, qn⟩
      · refine wpAny_passesOwn hp (thn (ez_item (elts := elts) (kk := kk) (tpos := tpos) D0 hef J3 (stat fr3) st3 go ht) fun r s4 ⟨u, hr, h4⟩ => ?_)
        subst hr
        refine wpAny_passesOwn hp (thn h4 fun _ s5 ⟨x, H5, T1, I5, r5, y5, st5, fr5⟩ => ?_)
        have I5' := I5.pinned (stat fr5) st5.obj
        refine wpAny_passesOwn hp (thn (hg.run _ s5 σ3 H5 x u _ I5' r5 (step x H5 T1 y5)) fun _ s6 ⟨σ6, H6, I6, q6⟩ => ?_)
        refine wpAny_passesOwn hp (thn (hb.run _ s6 σ6 H6 _ I6 q6) fun f s7 q7 => ?_)
        have again : ∀ {σ7 : L2.St} {H7 : Hp}, Inv X (pins ++ pinsAt (e :: ezFp z TI TO sz i2) s5.heap) σ7 H7 s7 → N T1 σ7 H7 → ∃ m, m < n ∧ ∃ i t σ' H', Inv X pins σ' H' s7 ∧ ezTn e z TI TO sz i2 a b i t s7.heap ∧ (∀ c ∈ e :: ezFp z TI TO sz i2, H' c = none) ∧ W i t m σ' H' := fun {σ7 H7} I7 n7 => by
          obtain ⟨m', hm, w7⟩ := hN T1 σ7 H7 n7
          refine ⟨m', hm, i + 1, _, σ7, H7, I7.unpinned, st5.keep fun c hb o e => (I7.pin (c, o) (List.mem_append_right _ (List.mem_append_right _ (mem_pinsAt hb e)))).1, fun c hb => ?_, w7⟩
          obtain ⟨o, e, d⟩ := st5.obj c hb
          exact (I7.pin (c, o) (List.mem_append_right _ (List.mem_append_right _ (mem_pinsAt hb e)))).2.1
        cases f with
        | next => obtain ⟨σ7, H7, I7, n7⟩ := q7; exact again I7 n7
        | cont => obtain ⟨σ7, H7, I7, n7⟩ := q7; exact again I7 n7
        | brk => obtain ⟨σ7, H7, I7, q7⟩ := q7; exact ⟨σ7, H7, I7.unpinned, q7⟩
        | ret v => obtain ⟨x7, σ7, H7, I7, r7, q7⟩ := q7; exact ⟨x7, σ7, H7, I7.unpinned, r7, q7⟩
end Mx

set_option Elab.async false
set_option autoImplicit false
set_option linter.all false
set_option maxRecDepth 100000
set_option maxHeartbeats 1000000
/-! Mx42: .. in the layer. -/
namespace Mx
open PySem PySem.Spec PyProof.Rows L2
open L2 (Inv)
def mEZ (m : MA) : MI := fun env => (m env).bind fun (os, env1) => (toDats os env1).bind fun (ds, env2) => match ds with
  | [.list xs, .list ys] => some (enumD (zipD xs ys), env2)
  | _ => none
theorem tup_notOwn {W : Wd} {T0 : AS} {σ : L2.St} {H : Hp} {env : MEnv} {T : Addr} {xs : List V} (R : Rel W T0 σ H env) (e : H T = some (.tup xs)) : ¬ Own σ env T := fun ⟨j, ⟨l, d, ej⟩, es⟩ => by
  obtain ⟨v, ev, p, hp, c, n0⟩ := R.ok j _ ej
  rw [es] at ev
  cases ev
  cases hp
  cases d with
  | list ds => obtain ⟨ys, q, _⟩ := c; rw [e] at q; cases q
  | dict ds =>
    rcases c with ⟨ys, q, _⟩ | ⟨ys, q, _⟩
    · rw [e] at q; cases q
    · rw [e] at q; cases q
  | none => exact c.elim
  | bool b => exact c.elim
  | int i => exact c.elim
  | str x => exact c.elim
  | tuple ds => exact c.elim
theorem ez_at {ds es : List D} {i : Nat} {d : D} (h : (enumD (zipD ds es))[i]? = some d) : ∃ d0 d1, ds[i]? = some d0 ∧ es[i]? = some d1 ∧ d = .tuple [.int (i : Int), .tuple [d0, d1]] := by
  unfold enumD at h
  rw [List.getElem?_mapIdx] at h
  cases q : (zipD ds es)[i]? with
  | none => rw [q] at h; cases h
  | some w =>
    rw [q] at h
    cases h
    unfold zipD at q
    rw [List.getElem?_zipWith] at q
    cases q1 : ds[i]? with
    | none => rw [q1] at q; cases q
    | some d0 =>
      cases q2 : es[i]? with
      | none => rw [q1, q2] at q; cases q
      | some d1 =>
        rw [q1, q2] at q
        cases q
        exact ⟨d0, d1, rfl, rfl, rfl⟩
theorem for_splitEZ {W : Wd} {t : Tgt} {g : TG} {m : MA} {body : MS} {E : Ends} {σ : L2.St} {H : Hp} (tk : TgOk t g) (h : tS W (mFor t (mEZ m) body) E σ H) : tForEZ W.K (tMA W m) g (tSx W body) E σ H := by
  obtain ⟨T0, env, f, env', R, e, k⟩ := h
  unfold mFor at e
  cases eI : mEZ m env with
  | none => simp [eI] at e
  | some z =>
    obtain ⟨items, env1⟩ := z
    have e2 : mLoop t.put body items env1 = some (f, env') := by simpa [eI] using e
    clear e
    unfold mEZ at eI
    cases e0 : m env with
    | none => simp [e0] at eI
    | some z =>
      obtain ⟨os, env0⟩ := z
      cases e1 : toDats os env0 with
      | none => simp [e0, e1] at eI
      | some z =>
        obtain ⟨dl, env1'⟩ := z
        simp only [e0, e1, Option.bind] at eI
        split at eI
        · rename_i ds es
          cases eI
          refine ⟨T0, env, os, env0, R, e0, fun vs H1 k1 s1 o1 => ?_⟩
          obtain ⟨R1, s2, l⟩ := toDats_at o1 Osub.refl e1
          obtain ⟨x, y, rfl, hx, hy⟩ := atl2 l
          cases hx with
          | @lst a xs _ na qa la =>
          cases hy with
          | @lst b ys _ nb qb lb =>
          refine ⟨a, b, xs, ys, rfl, SqL.of qa, SqL.of qb, ?_⟩
          have s1 := s1.trans s2
          -- what the items are made of stays
          have hB : ∃ B1 : AS, B1 = fun a => W.B0 a ∨ (H1 a ≠ none ∧ ¬ Tot T0 σ env1 a) := ⟨_, rfl⟩
          obtain ⟨B1, hB1⟩ := hB
          have sB : ∀ a, W.B0 a → B1 a := fun a z => by rw [hB1]; exact .inl z
          have R1' : Rel (W.at B1) T0 σ H1 env1 := R1.at (fun a z => by rw [hB1] at z; exact z.elim (R1.bdom a) (·.1)) fun a z => by rw [hB1] at z; exact z.elim .inl fun q => .inr q.2
          have k' := (k.from (Stp.of k1 s1) R1).at (B0 := B1) sB
          refine ⟨fun i tt n σi Hi => n = (enumD (zipD ds es)).length - i ∧ i ≤ (enumD (zipD ds es)).length ∧ ∃ Bx envi, (∀ a, B1 a → Bx a) ∧ (∀ T, tt = some T → Bx T ∧ ∃ us, Hi T = some (.tup us)) ∧ Rel (W.at Bx) T0 σi Hi envi ∧ Stp (W.at B1) σ H1 env1 σi Hi envi ∧ mLoop t.put body ((enumD (zipD ds es)).drop i) envi = some (f, env'),
            ⟨_, rfl, Nat.zero_le _, B1, env1, fun _ z => z, fun T z => (nomatch z), R1', Stp.refl, by simpa using e2⟩, ?_⟩
          rintro i tt n σi Hi ⟨rfl, hi, Bx, envi, sx, ht, Ri, Si, run⟩
          refine ⟨fun T z => (ht T z).2, ?_⟩
          have M : Move (Tot T0 σ env1) (Tot T0 σi envi) H1 Hi := ⟨fun a o n q => by
            have bb : B1 a := by rw [hB1]; exact .inr ⟨by rw [q]; exact fun z => (nomatch z), n⟩
            refine ⟨Si.prot a o bb (fun z => n (.inr z)) q, fun z => ?_⟩
            rcases z with z | ⟨j, ⟨l, d, ej⟩, es⟩
            · exact n (.inl z)
            · cases l with
              | true =>
                obtain ⟨v, ev, pp, hp, c, n0⟩ := Ri.ok j _ ej
                rw [es] at ev
                cases ev
                cases hp
                exact (n0 rfl).2 (sx a bb)
              | false =>
                obtain ⟨w, d', w2⟩ := Si.par j d ej
                exact n (.inr ⟨j, ⟨false, d', w2⟩, w ▸ es⟩)⟩
          obtain ⟨qa', na'⟩ := M.mv _ _ na qa
          obtain ⟨qb', nb'⟩ := M.mv _ _ nb qb
          have la' := AtL.move M ds xs la
          have lb' := AtL.move M es ys lb
          by_cases hlt : i < (enumD (zipD ds es)).length
          · have hd : (enumD (zipD ds es)).drop i = (enumD (zipD ds es))[i] :: (enumD (zipD ds es)).drop (i + 1) := List.drop_eq_getElem_cons hlt
            obtain ⟨d0, d1, g0, g1, gd⟩ := ez_at (List.getElem?_eq_getElem hlt)
            rw [hd] at run
            unfold mLoop at run
            cases e3 : t.put (enumD (zipD ds es))[i] envi with
            | none => simp [e3] at run
            | some envA =>
              cases e4 : body envA with
              | none => simp [e3, e4] at run
              | some yy =>
                obtain ⟨fl, envB⟩ := yy
                simp only [e3, e4, Option.bind] at run
                obtain ⟨v0, hv0, a0⟩ := la'.get g0
                obtain ⟨v1, hv1, a1⟩ := lb'.get g1
                refine .inr ⟨⟨xs, ys, v0, v1, SqL.of qa', SqL.of qb', hv0, hv1⟩, fun T σ' H' => i + 1 ≤ (enumD (zipD ds es)).length ∧ ∃ Bx' envi, (∀ a, B1 a → Bx' a) ∧ (∀ T', some (tt.getD T) = some T' → Bx' T' ∧ ∃ us, H' T' = some (.tup us)) ∧ Rel (W.at Bx') T0 σ' H' envi ∧ Stp (W.at B1) σ H1 env1 σ' H' envi ∧ mLoop t.put body ((enumD (zipD ds es)).drop (i + 1)) envi = some (f, env'),
                  fun T σ' H' ⟨a, b⟩ => ⟨(enumD (zipD ds es)).length - (i + 1), by omega, rfl, a, b⟩, fun x H3 T y => ?_⟩
                obtain ⟨T2, u0, u1, rfl, f1, f2, fn, rfl, y0, y1⟩ := y
                have := y0 xs (SqL.of qa')
                rw [hv0] at this
                cases this
                have := y1 ys (SqL.of qb')
                rw [hv1] at this
                cases this
                have kp1 : Keep AS.emp Hi (upd Hi T (.tup [v0, v1])) := Keep.new f1
                have f2' : upd Hi T (.tup [v0, v1]) T2 = none := by rw [upd_ne fn]; exact f2
                have kp : Keep AS.emp Hi (upd (upd Hi T (.tup [v0, v1])) T2 (.tup [.int (i : Nat), .ref T])) := kp1.trans (Keep.new f2') fun _ z => z
                have MM : Move (Tot T0 σi envi) (Tot T0 σi envi) Hi (upd (upd Hi T (.tup [v0, v1])) T2 (.tup [.int (i : Nat), .ref T])) := Move.keep kp fun _ z => z.elim
                have hT3 : (upd (upd Hi T (.tup [v0, v1])) T2 (.tup [.int (i : Nat), .ref T])) T = some (.tup [v0, v1]) := by rw [upd_ne (Ne.symm fn), upd_same]
                have ax : At (Tot T0 σi envi) (upd (upd Hi T (.tup [v0, v1])) T2 (.tup [.int (i : Nat), .ref T])) (.ref T2) (enumD (zipD ds es))[i] := by
                  rw [gd]
                  exact .tup (Ri.fresh f2) upd_same (.cons (.int _) (.cons (.tup (Ri.fresh f1) hT3 (.cons (At.move MM d0 _ a0) (.cons (At.move MM d1 _ a1) .nil))) .nil))
                have R3 := Ri.grow kp
                have hW : ∃ Bn : AS, Bn = fun a => Bx a ∨ a = tt.getD T := ⟨_, rfl⟩
                obtain ⟨Bn, hBn⟩ := hW
                have hTt : ∃ us, (upd (upd Hi T (.tup [v0, v1])) T2 (.tup [.int (i : Nat), .ref T])) (tt.getD T) = some (.tup us) := by
                  cases tt with
                  | none => exact ⟨_, hT3⟩
                  | some T' =>
                    obtain ⟨us, q⟩ := (ht T' rfl).2
                    exact ⟨us, kp _ _ (fun z => z) q⟩
                have R3' : Rel (W.at Bn) T0 σi (upd (upd Hi T (.tup [v0, v1])) T2 (.tup [.int (i : Nat), .ref T])) envi := R3.at' (fun a z => by
                    rw [hBn] at z
                    rcases z with z | rfl
                    · exact R3.bdom a z
                    · obtain ⟨us, q⟩ := hTt; rw [q]; exact fun z => (nomatch z)) fun a z => by
                    rw [hBn] at z
                    rcases z with z | rfl
                    · exact .inl z
                    · obtain ⟨us, q⟩ := hTt; exact .inr (tup_notOwn R3 q)
                have S3 : Stp (W.at B1) σ H1 env1 σi (upd (upd Hi T (.tup [v0, v1])) T2 (.tup [.int (i : Nat), .ref T])) envi := Si.trans (W := W.at B1) (Ri.at (B0 := B1) (fun a z => Ri.bdom a (sx a z)) fun a z => .inl (sx a z)) ⟨fun a o _ _ q => kp a o (fun z => z) q, fun j d q => ⟨rfl, d, q⟩⟩
                have sn : ∀ a, B1 a → Bn a := fun a z => by rw [hBn]; exact .inl (sx a z)
                have R3b : Rel (W.at B1) T0 σi (upd (upd Hi T (.tup [v0, v1])) T2 (.tup [.int (i : Nat), .ref T])) envi := R3'.at (B0 := B1) (fun a z => R3'.bdom a (sn a z)) fun a z => .inl (sn a z)
                refine tk (W.at Bn) T0 σi _ envi _ (enumD (zipD ds es))[i] envA _ R3' ax e3 fun vs hv sA RA _ => ?_
                have S4 : Stp (W.at B1) σ H1 env1 _ _ envA := S3.trans R3b (sA.at (W := W.at Bn) (B0 := B1) sn)
                have RAb : Rel (W.at B1) T0 _ _ envA := RA.at (B0 := B1) (fun a z => RA.bdom a (sn a z)) fun a z => .inl (sn a z)
                refine ⟨Bn, T0, envA, fl, envB, RA, e4, ?_⟩
                have S5 : ∀ {σ' H'} {envC : MEnv}, Stp (W.at Bn) (setV (tsOf t.is) vs σi) (upd (upd Hi T (.tup [v0, v1])) T2 (.tup [.int (i : Nat), .ref T])) envA σ' H' envC → Stp (W.at B1) σ H1 env1 σ' H' envC := fun s => S4.trans RAb (s.at (W := W.at Bn) (B0 := B1) sn)
                have TK : ∀ {σ' H'}, Stp (W.at Bn) (setV (tsOf t.is) vs σi) (upd (upd Hi T (.tup [v0, v1])) T2 (.tup [.int (i : Nat), .ref T])) envA σ' H' envB → ∀ T', some (tt.getD T) = some T' → Bn T' ∧ ∃ us, H' T' = some (.tup us) := fun s T' q => by
                  cases q
                  obtain ⟨us, q⟩ := hTt
                  have bn : Bn (tt.getD T) := by rw [hBn]; exact .inr rfl
                  exact ⟨bn, us, s.prot _ _ bn (tup_notOwn RA q) q⟩
                cases fl with
                | nx => exact fun σ' H' s r => ⟨hlt, Bn, envB, sn, TK s, r, S5 s, run⟩
                | ct => exact fun σ' H' s r => ⟨hlt, Bn, envB, sn, TK s, r, S5 s, run⟩
                | bk =>
                  simp at run
                  obtain ⟨rfl, rfl⟩ := run
                  exact fun σ' H' s r => k' σ' H' (S5 s) (r.at (B0 := B1) (fun a z => r.bdom a (sn a z)) fun a z => .inl (sn a z))
                | rt o =>
                  simp at run
                  obtain ⟨rfl, rfl⟩ := run
                  exact fun σ' H' v s r => k' σ' H' v (S5 s) ((r.imp fun T R => R.at (B0 := B1) (fun a z => R.bdom a (sn a z)) fun a z => .inl (sn a z)).at (B0 := B1) sn)
          · have hi' : i = (enumD (zipD ds es)).length := by omega
            subst hi'
            rw [List.drop_length] at run
            cases run
            refine .inl ⟨⟨xs, ys, SqL.of qa', SqL.of qb', ?_⟩, k' σi Hi Si (Ri.at (B0 := B1) (fun a z => Ri.bdom a (sx a z)) fun a z => .inl (sx a z))⟩
            unfold enumD zipD
            rw [List.length_mapIdx, List.length_zipWith, la.length, lb.length]
            omega
        · cases eI
end Mx

set_option Elab.async false
set_option autoImplicit false
set_option linter.all false
set_option maxRecDepth 100000
set_option maxHeartbeats 1000000
/-! Mx43: the rules: for .. in enumerate(zip(..)), for x in reversed(list), d[k] = v. -/
namespace Mx
open PySem PySem.Spec PyProof.Rows L2
open L2 (Inv)
theorem pms_forEZ {W : Wd} {X : Cx} {e1 e2 : Expr} {m : MA} {elts : List Expr} {kk : Nat} {tpos p p2 pos2 pos3 pos : Pos} {body : List Stmt} {t : Tgt} {g : TG} {mb : MS} (hp : PassesOwn (model X.prog X.w) X.A X.env X.xe) (hc : X.calm = true)
    (hg1 : Gl X "enumerate") (hm1 : X.mg "enumerate" = none) (hg2 : Gl X "zip") (hm2 : X.mg "zip" = none) (hK : X.K = W.K) (ha : PMA W X [e1, e2] m) (tk : TgOk t g) (hg : PG X (.Tuple elts kk tpos) g) (hb : PMB W X body mb)
    (hsz : starEach [e1, e2] X.env = (false, eval e1 X.env) :: starEach [e2] X.env := by rfl) (hpl : (backTo pos2 (starEach [e2] X.env)).any (·.1) = false := by rfl)
    (hse : starEach [.Call (.Name "zip" p2) [e1, e2] [] pos2] X.env = (false, eval (.Call (.Name "zip" p2) [e1, e2] [] pos2) X.env) :: starEach [] X.env := by rfl)
    (hs : ∀ x, foldedSetIterable (.Call (.Name "enumerate" p) [.Call (.Name "zip" p2) [e1, e2] [] pos2] [] pos3) X.env x = pure x := by intro _; rfl) :
    PMS W X (.For (.Tuple elts kk tpos) (.Call (.Name "enumerate" p) [.Call (.Name "zip" p2) [e1, e2] [] pos2] [] pos3) body [] pos) (mFor t (mEZ m) mb) :=
  ⟨fun B0 => PS.imp (ps_forEZ hp hc hg1 hm1 hg2 hm2 (ha.pa B0) hg hb.psx hsz hpl hse hs) fun E σ H h => by rw [hK]; exact for_splitEZ (W := W.at B0) tk h⟩
theorem W_mEZ {m : MA} {env : MEnv} {R : List D × MEnv → Prop} : W (mEZ m env) R = W (m env) fun p => W (toDats p.1 p.2) fun q => W (match q.1 with | [.list xs, .list ys] => some (enumD (zipD xs ys), q.2) | _ => none) R := by
  unfold mEZ
  rw [W_bind]
  congr 1
  funext p
  obtain ⟨o, e⟩ := p
  rw [W_bind]
  try rfl
/-- reversed(list) -/
def mRevI (ma : MX) : MI := fun env => (ma env).bind fun (o, env1) => (toDat o env1).bind fun (d, env2) => match d with
  | .list ds => some (ds.reverse, env2)
  | _ => none
theorem rev_get {α : Type} {l : List α} {i : Nat} {x : α} (h : l.reverse[i]? = some x) : i < l.length ∧ l[l.length - 1 - i]? = some x := by
  have hi : i < l.reverse.length := (List.getElem?_eq_some_iff.mp h).1
  rw [List.length_reverse] at hi
  rw [List.getElem?_reverse hi] at h
  exact ⟨hi, h⟩
theorem src_rev {K : PySem.W.Frag} {T : AS} {H : Hp} {q : Addr} {xs : List V} {ds : List D} (n : ¬ T q) (hq : H q = some (.lst xs)) (l : AtL T H xs ds) : Src (Itv K q xs.length) T H ds.reverse := by
  refine ⟨fun Hi T' M dm i d e => ?_, fun Hi T' M => ?_⟩
  · obtain ⟨e1, _⟩ := M.mv _ _ n hq
    obtain ⟨hi, e⟩ := rev_get e
    obtain ⟨v, hv, hd⟩ := (AtL.move M ds xs l).get e
    rw [← l.length] at hv hi
    refine ⟨⟨hi, xs, v, SqL.of e1, hv⟩, fun x H3 y => ?_⟩
    obtain ⟨rfl, y⟩ := y
    have := y xs (SqL.of e1)
    rw [hv] at this
    cases this
    exact ⟨Keep.refl, hd⟩
  · show xs.length ≤ _
    rw [List.length_reverse, l.length]
    exact Nat.le_refl _
theorem pmi_rev {W : Wd} {X : Cx} {tg a : Expr} {ma : MX} {p pos : Pos} (hg : Gl X "reversed") (hm : X.mg "reversed" = none) (ha : PM W X a ma) (hs : starEach [a] X.env = (false, eval a X.env) :: starEach [] X.env := by rfl) : PMI W X tg (.Call (.Name "reversed" p) [a] [] pos) (mRevI ma) :=
  ⟨fun B0 => PI.imp (RT.pi_revA hg hm (ha.pe B0) hs) fun σ H R ⟨T0, env, items, env', Rl, e, k⟩ => by
    unfold mRevI at e
    cases e1 : ma env with
    | none => simp [e1] at e
    | some z =>
      obtain ⟨o, env1⟩ := z
      cases e2 : toDat o env1 with
      | none => simp [e1, e2] at e
      | some y =>
        obtain ⟨d, env2⟩ := y
        simp only [e1, e2, Option.bind] at e
        refine ⟨T0, env, o, env1, Rl, e1, fun v H1 k1 s1 o1 => ?_⟩
        split at e
        · rename_i ds
          cases e
          obtain ⟨R2, s2⟩ := toDat_rel (opdK_base o1) e2
          have at1 := toDat_at o1 Osub.refl (opdK_base o1) e2
          cases at1 with
          | lst n e l => exact ⟨_, _, rfl, .inl ⟨SqL.of e, k _ H1 k1 (s1.trans s2) R2 (src_rev n e l)⟩⟩
        · cases e⟩
theorem W_mRevI {ma : MX} {env : MEnv} {R : List D × MEnv → Prop} : W (mRevI ma env) R = W (ma env) fun p => W (toDat p.1 p.2) fun q => W (match q.1 with | .list ds => some (ds.reverse, q.2) | _ => none) R := by
  unfold mRevI
  rw [W_bind]
  congr 1
  funext p
  obtain ⟨o, e⟩ := p
  rw [W_bind]
  try rfl
/-- d[k] = v -/
def mGSub (i : Nat) (mi me : MX) : MS := fun env => (mCons me (mCons (mVar i) (mCons mi mNil)) env).bind fun (os, env1) => match os with
  | [o, _, oi] => (peek oi env1).bind fun x => (kdOf x).bind fun kk => (toDat o env1).bind fun (d, env2) => (ownD env2[i]?).bind fun (l, ds) => if kOk ds kk = true ∧ ds.length < 16777216 then some (.nx, env2.set i (some (.own l (.dict (gp ds kk d))))) else none
  | _ => none
theorem putK_ne {κ : Type} [DecidableEq κ] {kvs : List (κ × V)} {k : κ} {v : V} (h : kvs ≠ []) : putK kvs k v ≠ [] := by
  unfold putK
  split
  · exact fun z => h (List.map_eq_nil_iff.mp z)
  · simp
theorem pms_gsub {W : Wd} {X : Cx} {o ix e : Expr} {i : Nat} {mi me : MX} {p1 pos : Pos} (hu : X.A.units + 1 < cLine) (ho : PM W X o (mVar i)) (hi : PM W X ix mi) (he : PM W X e me) (ha : ∀ v, assign (.Subscript o ix p1) X.env v = (do
      let ov ← holding [v] (eval o X.env)
      let iv ← holding [v, ov] (eval ix X.env)
      standAt p1
      holding [v, ov, iv] (setItem ov iv v)
      release [v, ov, iv] []) := by intro _; rfl)
    (hs : swapsWithSole [.Subscript o ix p1] e pos.line X.env = pure false := by rfl) (hw : swappedStores [.Subscript o ix p1] e X.env = pure none := by rfl) (h1 : (assignEach [.Subscript o ix p1] X.env).map (·.2) = [assign (.Subscript o ix p1) X.env] := by rfl) :
    PMS W X (.Assign [.Subscript o ix p1] e pos) (mGSub i mi me) :=
  ⟨fun B0 => PS.imp (ps_asg (he.pe B0) (pg_sub ho.pex hi.pex (set_dict hu) ha) hs hw h1) fun E σ H ⟨T0, env, f, env', R, e, k⟩ => by
    unfold mGSub at e
    cases e1 : mCons me (mCons (mVar i) (mCons mi mNil)) env with
    | none => simp [e1] at e
    | some z =>
      obtain ⟨os, env1⟩ := z
      simp only [e1, Option.bind] at e
      have q : tMA (W.at B0) (mCons me (mCons (mVar i) (mCons mi mNil))) σ H (fun vs H1 => ∃ v x y, vs = [v, x, y] ∧ rSetD x y v H1 fun H3 => E.nx σ H3) := by
        refine ⟨T0, env, os, env1, R, e1, fun vs H1 k1 s1 o1 => ?_⟩
        split at e
        · rename_i o2 oX oi
          have hX : oX = .slot i := by
            unfold mCons at e1
            cases f1 : me env with
            | none => simp [f1] at e1
            | some w =>
              obtain ⟨a1, b1⟩ := w
              cases f2 : mVar i b1 with
              | none => simp [f1, f2] at e1
              | some w2 =>
                obtain ⟨a2, b2⟩ := w2
                obtain ⟨rfl, rfl⟩ := mVar_slot f2
                cases f3 : mi b2 with
                | none => simp [f1, f2, f3] at e1
                | some w3 =>
                  simp [f1, f2, f3, mNil] at e1
                  exact e1.1.2.1.symm
          subst hX
          cases e2 : peek oi env1 with
          | none => simp [e2] at e
          | some x0 =>
            cases e6 : kdOf x0 with
            | none => simp [e2, e6] at e
            | some kk =>
            cases e3 : toDat o2 env1 with
            | none => simp [e2, e6, e3] at e
            | some w =>
              obtain ⟨d, env2⟩ := w
              simp only [e2, e6, e3] at e
              cases e4 : ownD env2[i]? with
              | none => simp [e4] at e
              | some w2 =>
                obtain ⟨l, ds⟩ := w2
                simp only [e4] at e
                split at e
                · rename_i hlen
                  cases e
                  cases vs with
                  | nil => exact o1.elim
                  | cons v vs =>
                    obtain ⟨T1, s1', h1', h2'⟩ := opdsK_cons o1
                    obtain ⟨x, y, T2, rfl, s2', h3', h4', R2, R1⟩ := opds2 h2'
                    have R0 := R1.less s1'
                    have hy := kd_at (peek_at h4' R2 e2) e6
                    obtain ⟨R3, s3⟩ := toDat_rel R0 e3
                    have av := toDat_at h1' Osub.refl R0 e3
                    have hs := ownD_some e4
                    have hx : σ[i]? = some (some x) := h3'.1
                    obtain ⟨p, rfl, c0, n0⟩ := slot_get R3 hx hs
                    have fin : ∀ u, DPut H1 p y v (upd H1 p u) → (∀ (M : Move (Tot T0 σ env2) (Tot T0 σ env2) H1 (upd H1 p u)), Cont (Tot T0 σ env2) (upd H1 p u) p (.dict (gp ds kk d))) → ∃ v' x' y', [v, V.ref p, y] = [v', x', y'] ∧ rSetD x' y' v' H1 fun H3 => E.nx σ H3 := fun u g c => by
                      have M : Move (Tot T0 σ env2) (Tot T0 σ env2) H1 (upd H1 p u) := ⟨fun a o nn q => ⟨by rw [upd_ne (fun z => nn (by rw [z]; exact .inr ⟨i, ⟨l, _, hs⟩, hx⟩))]; exact q, nn⟩⟩
                      obtain ⟨R4, s4, k4⟩ := own_write (u := u) (d := .dict (gp ds kk d)) R3 hs hx (c M)
                      exact ⟨_, _, _, rfl, p, _, rfl, g, k σ _ (Stp.of (k1.trans k4 fun a z => (s1.trans s3).own a z) ((s1.trans s3).trans s4)) R4⟩
                    rcases kd_cases kk with ⟨k0, rfl⟩ | ⟨lk, rfl⟩
                    · rw [kK_D] at hy
                      obtain rfl := kV_at hy
                      rcases c0 with ⟨kvs, hp, m⟩ | ⟨kvs, hp, z, m⟩
                      · refine fin (.dK (putK kvs k0 v)) (.inl ⟨kvs, k0, hp, rfl, by rw [atm_len m, sizeLine_eq]; exact hlen.2, rfl⟩) fun M => .inl ⟨_, upd_same, atm_put (AtM.move M ds kvs m) (At.move M d v av)⟩
                      · rw [att_kind m z] at hlen; cases hlen.1
                    · rcases c0 with ⟨kvs, hp, m⟩ | ⟨kvs, hp, z, m⟩
                      · rw [atm_kind m] at hlen; cases hlen.1
                      · cases hy with
                        | tup n e5 l2 =>
                          have := atl_ints l2
                          subst this
                          refine fin (.dT (putK kvs (lk.map Sum.inl) v)) (.inr ⟨kvs, lk.map Sum.inl, _, hp, rfl, e5, by rw [att_len m, sizeLine_eq]; exact hlen.2, rfl⟩) fun M => .inr ⟨_, upd_same, putK_ne z, att_put (AtT.move M ds kvs m) (At.move M d v av)⟩
                · cases e
        · cases e
      refine tM_mono (mcons_split q) fun v H1 q1 => ?_
      obtain ⟨B1, q1⟩ := q1
      refine ⟨B1, tM_mono (mcons_split q1) fun x H2 q2 => ?_⟩
      obtain ⟨B2, q2⟩ := q2
      refine ⟨B2, tM_mono (split1 q2) fun y H3 ⟨v', x', y', e, q3⟩ => ?_⟩
      cases e
      exact q3⟩
theorem W_mGSub {Q : Fl × MEnv → Prop} {env : MEnv} {i : Nat} {mi me : MX} : Mx.W (mGSub i mi me env) Q = Mx.W (me env) fun p => Mx.W (mVar i p.2) fun _ => Mx.W (mi p.2) fun q => Mx.W (peek q.1 q.2) fun x => Mx.W (kdOf x) fun kk => Mx.W (toDat p.1 q.2) fun d => Mx.W (ownD d.2[i]?) fun l => (kOk l.2 kk = true ∧ l.2.length < 16777216) ∧ Q (.nx, d.2.set i (some (.own l.1 (.dict (gp l.2 kk d.1))))) := by
  unfold mGSub
  rw [W_bind, W_mCons]
  congr 1
  funext p
  rw [W_mCons]
  cases e0 : mVar i p.2 with
  | none => rw [W_none, W_none]
  | some z =>
    obtain ⟨o, e⟩ := z
    obtain ⟨rfl, rfl⟩ := mVar_slot e0
    rw [W_some, W_some, W_mCons]
    congr 1
    funext q
    rw [W_mNil]
    show Mx.W ((peek q.1 q.2).bind fun x => (kdOf x).bind fun kk => (toDat p.1 q.2).bind fun (d, env2) => (ownD env2[i]?).bind fun (l, ds) => if kOk ds kk = true ∧ ds.length < 16777216 then some (Fl.nx, env2.set i (some (.own l (.dict (gp ds kk d))))) else none) Q = _
    rw [W_bind]
    congr 1
    funext x
    rw [W_bind]
    congr 1
    funext kk
    rw [W_bind]
    congr 1
    funext d
    obtain ⟨d, e2⟩ := d
    rw [W_bind]
    congr 1
    funext l
    obtain ⟨l, ds⟩ := l
    show Mx.W (if kOk ds kk = true ∧ ds.length < 16777216 then _ else none) Q = _
    rw [W_ite, W_none]
    simp [W_some]
end Mx

set_option Elab.async false
set_option autoImplicit false
set_option linter.all false
set_option maxRecDepth 100000
/-! Mx44: dicts with keys of one kind, as lists of typed pairs. -/
namespace Mx
open PySem PySem.Spec PyProof.Rows L2
section
variable {κ : Type} [DecidableEq κ]
def lkx (kvs : List (κ × D)) (k : κ) : Option D := (kvs.find? fun p => decide (p.1 = k)).map (·.2)
def pkx (kvs : List (κ × D)) (k : κ) (v : D) : List (κ × D) := if (kvs.any fun p => decide (p.1 = k)) = true then kvs.map (fun p => if p.1 = k then (p.1, v) else p) else kvs ++ [(k, v)]
def eD (enc : κ → KD) (kvs : List (κ × D)) : List (D × D) := kvs.map fun p => (kdD (enc p.1), p.2)
variable {enc : κ → KD}
theorem eD_len {kvs : List (κ × D)} : (eD enc kvs).length = kvs.length := List.length_map ..
theorem kdOf_enc (hi : ∀ a b, enc a = enc b → a = b) {a b : κ} : kdOf (kdD (enc a)) = some (enc b) ↔ a = b := by
  rw [kdOf_D, Option.some.injEq]
  exact ⟨hi a b, fun e => by rw [e]⟩
theorem gd_eD (hi : ∀ a b, enc a = enc b → a = b) {k : κ} : ∀ {kvs : List (κ × D)}, gd (eD enc kvs) (enc k) = lkx kvs k
  | [] => rfl
  | p :: kvs => by
    show gd ((kdD (enc p.1), p.2) :: eD enc kvs) (enc k) = _
    rw [gd_cons, gd_eD hi]
    unfold lkx
    rw [List.find?_cons]
    by_cases e : p.1 = k
    · rw [if_pos ((kdOf_enc hi).mpr e)]; simp [e]
    · rw [if_neg (fun z => e ((kdOf_enc hi).mp z))]; simp [e]
theorem any_eD (hi : ∀ a b, enc a = enc b → a = b) {k : κ} : ∀ {kvs : List (κ × D)}, ((eD enc kvs).any fun p => decide (kdOf p.1 = some (enc k))) = kvs.any fun p => decide (p.1 = k)
  | [] => rfl
  | p :: kvs => by
    show (((kdD (enc p.1), p.2) :: eD enc kvs).any _) = _
    rw [List.any_cons, List.any_cons, any_eD hi]
    congr 1
    exact decide_eq_decide.mpr (kdOf_enc hi)
theorem gp_eD (hi : ∀ a b, enc a = enc b → a = b) {k : κ} {v : D} {kvs : List (κ × D)} : gp (eD enc kvs) (enc k) v = eD enc (pkx kvs k v) := by
  unfold gp pkx
  rw [any_eD hi]
  split
  · unfold eD
    rw [List.map_map, List.map_map]
    refine List.map_congr_left fun p _ => ?_
    show (if kdOf (kdD (enc p.1)) = some (enc k) then (kdD (enc p.1), v) else (kdD (enc p.1), p.2)) = _
    by_cases e : p.1 = k
    · rw [if_pos ((kdOf_enc hi).mpr e)]; simp [e]
    · rw [if_neg (fun z => e ((kdOf_enc hi).mp z))]; simp [e]
  · unfold eD
    rw [List.map_append]
    rfl
theorem lkx_none {kvs : List (κ × D)} {k : κ} : lkx kvs k = none ↔ ∀ p ∈ kvs, p.1 ≠ k := by
  unfold lkx
  rw [Option.map_eq_none_iff, List.find?_eq_none]
  simp
theorem lkx_mem {kvs : List (κ × D)} {k : κ} {v : D} (h : lkx kvs k = some v) : (k, v) ∈ kvs := by
  unfold lkx at h
  obtain ⟨p, hp, rfl⟩ := Option.map_eq_some_iff.mp h
  have h1 := List.mem_of_find?_eq_some hp
  have h2 := List.find?_some hp
  have h3 : p.1 = k := of_decide_eq_true h2
  subst h3
  exact h1
theorem lkx_isSome {kvs : List (κ × D)} {k : κ} : (lkx kvs k).isSome = kvs.any fun p => decide (p.1 = k) := by
  cases e : lkx kvs k with
  | none =>
    symm
    rw [Option.isSome_none, List.any_eq_false]
    intro p m
    simpa using lkx_none.mp e p m
  | some v =>
    symm
    rw [Option.isSome_some, List.any_eq_true]
    exact ⟨_, lkx_mem e, by simp⟩
theorem pkx_new {kvs : List (κ × D)} {k : κ} {v : D} (h : lkx kvs k = none) : pkx kvs k v = kvs ++ [(k, v)] := by
  unfold pkx
  rw [← lkx_isSome, h]
  rfl
theorem lkx_of_mem : ∀ {kvs : List (κ × D)} {k : κ} {v : D}, (kvs.map (·.1)).Nodup → (k, v) ∈ kvs → lkx kvs k = some v
  | [], _, _, _, m => by cases m
  | p :: kvs, k, v, hn, m => by
    rw [List.map_cons, List.nodup_cons] at hn
    unfold lkx
    rw [List.find?_cons]
    rcases List.mem_cons.mp m with rfl | m
    · simp
    · have ne : ¬ p.1 = k := fun z => hn.1 (by rw [z]; exact List.mem_map_of_mem (f := (·.1)) m)
      simp only [ne, decide_false]
      exact lkx_of_mem hn.2 m
end
/-- pairs of ints as keys -/
def encP (p : Int × Int) : KD := .t [p.1, p.2]
theorem encP_inj (a b : Int × Int) (h : encP a = encP b) : a = b := by
  obtain ⟨a1, a2⟩ := a
  obtain ⟨b1, b2⟩ := b
  simp [encP] at h
  rw [h.1, h.2]
theorem encI_inj (a b : Int) (h : KD.i a = KD.i b) : a = b := by cases h; rfl
theorem encS_inj (a b : Str) (h : KD.s a = KD.s b) : a = b := by cases h; rfl
theorem encT_inj (a b : List Int) (h : KD.t a = KD.t b) : a = b := by cases h; rfl
abbrev pD (kvs : List ((Int × Int) × D)) : List (D × D) := eD encP kvs
abbrev iD (kvs : List (Int × D)) : List (D × D) := eD KD.i kvs
abbrev sD (kvs : List (Str × D)) : List (D × D) := eD KD.s kvs
abbrev tD (kvs : List (List Int × D)) : List (D × D) := eD KD.t kvs
theorem kOk_pD {kvs : List ((Int × Int) × D)} {l : List Int} (h : kvs ≠ []) : kOk (pD kvs) (.t l) = true := by
  cases kvs with
  | nil => exact (h rfl).elim
  | cons p kvs => rfl
theorem kOk_tD {kvs : List (List Int × D)} {l : List Int} (h : kvs ≠ []) : kOk (tD kvs) (.t l) = true := by
  cases kvs with
  | nil => exact (h rfl).elim
  | cons p kvs => rfl
theorem kOk_iD {kvs : List (Int × D)} {i : Int} : kOk (iD kvs) (.i i) = true := by cases kvs <;> rfl
theorem kOk_sD {kvs : List (Str × D)} {x : Str} : kOk (sD kvs) (.s x) = true := by cases kvs <;> rfl
theorem gInG_p {neg : Bool} {kvs : List ((Int × Int) × D)} {i j : Int} (h : kvs ≠ []) : gInG neg [.tuple [.int i, .int j], .dict (pD kvs)] = some (.bool (if neg then !(lkx kvs (i, j)).isSome else (lkx kvs (i, j)).isSome)) := by
  show (if kOk (pD kvs) (.t [i, j]) = true then some (PyData.bool (if neg then !(gd (pD kvs) (encP (i, j))).isSome else (gd (pD kvs) (encP (i, j))).isSome)) else none) = _
  rw [if_pos (kOk_pD h), gd_eD encP_inj]
theorem gInG_i {neg : Bool} {kvs : List (Int × D)} {i : Int} : gInG neg [.int i, .dict (iD kvs)] = some (.bool (if neg then !(lkx kvs i).isSome else (lkx kvs i).isSome)) := by
  show (if kOk (iD kvs) (.i i) = true then some (PyData.bool (if neg then !(gd (iD kvs) (KD.i i)).isSome else (gd (iD kvs) (KD.i i)).isSome)) else none) = _
  rw [if_pos kOk_iD, gd_eD encI_inj]
theorem gInG_s {neg : Bool} {kvs : List (Str × D)} {x : Str} : gInG neg [.str x, .dict (sD kvs)] = some (.bool (if neg then !(lkx kvs x).isSome else (lkx kvs x).isSome)) := by
  show (if kOk (sD kvs) (.s x) = true then some (PyData.bool (if neg then !(gd (sD kvs) (KD.s x)).isSome else (gd (sD kvs) (KD.s x)).isSome)) else none) = _
  rw [if_pos kOk_sD, gd_eD encS_inj]
theorem gInG_t {neg : Bool} {kvs : List (List Int × D)} {l : List Int} (h : kvs ≠ []) : gInG neg [.tuple (l.map PyData.int), .dict (tD kvs)] = some (.bool (if neg then !(lkx kvs l).isSome else (lkx kvs l).isSome)) := by
  show ((kdOf (kdD (.t l))).bind fun k => if kOk (tD kvs) k = true then some (PyData.bool (if neg then !(gd (tD kvs) k).isSome else (gd (tD kvs) k).isSome)) else none) = _
  rw [kdOf_D]
  show (if kOk (tD kvs) (.t l) = true then some (PyData.bool (if neg then !(gd (tD kvs) (KD.t l)).isSome else (gd (tD kvs) (KD.t l)).isSome)) else none) = _
  rw [if_pos (kOk_tD h), gd_eD encT_inj]
theorem kdOf_pair {i j : Int} : kdOf (.tuple [.int i, .int j]) = some (encP (i, j)) := rfl
theorem kdOf_int {i : Int} : kdOf (.int i) = some (.i i) := rfl
theorem kdOf_str {x : Str} : kdOf (.str x) = some (.s x) := rfl
theorem kdOf_ints {l : List Int} : kdOf (.tuple (l.map PyData.int)) = some (.t l) := kdOf_D (.t l)
theorem hu0 {u : Nat} (h : u + 65 < cLine) : u < cLine := by omega
end Mx

set_option Elab.async false
set_option autoImplicit false
set_option linter.all false
set_option maxRecDepth 100000
/-! Mx45: a < b of lists of ints. -/
namespace Mx
open PySem PySem.Spec PyProof.Rows L2
theorem firstLt_ints : ∀ (ns ms : List Int) (i : Nat) (e r : Nat → Bool) (z : Bool), (∀ j, j < min ns.length ms.length → e (i + j) = decide (ns.getD j 0 = ms.getD j 0) ∧ r (i + j) = decide (ns.getD j 0 < ms.getD j 0)) → z = decide (ns.length < ms.length) →
    SeqAt.firstLt e r z (List.range' i (min ns.length ms.length)) = HT.lexLt ns ms
  | [], [], i, e, r, z, _, h => by rw [h]; rfl
  | [], y :: ms, i, e, r, z, _, h => by
    rw [h]
    show decide (0 < ms.length + 1) = true
    exact decide_eq_true (Nat.succ_pos _)
  | x :: ns, [], i, e, r, z, _, h => by
    rw [h]
    rfl
  | x :: ns, y :: ms, i, e, r, z, k, h => by
    have lm : min (x :: ns).length (y :: ms).length = min ns.length ms.length + 1 := by simp only [List.length_cons]; omega
    rw [lm] at k
    rw [lm, List.range'_succ, HT.lexLt_cons]
    have k0 := k 0 (Nat.succ_pos _)
    rw [Nat.add_zero] at k0
    by_cases c : x = y
    · rw [if_pos c, SeqAt.firstLt_yes (by rw [k0.1]; exact decide_eq_true c)]
      refine firstLt_ints ns ms (i + 1) e r z (fun j hj => ?_) (by rw [h]; simp)
      have := k (j + 1) (by omega)
      rw [show i + (j + 1) = i + 1 + j by omega] at this
      exact this
    · rw [if_neg c, SeqAt.firstLt_no (by rw [k0.1]; exact decide_eq_false c)]
      exact k0.2
def rLtL (K : PySem.W.Frag) : R2 := fun x y H Q => ∃ a b ns ms, x = .ref a ∧ y = .ref b ∧ SqL K H a (ns.map V.int) ∧ SqL K H b (ms.map V.int) ∧ Q (.bl (HT.lexLt ns ms)) H
theorem op_ltL {X : Cx} (hu : X.A.units < cLine) : OpR X (compareOp .Lt) (rLtL X.K) := by
  intro pins s σ H x y v u Q I rx ry h
  obtain ⟨a, b, ns, ms, rfl, rfl, ha, hb, q⟩ := h
  cases rx
  cases ry
  obtain ⟨its, r1, p1, _⟩ := I.list ha
  obtain ⟨its2, r2, p2, _⟩ := I.list hb
  have i1 : IntsAre its ns := Vals.ints r1
  have i2 : IntsAre its2 ms := Vals.ints r2
  have e1 : its.toArray.size = ns.length := by rw [List.size_toArray]; exact i1.length
  have e2 : its2.toArray.size = ms.length := by rw [List.size_toArray]; exact i2.length
  have at1 : ∀ j (h1 : j < its.toArray.size), ∃ t, its.toArray[j] = .int (ns.getD j 0) t := fun j h1 => PyProof.Rows.IntsAre.int_at i1 _ _ (by simp at h1; simp [h1])
  have at2 : ∀ j (h1 : j < its2.toArray.size), ∃ t, its2.toArray[j] = .int (ms.getD j 0) t := fun j h1 => PyProof.Rows.IntsAre.int_at i2 _ _ (by simp at h1; simp [h1])
  have R := SeqAt.RcLt.lists (A := X.A) (s := s) (e := fun j => decide (ns.getD j 0 = ms.getD j 0)) (r := fun j => decide (ns.getD j 0 < ms.getD j 0)) p1.isList p2.isList hu (fun j h1 h2 => by
    obtain ⟨t, et⟩ := at1 j h1
    obtain ⟨t', et'⟩ := at2 j h2
    rw [et, et']
    have z : (ns.getD j 0 == ms.getD j 0) = decide (ns.getD j 0 = ms.getD j 0) := by
      by_cases q : ns.getD j 0 = ms.getD j 0
      · rw [decide_eq_true q]; exact beq_iff_eq.mpr q
      · rw [decide_eq_false q]; exact beq_eq_false_iff_ne.mpr q
    rw [← z]
    exact SeqAt.EqAt.int_int _ _ _ _) (fun j h1 h2 _ => by
    obtain ⟨t, et⟩ := at1 j h1
    obtain ⟨t', et'⟩ := at2 j h2
    rw [et, et']
    exact fun prog w E Q h => HT.rcLt_int _ _ _ _ _ _ _ _ _ _ h)
  refine R _ _ _ _ ?_
  rw [e1, e2, List.range_eq_range', firstLt_ints ns ms 0 _ _ _ (fun j _ => by rw [Nat.zero_add]; exact ⟨rfl, rfl⟩) rfl]
  exact ⟨.bl (HT.lexLt ns ms), H, I, rfl, q⟩
def gLtL : List D → Option D
  | [.list xs, .list ys] => (intsOf xs).bind fun ns => (intsOf ys).map fun ms => .bool (HT.lexLt ns ms)
  | _ => none
theorem prim_ltL {W : Wd} {K : PySem.W.Frag} : Prim W (R2P (rLtL K)) (fPure gLtL) := prim_pure fun vs H ds d v Q l e ev q => by
  unfold gLtL at e
  split at e
  · rename_i xs ys
    obtain ⟨x, y, rfl, hx, hy⟩ := atl2 l
    cases e1 : intsOf xs with
    | none => rw [e1] at e; cases e
    | some ns =>
      rw [e1] at e
      cases e2 : intsOf ys with
      | none => rw [e2] at e; cases e
      | some ms =>
        rw [e2] at e
        cases e
        cases ev
        rw [intsOf_eq e1] at hx
        rw [intsOf_eq e2] at hy
        cases hx with
        | lst n0 e0 l0 =>
          cases hy with
          | lst n1 e1 l1 =>
            have z := ints_at l0
            have z' := ints_at l1
            subst z z'
            exact ⟨_, _, rfl, _, _, ns, ms, rfl, rfl, SqL.of e0, SqL.of e1, q⟩
  · cases e
section
variable {W : Wd} {X : Cx} {a b : Expr} {ma mb : MX} {pos : Pos}
theorem pmt_ltL (hu : X.A.units < cLine) (ha : PM W X a ma) (hb : PM W X b mb) (hm : behindInMarks .Lt b = false := by rfl) : PMT W X (.Compare a [.Lt] [b] pos) (mTr (mPrim (fPure gLtL) (mCons ma (mCons mb mNil)))) := pmt_cmp (op_ltL hu) (fun _ => prim_ltL) ha hb hm
end
theorem gLtL_ints {ns ms : List Int} : gLtL [.list (ns.map PyData.int), .list (ms.map PyData.int)] = some (.bool (HT.lexLt ns ms)) := by
  show ((intsOf (ns.map PyData.int)).bind fun ns => (intsOf (ms.map PyData.int)).map fun ms => PyData.bool (HT.lexLt ns ms)) = _
  rw [intsOf_map, intsOf_map]
  rfl
/-! ### i not in a tuple of whole numbers -/
def gNinT : List D → Option D
  | [.int i, .tuple es] => (intsOf es).map fun ns => .bool (!(ns.any fun n => decide (n = i)))
  | _ => none
theorem prim_ninT {W : Wd} {K : PySem.W.Frag} : Prim W (R2P (rIn K true)) (fPure gNinT) := prim_pure fun vs H ds d v Q l e ev q => by
  unfold gNinT at e
  split at e
  · rename_i i es
    obtain ⟨x, y, rfl, hx, hy⟩ := atl2 l
    cases e1 : intsOf es with
    | none => rw [e1] at e; cases e
    | some ns =>
      rw [e1] at e
      cases e
      cases ev
      rw [intsOf_eq e1] at hy
      have hx' := at_int hx
      subst hx'
      cases hy with
      | tup n e l =>
        have := ints_at l
        subst this
        refine ⟨_, _, rfl, _, _, rfl, .inr (SqT.of e), rfl, flat_ints ns, ?_⟩
        rw [if_pos (by rfl), inV_ints]
        exact q
  · cases e
theorem pmt_ninT {W : Wd} {X : Cx} {a b : Expr} {ma mb : MX} {pos : Pos} (ha : PM W X a ma) (hb : PM W X b mb) (hm : behindInMarks .NotIn b = false := by rfl) : PMT W X (.Compare a [.NotIn] [b] pos) (mTr (mPrim (fPure gNinT) (mCons ma (mCons mb mNil)))) := pmt_cmp op_notIn_seq (fun _ => prim_ninT) ha hb hm
end Mx

set_option Elab.async false
set_option autoImplicit false
set_option linter.all false
set_option maxRecDepth 100000
/-! Mx46: a[i], b[j] = x, y. -/
namespace Mx
open PySem PySem.Spec PyProof.Rows L2
/-- x[k] = a value that is data -/
def mSt (i : Nat) (mi : MX) (d : D) : MEnv → Option MEnv := fun env => (mCons (mVar i) (mCons mi mNil) env).bind fun (os, env1) => match os with
  | [_, oi] => (gInt (peek oi env1)).bind fun k => (ownL env1[i]?).bind fun (l, ds) => (ixN ds.length k).bind fun j => some (env1.set i (some (.own l (.list (ds.set j d)))))
  | _ => none
theorem st_run {W : Wd} {B0 T0 : AS} {σ : L2.St} {H : Hp} {env env' : MEnv} {i : Nat} {mi : MX} {d : D} {v : V} {Q : L2.St → Hp → Prop} (R : Rel (W.at B0) T0 σ H env) (av : At (Tot T0 σ env) H v d) (e : mSt i mi d env = some env')
    (k : ∀ H', Keep (Own σ env) H H' → Osub env env' → Rel (W.at B0) T0 σ H' env' → Q σ H') : gSub (tMx W (mVar i)) (tMx W mi) rSetL v σ H Q := by
  unfold mSt at e
  cases e1 : mCons (mVar i) (mCons mi mNil) env with
  | none => simp [e1] at e
  | some z =>
    obtain ⟨os, env1⟩ := z
    simp only [e1, Option.bind] at e
    have q : tMA (W.at B0) (mCons (mVar i) (mCons mi mNil)) σ H (fun vs H1 => ∃ x y, vs = [x, y] ∧ rSetL x y v H1 fun H3 => Q σ H3) := by
      refine ⟨T0, env, os, env1, R, e1, fun vs H1 k1 s1 o1 => ?_⟩
      split at e
      · rename_i oX oi
        have hX : oX = .slot i := by
          unfold mCons at e1
          cases f2 : mVar i env with
          | none => simp [f2] at e1
          | some w2 =>
            obtain ⟨a2, b2⟩ := w2
            obtain ⟨rfl, rfl⟩ := mVar_slot f2
            cases f3 : mi b2 with
            | none => simp [mCons, f2, f3] at e1
            | some w3 =>
              simp [mCons, f2, f3, mNil] at e1
              exact e1.1.1.symm
        subst hX
        cases e2 : gInt (peek oi env1) with
        | none => simp [e2] at e
        | some n =>
          simp only [e2] at e
          cases e4 : ownL env1[i]? with
          | none => simp [e4] at e
          | some w2 =>
            obtain ⟨l, ds⟩ := w2
            simp only [e4] at e
            cases e5 : ixN ds.length n with
            | none => simp [e5] at e
            | some j =>
              simp [e5] at e
              subst e
              obtain ⟨x, y, T2, rfl, s2', h3', h4', R2, R1⟩ := opds2 o1
              have hy := at_int (peek_at h4' R2 (gInt_some e2))
              subst hy
              have hs := ownL_some e4
              have hx : σ[i]? = some (some x) := h3'.1
              obtain ⟨p, rfl, ⟨xs, hp, la⟩, n0⟩ := slot_get R1 hx hs
              refine ⟨_, _, rfl, p, xs, n, j, rfl, rfl, hp, by rw [la.length]; exact e5, ?_⟩
              have M0 : Move (Tot T0 σ env) (Tot T0 σ env1) H H1 := ⟨fun a o nn q => ⟨k1 a o (fun z => nn (.inr z)) q, fun z => nn (s1.tot a z)⟩⟩
              have M : Move (Tot T0 σ env1) (Tot T0 σ env1) H1 (upd H1 p (.lst (xs.set j v))) := ⟨fun a o nn q => ⟨by rw [upd_ne (fun z => nn (by rw [z]; exact .inr ⟨i, ⟨l, _, hs⟩, hx⟩))]; exact q, nn⟩⟩
              obtain ⟨R4, s4, k4⟩ := own_write (u := .lst (xs.set j v)) (d := .list (ds.set j d)) R1 hs hx ⟨_, upd_same, AtL.set (At.move M d v (At.move M0 d v av)) j (AtL.move M ds xs la)⟩
              exact k _ (k1.trans k4 fun a z => s1.own a z) (s1.trans s4) R4
      · cases e
    have q : tM (W.at B0) (mVar i) σ H (fun o H1 => tMx W mi σ H1 fun y H2 => rSetL o y v H2 fun H3 => Q σ H3) := by
      refine tM_mono (mcons_split q) fun x H2 q2 => ?_
      obtain ⟨B2, q2⟩ := q2
      refine ⟨B2, tM_mono (split1 q2) fun y H3 ⟨x', y', e, q3⟩ => ?_⟩
      cases e
      exact q3
    exact ⟨B0, q⟩
/-- a[i], b[j] = x, y -/
def mParS (i : Nat) (mi : MX) (j : Nat) (mj : MX) (ma : MA) : MS := fun env => (ma env).bind fun (os, env1) => match os with
  | [o1, o2] => (toDat o1 env1).bind fun (d1, env2) => (toDat o2 env2).bind fun (d2, env3) => (mSt i mi d1 env3).bind fun env4 => (mSt j mj d2 env4).bind fun env5 => some (.nx, env5)
  | _ => none
theorem pms_parS {W : Wd} {X : Cx} {x1 i1 x2 i2 a b : Expr} {i j : Nat} {mi mj : MX} {m : MA} {p1 p2 pt pt2 pos : Pos} {kt k2 : Nat} (hc : X.calm = true) (ha : PMA W X [a, b] m) (ho1 : PM W X x1 (mVar i)) (hi1 : PM W X i1 mi) (ho2 : PM W X x2 (mVar j)) (hi2 : PM W X i2 mj)
    (ha1 : ∀ v, assign (.Subscript x1 i1 p1) X.env v = (do
      let ov ← holding [v] (eval x1 X.env)
      let iv ← holding [v, ov] (eval i1 X.env)
      standAt p1
      holding [v, ov, iv] (setItem ov iv v)
      release [v, ov, iv] []) := by intro _; rfl)
    (ha2 : ∀ v, assign (.Subscript x2 i2 p2) X.env v = (do
      let ov ← holding [v] (eval x2 X.env)
      let iv ← holding [v, ov] (eval i2 X.env)
      standAt p2
      holding [v, ov, iv] (setItem ov iv v)
      release [v, ov, iv] []) := by intro _; rfl)
    (hg1 : (assignEach [.Subscript x1 i1 p1, .Subscript x2 i2 p2] X.env).map (·.2) = assign (.Subscript x1 i1 p1) X.env :: (assignEach [.Subscript x2 i2 p2] X.env).map (·.2) := by rfl)
    (hg2 : (assignEach [.Subscript x2 i2 p2] X.env).map (·.2) = assign (.Subscript x2 i2 p2) X.env :: (assignEach [] X.env).map (·.2) := by rfl)
    (hn : (assignEach [.Subscript x1 i1 p1, .Subscript x2 i2 p2] X.env).length = 2 := by rfl) (hst : (assignEach [.Subscript x1 i1 p1, .Subscript x2 i2 p2] X.env).findIdx? (·.1) = none := by rfl)
    (hs : swapsWithSole [.Tuple [.Subscript x1 i1 p1, .Subscript x2 i2 p2] kt pt] (.Tuple [a, b] k2 pt2) pos.line X.env = pure false := by rfl) (hw : swappedStores [.Tuple [.Subscript x1 i1 p1, .Subscript x2 i2 p2] kt pt] (.Tuple [a, b] k2 pt2) X.env = pure none := by rfl)
    (h1 : (assignEach [.Tuple [.Subscript x1 i1 p1, .Subscript x2 i2 p2] kt pt] X.env).map (·.2) = [assign (.Tuple [.Subscript x1 i1 p1, .Subscript x2 i2 p2] kt pt) X.env] := by rfl) :
    PMS W X (.Assign [.Tuple [.Subscript x1 i1 p1, .Subscript x2 i2 p2] kt pt] (.Tuple [a, b] k2 pt2) pos) (mParS i mi j mj m) :=
  ⟨fun B0 => PS.imp (ps_asg (pe_tup (ha.pa B0)) (pg_tup hc (pgs_cons (pg_sub ho1.pex hi1.pex set_list ha1) (pgs_cons (pg_sub ho2.pex hi2.pex set_list ha2) pgs_nil hg2) hg1) hn hst) hs hw h1) fun E σ H ⟨T0, env, f, env', R, e, k⟩ => by
    unfold mParS at e
    cases e1 : m env with
    | none => simp [e1] at e
    | some z =>
      obtain ⟨os, env1⟩ := z
      simp only [e1, Option.bind] at e
      refine ⟨T0, env, os, env1, R, e1, fun vs H1 k1 s1 o1 => ?_⟩
      split at e
      · rename_i o2 o3
        cases e2 : toDat o2 env1 with
        | none => simp [e2] at e
        | some z2 =>
          obtain ⟨d1, env2⟩ := z2
          simp only [e2] at e
          cases e3 : toDat o3 env2 with
          | none => simp [e3] at e
          | some z3 =>
            obtain ⟨d2, env3⟩ := z3
            simp only [e3] at e
            cases e4 : mSt i mi d1 env3 with
            | none => simp [e4] at e
            | some env4 =>
              simp only [e4] at e
              cases e5 : mSt j mj d2 env4 with
              | none => simp [e5] at e
              | some env5 =>
                simp only [e5] at e
                cases e
                obtain ⟨x, y, T2, rfl, s2', h3', h4', R2, R1⟩ := opds2 o1
                obtain ⟨R3, s3⟩ := toDat_rel R1 e2
                obtain ⟨R3b, _⟩ := toDat_rel R2 e2
                have ax := toDat_at h3' Osub.refl R1 e2
                obtain ⟨R4, s4⟩ := toDat_rel R3 e3
                have ay := toDat_at h4' s3 R3b e3
                have ax2 : At (Tot T0 σ env3) H1 x d1 := At.move (Move.sub s4.tot) d1 x ax
                have ay2 : At (Tot T0 σ env3) H1 y d2 := At.move (Move.sub fun a z => z.elim (fun q => .inl (s2' a q)) .inr) d2 y ay
                refine ⟨by show 2 ≤ sizeLine; rw [sizeLine_eq]; omega, fun p hp => ⟨p, [x, y], rfl, SqT.of upd_same, rfl, ?_⟩⟩
                have kq : Keep AS.emp H1 (upd H1 p (.tup [x, y])) := Keep.new hp
                have Mq : Move (Tot T0 σ env3) (Tot T0 σ env3) H1 (upd H1 p (.tup [x, y])) := Move.keep kq fun _ z => z.elim
                have R5 := R4.grow kq
                refine ⟨x, [y], rfl, st_run R5 (At.move Mq d1 x ax2) e4 fun H6 k6 s6 R6 => ?_⟩
                have M6 : Move (Tot T0 σ env3) (Tot T0 σ env4) (upd H1 p (.tup [x, y])) H6 := ⟨fun a o nn q => ⟨k6 a o (fun z => nn (.inr z)) q, fun z => nn (s6.tot a z)⟩⟩
                refine ⟨y, [], rfl, st_run R6 (At.move M6 d2 y (At.move Mq d2 y ay2)) e5 fun H7 k7 s7 R7 => ⟨rfl, ?_⟩⟩
                have so := (s1.trans s3).trans s4
                exact k σ H7 (Stp.of (fun a o n q => k7 a o (fun z => n (so.own a (s6.own a z))) (k6 a o (fun z => n (so.own a z)) (kq a o (fun z => z) (k1 a o n q)))) ((so.trans s6).trans s7)) R7
      · cases e⟩
theorem W_mSt {i : Nat} {mi : MX} {d : D} {env : MEnv} {Q : MEnv → Prop} : W (mSt i mi d env) Q = W (mVar i env) fun _ => W (mi env) fun q => W (gInt (peek q.1 q.2)) fun k => W (ownL q.2[i]?) fun l => W (ixN l.2.length k) fun j => Q (q.2.set i (some (.own l.1 (.list (l.2.set j d))))) := by
  unfold mSt
  rw [W_bind, W_mCons]
  cases e0 : mVar i env with
  | none => rw [W_none, W_none]
  | some z =>
    obtain ⟨o, e⟩ := z
    obtain ⟨rfl, rfl⟩ := mVar_slot e0
    rw [W_some, W_some, W_mCons]
    congr 1
    funext q
    rw [W_mNil]
    show W ((gInt (peek q.1 q.2)).bind fun k => (ownL q.2[i]?).bind fun (l, ds) => (ixN ds.length k).bind fun j => some (q.2.set i (some (.own l (.list (ds.set j d)))))) Q = _
    rw [W_bind]
    congr 1
    funext k
    rw [W_bind]
    congr 1
    funext l
    obtain ⟨l, ds⟩ := l
    rw [W_bind]
    congr 1
    funext b
    rw [W_some]
def opd2 : List Opd → Option (Opd × Opd)
  | [a, b] => some (a, b)
  | _ => none
theorem W_mParS {i j : Nat} {mi mj : MX} {ma : MA} {env : MEnv} {Q : Fl × MEnv → Prop} : W (mParS i mi j mj ma env) Q = W (ma env) fun p => W (opd2 p.1) fun q => W (toDat q.1 p.2) fun a => W (toDat q.2 a.2) fun b => W (mSt i mi a.1 b.2) fun e4 => W (mSt j mj b.1 e4) fun e5 => Q (.nx, e5) := by
  unfold mParS
  rw [W_bind]
  congr 1
  funext p
  obtain ⟨os, env1⟩ := p
  match os with
  | [o1, o2] =>
    show W ((toDat o1 env1).bind fun (d1, env2) => (toDat o2 env2).bind fun (d2, env3) => (mSt i mi d1 env3).bind fun env4 => (mSt j mj d2 env4).bind fun env5 => some (Fl.nx, env5)) Q = W (some (o1, o2)) _
    rw [W_bind, W_some]
    congr 1
    funext a
    obtain ⟨d1, env2⟩ := a
    rw [W_bind]
    congr 1
    funext b
    obtain ⟨d2, env3⟩ := b
    rw [W_bind]
    congr 1
    funext e4
    rw [W_bind]
    congr 1
    funext e5
    rw [W_some]
  | [] => show W none Q = W none _; rw [W_none, W_none]
  | [_] => show W none Q = W none _; rw [W_none, W_none]
  | _ :: _ :: _ :: _ => show W none Q = W none _; rw [W_none, W_none]
end Mx

set_option Elab.async false
set_option autoImplicit false
set_option linter.all false
set_option maxRecDepth 100000
/-! Mx47: len(set(a + b)), a and b tuples of ints. -/
namespace Mx
open PySem PySem.Spec PyProof.Rows L2
def dd : List Int → List Int
  | [] => []
  | x :: xs => if x ∈ xs then dd xs else x :: dd xs
theorem dd_mem {k : Int} : ∀ {xs : List Int}, k ∈ dd xs ↔ k ∈ xs
  | [] => Iff.rfl
  | x :: xs => by
    unfold dd
    by_cases c : x ∈ xs
    · rw [if_pos c, dd_mem, List.mem_cons]
      exact ⟨.inr, fun h => h.elim (fun e => e ▸ c) id⟩
    · rw [if_neg c, List.mem_cons, dd_mem, List.mem_cons]
theorem dd_nodup : ∀ {xs : List Int}, (dd xs).Nodup
  | [] => List.nodup_nil
  | x :: xs => by
    unfold dd
    by_cases c : x ∈ xs
    · rw [if_pos c]; exact dd_nodup
    · rw [if_neg c]; exact List.nodup_cons.mpr ⟨fun m => c (dd_mem.mp m), dd_nodup⟩
def tLenSetT (K : PySem.W.Frag) (ta : TE) : TE := fun σ H Q => ta σ H fun x H1 => ∃ (l : Addr) (ns : List Int), x = V.ref l ∧ SqT K H1 l (ns.map V.int) ∧ ns.length ≤ 4000 ∧ Q (.int ((dd ns).length : Nat)) H1
theorem pe_lenSetT {X : Cx} {a : Expr} {ta : TE} {p p2 q pos : Pos} (hg : Gl X "len") (hm : X.mg "len" = none) (hg2 : Gl X "set") (hm2 : X.mg "set" = none) (ha : PE X a ta) (hc : X.calm = true := by rfl)
    (na : starEach [a] X.env = (false, eval a X.env) :: starEach [] X.env := by rfl) : PE X (.Call (.Name "len" p) [.Call (.Name "set" p2) [a] [] q] [] pos) (tLenSetT X.K ta) := by
  refine ⟨fun pins s σ H Q I h => ?_⟩
  refine Call_ (ld_blt I hg hm PySem.boot_len ?_)
  refine PyProof.Rows.callWith_builtin1 (PyProof.Rows.args_cons ?_ rfl) rfl rfl
  refine Call_ (ld_blt I hg2 hm2 PyProof.Rows.boot_set ?_)
  refine PyProof.Rows.callWith_type1 (PyProof.Rows.args_cons (thn (ha.run pins s σ H _ I h) fun v s1 ⟨x, H1, I1, r1, q1⟩ => PyProof.Rows.args_nil ?_) na) na rfl
  obtain ⟨l, ns, rfl, hq, h1, q1⟩ := q1
  cases r1
  obtain ⟨its, r, pl, hz⟩ := I1.tuple hq
  have hl : its.toArray.size = ns.length := by rw [List.size_toArray, ← r.length, List.length_map]
  refine call_set_tupI ns (I1.ok.hd hc) pl (by simpa using r.ints) (by unfold scanBound; omega) fun h' tk c hS hcl hk => ?_
  refine PyProof.Rows.args_nil ?_
  obtain ⟨o, es, ep, t, ho, hex, hd, _, nd, mem, hlt, hf, hn, _⟩ := hS
  have I2 : Inv X pins σ H1 { s1 with heap := h', toks := tk } := I1.kept fun b o e => hk b o e
  have cl : c = (dd ns).length := by
    have pm := (List.perm_ext_iff_of_nodup nd (dd_nodup (xs := ns))).mpr fun k => by
      rw [dd_mem, ← mem k]
      simp
    have := pm.length_eq
    rw [List.length_map, Array.length_toList, hn] at this
    exact this
  rw [← cl] at q1
  refine call_len_set ho hex hd hf (by rw [hn] <;> omega) ⟨.int (c : Nat), H1, I2.tok _, ⟨_, by rw [hn]⟩, q1⟩
def gLenCat : List D → Option D
  | [.tuple xs, .tuple ys] => (intsOf xs).bind fun ns => (intsOf ys).bind fun ms => if ns ≠ [] ∧ ms ≠ [] ∧ ns.length + ms.length ≤ 4000 then some (.int ((dd (ns ++ ms)).length : Nat)) else none
  | _ => none
theorem prim_lenCat {W : Wd} {K : PySem.W.Frag} : Prim W (R2P (fun x y H Q => rCatT K x y H fun z H' => ∃ (l : Addr) (ns : List Int), z = V.ref l ∧ SqT K H' l (ns.map V.int) ∧ ns.length ≤ 4000 ∧ Q (.int ((dd ns).length : Nat)) H')) (fPure gLenCat) := by
  intro T0 σ H env vs os o env' Q ho e k
  unfold fPure at e
  cases hp : pks os env with
  | none => rw [hp] at e; cases e
  | some ds =>
    rw [hp] at e
    simp only [Option.bind] at e
    cases hg : gLenCat ds with
    | none => rw [hg] at e; cases e
    | some d =>
      rw [hg] at e
      have oe : o = .dat d ∧ env' = env := by
        revert e
        cases hs : scV d with
        | none => intro e; simp [hs] at e
        | some v => intro e; simp [hs] at e; exact ⟨e.1.symm, e.2.symm⟩
      obtain ⟨rfl, rfl⟩ := oe
      have l := pks_at ho hp
      have R := opdsK_less ho
      unfold gLenCat at hg
      split at hg
      · rename_i as bs
        obtain ⟨x, y, rfl, hx, hy⟩ := atl2 l
        cases e1 : intsOf as with
        | none => rw [e1] at hg; cases hg
        | some ns =>
          cases e2 : intsOf bs with
          | none => rw [e1, e2] at hg; cases hg
          | some ms =>
            rw [e1, e2] at hg
            simp only [Option.bind] at hg
            split at hg
            · rename_i cnd
              obtain ⟨n1, n2, n3⟩ := cnd
              cases hg
              rw [intsOf_eq e1] at hx
              rw [intsOf_eq e2] at hy
              cases hx with
              | tup u0 w0 l0 =>
                cases hy with
                | tup u1 w1 l1 =>
                  have z0 := ints_at l0
                  have z1 := ints_at l1
                  subst z0 z1
                  refine ⟨_, _, rfl, _, _, _, _, rfl, rfl, SqT.of w0, SqT.of w1, (fun z => n1 (List.map_eq_nil_iff.mp z)), by rw [List.length_map, List.length_map, sizeLine_eq]; omega, (fun z => absurd (List.map_eq_nil_iff.mp z) n2), fun _ p hp => ?_⟩
                  refine ⟨p, ns ++ ms, rfl, SqT.of (by rw [upd_same, List.map_append]), by rw [List.length_append]; exact n3, ?_⟩
                  exact k _ _ (Keep.new hp) Osub.refl ⟨scV_at rfl, R.grow (Keep.new hp)⟩
            · cases hg
      · cases hg
theorem pm_lenCat {W : Wd} {X : Cx} {a b : Expr} {ma mb : MX} {p p2 q pos bpos : Pos} (hg : Gl X "len") (hm : X.mg "len" = none) (hg2 : Gl X "set") (hm2 : X.mg "set" = none) (ha : PM W X a ma) (hb : PM W X b mb) (hc : X.calm = true := by rfl)
    (na : starEach [.BinOp a .Add b bpos] X.env = (false, eval (.BinOp a .Add b bpos) X.env) :: starEach [] X.env := by rfl) : PM W X (.Call (.Name "len" p) [.Call (.Name "set" p2) [.BinOp a .Add b bpos] [] q] [] pos) (mPrim (fPure gLenCat) (mCons ma (mCons mb mNil))) :=
  ⟨fun B0 => PE.imp (pe_lenSetT hg hm hg2 hm2 (pe_op op_catT (ha.pe B0) hb.pex) hc na) fun σ H Q h => op_split (prim_lenCat (K := X.K)) h⟩
theorem gLenCat_pairs {a b c d : Int} : gLenCat [.tuple [.int a, .int b], .tuple [.int c, .int d]] = some (.int ((dd [a, b, c, d]).length : Nat)) := rfl
end Mx

set_option Elab.async false
set_option autoImplicit false
set_option linter.all false
set_option maxRecDepth 100000
/-! Mx48: defs with start=None, other_start=None, both given by name. -/
namespace Mx
open PySem PySem.Spec PyProof.Rows L2
structure DfK2 (K : PySem.W.Frag) (mg : Str → Option Value) (x : Str) (st : Stmt) (ps : List Str) (n : Nat) : Prop where
  ex : ∃ (f : Addr) (fd : FuncData), Fun K x x st f fd ∧ KBn K fd ps n ["start", "other_start"] (fun us ws => us ++ ws) (fun us ws => us ++ ws) ∧ mg x = some (.ref f)
structure KnK2 (P : Program) (w : World) (K : PySem.W.Frag) (mg : Str → Option Value) (base : Heap) (k : Nat) (x : Str) (ps : List Str) (n : Nat) (sp : Sp) : Prop where
  ex : ∃ (f : Addr) (fd : FuncData), FnOk P w K mg base CX0 k f fd ps sp ∧ KBn K fd ps n ["start", "other_start"] (fun us ws => us ++ ws) (fun us ws => us ++ ws) ∧ mg x = some (.ref f) ∧ PySem.W.keepIn K (.ref f) = true
section
variable {P : Program} {w : World} {K : PySem.W.Frag} {mg : Str → Option Value} {base : Heap} {B : Addr} {x : Str} {st : Stmt} {N ps : List Str} {k n m j : Nat} {ms : MS}
theorem DfK2.kn (d : DfK2 K mg x st ps j) (S : FnScope N ps (defScope st)) (hn : ps.length = n) (hN : N.length = n + m)
    (hb : ∀ (f : Addr) (cdv : Value) (A : Around) (outer : List Env) (s : Shared) (H : Hp) (E : XK), Room k (A.deeper (envOfC x (defScope st) s.heap.objs.size f cdv)) →
      PMB ⟨K, B, AS.emp⟩ (cxOf CX0 P w K mg base N x (defScope st) f cdv A outer s H E).nox (defBody st) ms) : KnK2 P w K mg base (k + 1) x ps j (spF K B n (denOf m ms)) := by
  obtain ⟨f, fd, F, kb, e⟩ := d.ex
  exact ⟨f, fd, fn_mk F S hn hN (hb f), kb, e, F.kp⟩
end
section
variable {W : Wd} {X : Cx} {k n j : Nat} {io : List Bool} {F : Den} {x : Str} {ps : List Str} {p pos kp1 kp2 : Pos} {a b e1 e2 : Expr} {ma mb m1 m2 : MX}
/-- f(a, b, start=e1, other_start=e2) -/
theorem pm_kw22 (cn : KnK2 X.prog X.w X.K X.mg X.base k x ps 2 (spF W.K W.B n F)) (hr : Room k X.A) (hg : Gl X x) (ha : PM W X a ma) (hb : PM W X b mb) (he1 : PM W X e1 m1) (he2 : PM W X e2 m2) (hdb : (x == ("__debug__" : Str)) = false := by decide)
    (hall : (backToKw pos (keywordEach [⟨some "start", e1, kp1⟩, ⟨some "other_start", e2, kp2⟩] X.env)).all (·.1.isSome) = true := by rfl) (hks : (backToKw pos (keywordEach [⟨some "start", e1, kp1⟩, ⟨some "other_start", e2, kp2⟩] X.env)).filterMap (·.1) = (["start", "other_start"] : List Str) := by rfl)
    (hs : starEach [a, b] X.env = (false, eval a X.env) :: starEach [b] X.env := by rfl) (hs2 : starEach [b] X.env = (false, eval b X.env) :: starEach [] X.env := by rfl)
    (hpl : ((backTo pos (starEach [a, b] X.env)).any (·.1) || (backToKw pos (keywordEach [⟨some "start", e1, kp1⟩, ⟨some "other_start", e2, kp2⟩] X.env)).any (·.1.isNone)) = false := by rfl) :
    PM W X (.Call (.Name x p) [a, b] [⟨some "start", e1, kp1⟩, ⟨some "other_start", e2, kp2⟩] pos) (mPrim (fCall io n F) (mCons ma (mCons mb (mCons m1 (mCons m2 mNil))))) := by
  obtain ⟨f, fd, fo, kb, hm, kp⟩ := cn.ex
  refine ⟨fun B0 => PE.imp (pe_callN fo hr hg hm kp kb (E := E0) pass0 (pa_cons (ha.pe B0) (pa_cons hb.pex pa_nil hs2) hs) (pk_cons he1.pex (pk_cons he2.pex pk_nil)) hall hks hdb hs hpl) fun σ H Q h => ?_⟩
  have h1 := prim_split (prim_call (W := W.at B0) (E := E0)) h
  refine tM_mono (mcons_split h1) fun v1 H1 ⟨B1, q1⟩ => ⟨B1, tM_mono (mcons_split q1) fun v2 H2 ⟨B2, q2⟩ => ⟨B2, tM_mono (mcons_split q2) fun v3 H3 q3 => tMx_mono (split1x q3) fun v4 H4 q4 => ⟨rfl, rfl, q4⟩⟩⟩
end
end Mx

set_option Elab.async false
set_option autoImplicit false
set_option linter.all false
set_option maxRecDepth 100000
/-! Mx49: x.pop(). -/
namespace Mx
open PySem PySem.Spec PyProof.Rows L2
theorem atl_dropLast {T : AS} {H : Hp} : ∀ {xs : List V} {ds : List D}, AtL T H xs ds → AtL T H xs.dropLast ds.dropLast
  | _, _, .nil => .nil
  | _, _, .cons _ .nil => .nil
  | _, _, .cons a (.cons b c) => .cons a (atl_dropLast (.cons b c))
def mPopL (i : Nat) : MX := fun env => (ownL env[i]?).bind fun (l, ds) => (ds[ds.length - 1]?).bind fun d => some (.dat d, env.set i (some (.own l (.list ds.dropLast))))
theorem pm_popL {W : Wd} {X : Cx} {o : Expr} {i : Nat} {apos cpos : Pos} (ho : PM W X o (mVar i)) (hpe : ∀ {to : TE}, PE X o to → PE X (.Call (.Attribute o "pop" apos) [] [] cpos) (tBM0 X.K "list" rPop to)) : PM W X (.Call (.Attribute o "pop" apos) [] [] cpos) (mPopL i) :=
  ⟨fun B0 => PE.imp (hpe (ho.pe B0)) fun σ H Q ⟨T0, env, f, env', R, e, k⟩ => by
    unfold mPopL at e
    cases e0 : ownL env[i]? with
    | none => simp [e0] at e
    | some w0 =>
      obtain ⟨l, ds⟩ := w0
      cases e6 : ds[ds.length - 1]? with
      | none => simp [e0, e6] at e
      | some d =>
        simp only [e0, e6, Option.bind] at e
        cases e
        have hs := ownL_some e0
        refine ⟨T0, env, .slot i, env, R, by unfold mVar; rw [hs], fun x H1 k1 s1 o1 => ?_⟩
        obtain ⟨hx, R1⟩ := o1
        obtain ⟨p, rfl, ⟨xs, hp, la⟩, n0⟩ := slot_get R1 hx hs
        refine ⟨.inl ⟨rfl, xs, SqL.of hp⟩, ?_⟩
        obtain ⟨v, hv, av⟩ := la.get e6
        refine ⟨p, xs, v, rfl, rfl, hp, by rw [la.length]; exact hv, ?_⟩
        have M : Move (Tot T0 σ env) (Tot T0 σ env) H1 (upd H1 p (.lst xs.dropLast)) := ⟨fun a o nn q => ⟨by rw [upd_ne (fun z => nn (by rw [z]; exact .inr ⟨i, ⟨l, _, hs⟩, hx⟩))]; exact q, nn⟩⟩
        have la3 : AtL (Tot T0 σ env) (upd H1 p (.lst xs.dropLast)) xs.dropLast ds.dropLast := atl_dropLast (AtL.move M ds xs la)
        obtain ⟨R4, s4, k4⟩ := own_write (u := .lst xs.dropLast) (d := .list ds.dropLast) R1 hs hx ⟨_, upd_same, la3⟩
        exact k _ _ (k1.trans k4 fun a z => z) s4 ⟨At.move (M.trans (Move.sub s4.tot)) d v av, R4⟩⟩
theorem W_mPopL {R : Opd × MEnv → Prop} {i : Nat} {env : MEnv} : W (mPopL i env) R = W (ownL env[i]?) fun l => W l.2[l.2.length - 1]? fun d => R (.dat d, env.set i (some (.own l.1 (.list l.2.dropLast)))) := by
  unfold mPopL
  rw [W_bind]
  congr 1
  funext l
  obtain ⟨l, ds⟩ := l
  rw [W_bind]
  congr 1
  funext d
  rw [W_some]
end Mx

set_option Elab.async false
set_option autoImplicit false
set_option linter.all false
set_option maxRecDepth 100000
/-! Mx50: sorted of lists of tuples of ints, of dicts: any number of items. -/
namespace Mx
open PySem PySem.Spec PyProof.Rows L2
open L2 (Inv)
theorem lex_inl : ∀ (a b : List Int), PyProof.Rows.lexLt itemOrd (a.map Sum.inl) (b.map Sum.inl) = HT.lexLt a b
  | [], [] => rfl
  | [], _ :: _ => rfl
  | _ :: _, [] => rfl
  | x :: a, y :: b => by
    rw [List.map_cons, List.map_cons, lex_cons, lex_inl a b, HT.lexLt_cons]
    show (decide (x < y) || (!decide (y < x) && _)) = _
    by_cases c : x = y
    · subst c
      rw [if_pos rfl, decide_eq_false (Int.lt_irrefl x)]
      rfl
    · rw [if_neg c]
      by_cases d : x < y
      · rw [decide_eq_true d]; rfl
      · rw [decide_eq_false d, decide_eq_true (show y < x by omega)]; rfl
theorem lxt_irrefl (a : List Int) : HT.lexLt a a = false := by rw [← lex_inl]; exact lex_irrefl _
theorem lxt_trans {a b c : List Int} (h : HT.lexLt a b = true) (k : HT.lexLt b c = true) : HT.lexLt a c = true := by
  rw [← lex_inl] at *
  exact lex_trans _ _ _ h k
theorem lxt_neg {a b c : List Int} (h : HT.lexLt b a = false) (k : HT.lexLt c b = false) : HT.lexLt c a = false := by
  cases q : HT.lexLt c a with
  | false => rfl
  | true =>
    rw [← lex_inl] at *
    rcases lex_negTrans _ (b.map Sum.inl) _ q with z | z
    · rw [z] at k; cases k
    · rw [z] at h; cases h
theorem lxt_total {a b : List Int} (h : HT.lexLt a b = false) (k : HT.lexLt b a = false) : a = b := by
  rw [← lex_inl] at *
  have := lex_total _ _ h k
  exact (List.map_inj_right (f := fun (i : Int) => (Sum.inl i : Int ⊕ List Nat)) (fun x y z => Sum.inl.inj z)).mp this
theorem swo_lex (f : Value → List Int) : SrtO.Swo (fun v u => HT.lexLt (f v) (f u)) := by
  refine ⟨fun x y h => ?_, fun x y z h1 h2 => lxt_neg h1 h2⟩
  cases q : HT.lexLt (f y) (f x) with
  | false => rfl
  | true =>
    have := lxt_trans h q
    rw [lxt_irrefl] at this
    cases this
/-- the ints of a tuple -/
def kI (h : Heap) : Value → List Int
  | .ref a => match h.get? a with
    | some o => match o.data with
      | .seq xs _ => xs.toList.map SrtO.iv
      | _ => []
    | none => []
  | _ => []
def IsT (h : Heap) (v : Value) (ns : List Int) : Prop := ∃ a o its n, v = .ref a ∧ h.get? a = some o ∧ o.cls = .type "tuple" ∧ o.data = .seq its n ∧ IntsAre its.toList ns
theorem IsT.kI {h : Heap} {v : Value} {ns : List Int} (t : IsT h v ns) : kI h v = ns := by
  obtain ⟨a, o, its, n, rfl, ho, hc, hd, hi⟩ := t
  show (match h.get? a with | some o => _ | none => _) = _
  rw [ho]
  show (match o.data with | .seq xs _ => _ | _ => _) = _
  rw [hd]
  exact SrtO.iv_ints hi
theorem items_ints : ∀ {vs : List Value} {ns : List Int} {i : Nat}, IntsAre vs ns → tupItems (fun _ => false) i vs = some (ns.map Sum.inl)
  | _, _, i, .nil => rfl
  | _, _, i, .cons n t r => by
    show (if (false = true) then _ else (tupItems _ (i + 1) _).map _) = _
    rw [if_neg Bool.false_ne_true, items_ints r]
    rfl
theorem IsT.key {h : Heap} {v : Value} {ns : List Int} (t : IsT h v ns) : G.tupKeyC h (fun _ => false) v = some (ns.map Sum.inl) := by
  obtain ⟨a, o, its, n, rfl, ho, hc, hd, hi⟩ := t
  exact G.tupKeyC_of ho hc hd (items_ints hi)
theorem tups_of {h : Heap} : ∀ {vs : List Value}, (∀ v ∈ vs, ∃ ns, IsT h v ns ∧ ns ≠ []) → ∃ fs, TupsOf h (fun _ => false) vs fs ∧ fs.length = vs.length
  | [], _ => ⟨[], .nil, rfl⟩
  | v :: vs, hv => by
    obtain ⟨fs, t, l⟩ := tups_of (vs := vs) fun u hu => hv u (List.mem_cons_of_mem _ hu)
    obtain ⟨ns, ⟨a, o, its, n, rfl, ho, hc, hd, hi⟩, hn⟩ := hv v (List.mem_cons_self ..)
    cases hx : its.toList with
    | nil =>
      rw [hx] at hi
      cases hi
      exact absurd rfl hn
    | cons x xs =>
      rw [hx] at hi
      cases hi with
      | cons m tk r =>
        refine ⟨.int m tk :: fs, .cons ⟨a, o, its, n, rfl, ho, hc, hd, by rw [← Array.getElem?_toList, hx]; rfl, fun _ => ⟨_, _, rfl⟩, fun z => nomatch z⟩ t, by simp [l]⟩
section
variable {prog : Program} {w : World} {A : Around} {E : Value → Shared → Prop} {s : Shared}
theorem tups_sortable {h0 : Heap} {a : Addr} {vs : List Value} {oa : Obj} (hv : ∀ v ∈ vs, ∃ ns, IsT h0 v ns ∧ ns ≠ []) (k0 : G.KeepsTups h0 s.heap) (ha : s.heap.get? a = some oa) (hc : oa.cls ≠ .type "tuple") (h2 : 2 ≤ vs.length) :
    SrtO.SortableO prog w A s a vs (fun v u => HT.lexLt (kI h0 v) (kI h0 u)) := by
  intro h' k
  have kt : G.KeepsTups h0 h' := k0.trans fun b o e c => k b o (fun z => by rw [z, ha] at e; cases e; exact hc c) e
  obtain ⟨fs, t, l⟩ := tups_of hv
  refine ⟨tuples' true, fun Q E hq => tup_kind (s := { s with heap := h' }) (shape := fun _ => false) (by rw [l]; omega) (G.TupsOf.keep kt t) hq, fun p q hp hq => ?_⟩
  obtain ⟨m, tm, _⟩ := hv _ hp
  obtain ⟨m', tm', _⟩ := hv _ hq
  refine G.tupC_ltAt (s := { s with heap := h' }) true kt A _ p.1 q.1 _ _ tm.key tm'.key ?_
  refine ⟨rfl, ?_⟩
  show PyProof.Rows.lexLt itemOrd _ _ = HT.lexLt (kI h0 p.1) (kI h0 q.1)
  rw [lex_inl, tm.kI, tm'.kI]
end
theorem perm_map {α β : Type} {f : α → β} : ∀ {out : List β} {M : List β}, out.Perm M → ∀ {L : List α}, M = L.map f → ∃ L' : List α, L'.Perm L ∧ out = L'.map f := by
  intro out M h
  induction h with
  | nil =>
    intro L e
    cases L with
    | nil => exact ⟨[], .refl _, rfl⟩
    | cons _ _ => cases e
  | cons x _ ih =>
    intro L e
    cases L with
    | nil => cases e
    | cons y L =>
      rw [List.map_cons] at e
      cases e
      obtain ⟨L', p, e⟩ := ih rfl
      exact ⟨y :: L', .cons _ p, by rw [List.map_cons, e]⟩
  | swap x y l =>
    intro L e
    match L, e with
    | a :: b :: L, e =>
      rw [List.map_cons, List.map_cons] at e
      cases e
      exact ⟨b :: a :: L, .swap _ _ _, rfl⟩
  | trans _ _ i1 i2 =>
    intro L e
    obtain ⟨L1, p1, e1⟩ := i2 e
    obtain ⟨L2, p2, e2⟩ := i1 e1
    exact ⟨L2, p2.trans p1, e2⟩
/-- sorted(xs), xs a list of tuples of ints -/
def rSortLT (K : PySem.W.Frag) : List V → Hp → VK → Prop := fun vs H Q => ∃ (a : Addr) (L : List (Addr × List Int)), vs = [V.ref a] ∧ SqL K H a (L.map fun q => V.ref q.1) ∧ (∀ q ∈ L, H q.1 = some (.tup (q.2.map V.int))) ∧ (L.length ≤ 1 ∨ ∀ q ∈ L, q.2 ≠ []) ∧
  ∀ (L' : List (Addr × List Int)) (p : Addr), L'.Perm L → L'.Pairwise (fun q r => HT.lexLt r.2 q.2 = false) → H p = none → Q (.ref p) (upd H p (.lst (L'.map fun q => V.ref q.1)))
/-- sorted(d), the keys of d tuples of ints -/
def rSortDT : List V → Hp → VK → Prop := fun vs H Q => ∃ (a : Addr) (kvs : List (List Key × V)) (ks : List (List Int)), vs = [V.ref a] ∧ Rd H a (.dT kvs) ∧ kvs.map (·.1) = ks.map (fun k => k.map Sum.inl) ∧ (ks.length ≤ 1 ∨ ∀ k ∈ ks, k ≠ []) ∧
  ∀ (L' : List (Addr × List Int)) (p : Addr), (∀ q ∈ L', H q.1 = some (.tup (q.2.map V.int))) → (L'.map (·.2)).Perm ks → L'.Pairwise (fun q r => HT.lexLt r.2 q.2 = false) → H p = none → Q (.ref p) (upd H p (.lst (L'.map fun q => V.ref q.1)))
/-- sorted(d), the keys of d ints -/
def rSortDI : List V → Hp → VK → Prop := fun vs H Q => ∃ (a : Addr) (kvs : List (Key × V)) (ks : List Int), vs = [V.ref a] ∧ Rd H a (.dK kvs) ∧ kvs.map (·.1) = ks.map Sum.inl ∧
  ∀ (ys : List Int) (p : Addr), ys.Perm ks → ys.Pairwise (· ≤ ·) → H p = none → Q (.ref p) (upd H p (.lst (ys.map V.int)))
theorem vals_rf : ∀ {L : List (Addr × List Int)} {us : List Value}, Vals (L.map fun q => V.ref q.1) us → us = L.map fun q => Value.ref q.1
  | [], _, h => by cases h; rfl
  | q :: L, _, h => by
    rw [List.map_cons] at h
    cases h with
    | cons a b =>
      rw [vals_rf b]
      cases a
      rfl
theorem rf_vals : ∀ (L : List (Addr × List Int)), Vals (L.map fun q => V.ref q.1) (L.map fun q => Value.ref q.1)
  | [] => .nil
  | _ :: L => .cons rfl (rf_vals L)
section
variable {X : Cx}
theorem isT_of {H : Hp} {s : Shared} {a : Addr} {ns : List Int} (hok : HOk X.prog X.w H s.heap) (e : H a = some (.tup (ns.map V.int))) : IsT s.heap (.ref a) ns := by
  obtain ⟨_, its, r, o, ho, hc, n, hd⟩ := hok a _ e
  exact ⟨a, o, _, n, rfl, ho, hc, hd, by simpa using r.ints⟩
theorem cr_sortedLT : CallR X (.builtin "sorted") (rSortLT X.K) := by
  intro pins s σ H vs us Q I r h
  obtain ⟨a, L, rfl, hs, ht, hn, q⟩ := h
  obtain ⟨its, rv, hl, hz⟩ := I.list hs
  rw [Vals.ref1 r]
  have hit := vals_rf rv
  subst hit
  have isT : ∀ p ∈ L, IsT s.heap (.ref p.1) p.2 := fun p hp => isT_of I.hok (ht p hp)
  have hz' : (L.map fun q => Value.ref q.1).length ≤ sizeLine := by simpa using hz
  refine SrtO.sorted_ord (swo_lex (kI s.heap)) hl.isList hz' (fun h2 h₁ a' e1 e2 => ?_) fun out h1 h2 => ?_
  · refine tups_sortable (s := { s with heap := h₁ }) (h0 := s.heap) (fun v hv => ?_) (fun b o e _ => (e2 b o e).2) e1 (G.not_tuple_list) h2
    obtain ⟨p, hp, rfl⟩ := List.mem_map.mp hv
    refine ⟨p.2, isT p hp, ?_⟩
    rcases hn with hn | hn
    · rw [List.length_map] at h2
      omega
    · exact hn p hp
  · obtain ⟨L', pm, rfl⟩ := perm_map h2.perm rfl
    obtain ⟨ep, he'⟩ := PyProof.Rows.sortedAll_at s.heap (L.map fun q => Value.ref q.1) (L'.map fun q => Value.ref q.1).toArray
    have hlen : (L'.map fun q => V.ref q.1).length ≤ sizeLine := by
      rw [List.length_map, pm.length_eq]
      rw [List.length_map] at hz'
      exact hz'
    refine ⟨.ref _, upd H (s.heap.objs.size + 1) (.lst (L'.map fun q => V.ref q.1)), I.laid (t' := s.toks) (fun _ _ => PyProof.Rows.sortedAll_old) (Nat.le_succ _) ⟨hlen, _, ep, rf_vals L', he'⟩, rfl, q _ _ pm ?_ (I.hok.fresh (Nat.le_succ _))⟩
    have h3 := List.pairwise_map.mp h1
    refine List.Pairwise.imp_of_mem (fun {x y} hx hy h => ?_) h3
    have ex := (isT x (pm.mem_iff.mp hx)).kI
    have ey := (isT y (pm.mem_iff.mp hy)).kI
    have h' : HT.lexLt (kI s.heap (Value.ref y.1)) (kI s.heap (Value.ref x.1)) = false := h
    rw [ex, ey] at h'
    exact h'
def unI : List Key → List Int
  | [] => []
  | .inl i :: k => i :: unI k
  | .inr _ :: k => unI k
theorem unI_inl : ∀ {k : List Int}, unI (k.map Sum.inl) = k
  | [] => rfl
  | i :: k => congrArg (i :: ·) (unI_inl (k := k))
theorem kt_ints {H : Hp} : ∀ {kvs : List (List Key × V)} {xs : List (List Key × Addr × Value)} {ks : List (List Int)}, KT H kvs xs → kvs.map (·.1) = ks.map (fun k => k.map Sum.inl) →
    (∀ q ∈ xs.map (fun x => (x.2.1, unI x.1)), H q.1 = some (.tup (q.2.map V.int))) ∧ (xs.map (fun x => (x.2.1, unI x.1))).map (·.2) = ks
  | _, _, ks, .nil, e => by
    cases ks with
    | nil => exact ⟨fun q m => (by cases m), rfl⟩
    | cons _ _ => cases e
  | _, _, ks, .cons (a := p) (b := q) h t, e => by
    cases ks with
    | nil => cases e
    | cons k ks =>
      rw [List.map_cons, List.map_cons] at e
      obtain ⟨e1, e2⟩ := List.cons.inj e
      obtain ⟨i1, i2⟩ := kt_ints t e2
      obtain ⟨a1, a2, _⟩ := h
      have ek : unI q.1 = k := by rw [← a1, e1, unI_inl]
      refine ⟨fun z m => ?_, ?_⟩
      · rw [List.map_cons] at m
        rcases List.mem_cons.mp m with rfl | m
        · show H q.2.1 = some (.tup ((unI q.1).map V.int))
          rw [ek, a2, e1, List.map_map]
          rfl
        · exact i1 z m
      · rw [List.map_cons, List.map_cons, i2]
        show unI q.1 :: ks = _
        rw [ek]
theorem call_sortedDT (hcalm : X.calm = true) : CallR X (.builtin "sorted") rSortDT := by
  intro pins s σ H vs us Q I r h
  obtain ⟨a, kvs, ks, rfl, hd, hk, hn, q⟩ := h
  obtain ⟨u, rfl, rx⟩ := vals1 r
  cases rx
  obtain ⟨z, hs, xs, pr, o, es, ep, ho, hx, hdt, he, hn2⟩ := (show ObjOk X.prog X.w H s.heap a (.dT kvs) from hd.ok I.hok)
  have l1 : es.size = xs.length := size_of_entries he
  have l2 : kvs.length = xs.length := Paired.length pr
  obtain ⟨k1, k2⟩ := kt_ints pr hk
  obtain ⟨L, hL⟩ : ∃ L, L = xs.map (fun x => (x.2.1, unI x.1)) := ⟨_, rfl⟩
  have lL : L.length = xs.length := by rw [hL, List.length_map]
  refine Calls.call_function_entry PyProof.Rows.kind_sorted PyProof.Rows.plain_sorted PyProof.Rows.entry_sorted (PyProof.Rows.args_sorted1 _) ?_
  unfold Builtin.«sorted»
  refine wpAny_bind (m := checkCount "sorted" 1 1 _) (wpAny_pure ?_)
  refine wpAny_bind (PySem.W.kdu_collect (A := X.A.in1) (kdl_raw (prog := X.prog) (w := X.w) hs hx hdt) (I.ok.hd hcalm) ho (by omega) fun h' tk acc hk' hacc => ?_)
  have ea : acc.toList = L.map fun q => Value.ref q.1 := by
    have hl : acc.toList.length = xs.length := by rw [Array.length_toList, hacc.1]; exact l1
    apply List.ext_getElem?
    intro j
    rw [List.getElem?_map, hL, List.getElem?_map]
    cases hj : acc.toList[j]? with
    | none =>
      have h1 := List.getElem?_eq_none_iff.mp hj
      rw [List.getElem?_eq_none (by omega)]
      rfl
    | some v =>
      obtain ⟨en, hen, hv⟩ := hacc.2 j v (by rw [← Array.getElem?_toList]; exact hj)
      have qe := entry_at he j
      rw [hen] at qe
      cases hb : xs[j]? with
      | none => rw [hb] at qe; cases qe
      | some b =>
        rw [hb] at qe
        have e2 : en = entryOfKey (tupleKind (mixKind X.prog X.w)) b := Option.some.inj qe
        rw [hv, e2]
        rfl
  rw [ea]
  have I1 : Inv X pins σ H { s with heap := h', toks := tk } := I.kept hk'
  have hzl : (L.map fun q => Value.ref q.1).length ≤ sizeLine := by rw [List.length_map, lL]; omega
  have ht : ∀ p ∈ L, H p.1 = some (.tup (p.2.map V.int)) := by rw [hL]; exact k1
  have isT : ∀ p ∈ L, IsT h' (.ref p.1) p.2 := fun p hp => isT_of (s := { s with heap := h', toks := tk }) I1.hok (ht p hp)
  refine wpAny_bind (wpAny_newList ?_ hzl)
  have hoL : (h'.push (seqObj "list" (L.map fun q => Value.ref q.1).toArray 0)).get? h'.objs.size = some (seqObj "list" (L.map fun q => Value.ref q.1).toArray 0) := Heap.get?_push_size _ rfl
  show wpAny _ _ _ _ _ { s with heap := h'.push (seqObj "list" (L.map fun q => Value.ref q.1).toArray 0), toks := tk }
  refine wpAny_bind (wpAny_holding (wpAny_call_entry PyProof.Rows.slot_list_sort ⟨_, hoL, rfl⟩ PyProof.Rows.entry_list_sort
    (SrtO.list_sort_ord (s := { s with heap := h'.push (seqObj "list" (L.map fun q => Value.ref q.1).toArray 0), toks := tk }) (swo_lex (kI h')) hoL hzl (fun h2 => ?_) fun out h1 h2 => ⟨_, rfl, ?_⟩) (PyProof.Rows.args_list_sort _)))
  · refine tups_sortable (h0 := h') (fun v hv => ?_) (G.KeepsTups.push _ _) hoL G.not_tuple_list h2
    obtain ⟨p, hp, rfl⟩ := List.mem_map.mp hv
    refine ⟨p.2, isT p hp, ?_⟩
    rcases hn with hn | hn
    · have e1 : ks.length = xs.length := by rw [← k2, List.length_map, List.length_map]
      rw [List.length_map] at h2
      omega
    · refine hn p.2 ?_
      rw [← k2, ← hL]
      exact List.mem_map_of_mem hp
  · obtain ⟨L', pm, rfl⟩ := perm_map h2.perm rfl
    obtain ⟨e', he'⟩ := PyProof.Rows.sortedHeap_at (vs := L.map fun q => Value.ref q.1) (out := (L'.map fun q => Value.ref q.1).toArray) hoL
    have hlen : (L'.map fun q => V.ref q.1).length ≤ sizeLine := by
      rw [List.length_map, pm.length_eq, lL]
      omega
    refine wpAny_pure ⟨_, rfl, .ref h'.objs.size, upd H h'.objs.size (.lst (L'.map fun q => V.ref q.1)), I1.laid (t' := tk) (fun b u e => ?_) (Nat.le_refl _) ⟨hlen, _, e', rf_vals L', he'⟩, rfl, q L' _ (fun p hp => ht p (pm.mem_iff.mp hp)) ?_ ?_ (I1.hok.fresh (Nat.le_refl _))⟩
    · rw [PyProof.Rows.sortedHeap_old (fun z => by rw [z] at e; exact absurd (Heap.lt_size e) (Nat.lt_irrefl _)) (Nat.lt_of_lt_of_le (Heap.lt_size e) (by rw [Heap.size_push]; exact Nat.le_succ _))]
      exact Heap.get?_push_of_some _ e
    · rw [← k2, ← hL]
      exact pm.map _
    · have h3 := List.pairwise_map.mp h1
      refine List.Pairwise.imp_of_mem (fun {x y} hx hy h => ?_) h3
      have ex := (isT x (pm.mem_iff.mp hx)).kI
      have ey := (isT y (pm.mem_iff.mp hy)).kI
      have h4 : HT.lexLt (kI h' (Value.ref y.1)) (kI h' (Value.ref x.1)) = false := h
      rw [ex, ey] at h4
      exact h4
theorem keys_ints : ∀ {vs : List Value} {ks : List Int}, vs.length = ks.length → (∀ (j : Nat) (v : Value), vs[j]? = some v → ∃ (x : Int) (t : Tok), ks[j]? = some x ∧ v = .int x t) → IntsAre vs ks
  | [], [], _, _ => .nil
  | [], _ :: _, h, _ => by simp at h
  | _ :: _, [], h, _ => by simp at h
  | v :: vs, k :: ks, h, f => by
    obtain ⟨x, t, e1, rfl⟩ := f 0 v rfl
    cases e1
    exact .cons _ t (keys_ints (by simpa using h) fun j u e => f (j + 1) u e)
theorem call_sortedDJ (hcalm : X.calm = true) : CallR X (.builtin "sorted") rSortDI := by
  intro pins s σ H vs us Q I r h
  obtain ⟨a, kvs, ks, rfl, hd, hk, q⟩ := h
  obtain ⟨u, rfl, rx⟩ := vals1 r
  cases rx
  obtain ⟨z, lo, es, rel, dd⟩ := dk_rd I.hok hd
  obtain ⟨ep, hat⟩ := dd.dictAt
  have e1 : es.map (·.1) = ks.map Sum.inl := rel.keys.symm.trans hk
  have hl : es.length = ks.length := by
    have e := congrArg List.length e1
    rwa [List.length_map, List.length_map] at e
  have l2 : kvs.length = ks.length := by
    have e := congrArg List.length hk
    rwa [List.length_map, List.length_map] at e
  refine Calls.call_function_entry PyProof.Rows.kind_sorted PyProof.Rows.plain_sorted PyProof.Rows.entry_sorted (PyProof.Rows.args_sorted1 _) ?_
  unfold Builtin.«sorted»
  refine wpAny_bind (m := checkCount "sorted" 1 1 _) (wpAny_pure ?_)
  refine wpAny_bind (PySem.W.kdu_collect (A := X.A.in1) (PySem.W.kdl_dict (knd := mixKind X.prog X.w) (kvs := es) (ep := ep) lo) (I.ok.hd hcalm) hat (by omega) fun h' tk acc hk' hacc => ?_)
  have al : acc.toList.length = ks.length := by rw [Array.length_toList, hacc.1, hl]
  have hI : IntsAre acc.toList ks := keys_ints al fun j v e => by
    obtain ⟨k, x, e2, e3⟩ := hacc.2 j v (by rw [← Array.getElem?_toList]; exact e)
    have e4 : (es.map (·.1))[j]? = some k := by rw [List.getElem?_map, e2]; rfl
    rw [e1, List.getElem?_map] at e4
    obtain ⟨y, e5, e6⟩ := Option.map_eq_some_iff.mp e4
    subst e6
    rcases keyIs_shape (show keyIs (Sum.inl y) v = true from e3) with ⟨i, t, ek, ev⟩ | ⟨w, t, ek, ev⟩
    · cases ek
      exact ⟨y, t, e5, ev⟩
    · cases ek
  have I1 : Inv X pins σ H { s with heap := h', toks := tk } := I.kept hk'
  have hz : acc.toList.length ≤ sizeLine := by omega
  refine wpAny_bind (wpAny_newList ?_ hz)
  have hoL : (h'.push (seqObj "list" acc.toList.toArray 0)).get? h'.objs.size = some (seqObj "list" acc.toList.toArray 0) := Heap.get?_push_size _ rfl
  show wpAny _ _ _ _ _ { s with heap := h'.push (seqObj "list" acc.toList.toArray 0), toks := tk }
  refine wpAny_bind (wpAny_holding (wpAny_call_entry PyProof.Rows.slot_list_sort ⟨_, hoL, rfl⟩ PyProof.Rows.entry_list_sort
    (SrtO.list_sort_ord (s := { s with heap := h'.push (seqObj "list" acc.toList.toArray 0), toks := tk }) SrtO.swo_int hoL hz (fun h2 => SrtO.ints_sortable hI h2) fun out h1 h2 => ⟨_, rfl, ?_⟩) (PyProof.Rows.args_list_sort _)))
  obtain ⟨g1, g2, g3⟩ := SrtO.ints_out hI h1 h2
  obtain ⟨e', he'⟩ := PyProof.Rows.sortedHeap_at (vs := acc.toList) (out := out.toArray) hoL
  have hlen : ((out.map SrtO.iv).map V.int).length ≤ sizeLine := by
    rw [List.length_map, g2.length_eq]
    omega
  refine wpAny_pure ⟨_, rfl, .ref h'.objs.size, upd H h'.objs.size (.lst ((out.map SrtO.iv).map V.int)), I1.laid (t' := tk) (fun b u e => ?_) (Nat.le_refl _) ⟨hlen, out, e', vals_of_ints g1, he'⟩, rfl, q _ _ g2 g3 (I1.hok.fresh (Nat.le_refl _))⟩
  rw [PyProof.Rows.sortedHeap_old (fun z => by rw [z] at e; exact absurd (Heap.lt_size e) (Nat.lt_irrefl _)) (Nat.lt_of_lt_of_le (Heap.lt_size e) (by rw [Heap.size_push]; exact Nat.le_succ _))]
  exact Heap.get?_push_of_some _ e
end
end Mx

set_option Elab.async false
set_option autoImplicit false
set_option linter.all false
set_option maxRecDepth 100000
/-! Mx51: sorted of lists of tuples, of dicts, as data. -/
namespace Mx
open PySem PySem.Spec PyProof.Rows L2
open L2 (Inv)
def sortT (ns : List (List Int)) : List (List Int) := ns.mergeSort fun a b => !HT.lexLt b a
theorem sortT_perm (ns : List (List Int)) : (sortT ns).Perm ns := List.mergeSort_perm ..
theorem sortT_sorted (ns : List (List Int)) : (sortT ns).Pairwise fun a b => HT.lexLt b a = false := by
  have := List.pairwise_mergeSort (le := fun a b : List Int => !HT.lexLt b a) (fun a b c h1 h2 => by
    simp only [Bool.not_eq_true'] at *
    exact lxt_neg h1 h2) (fun a b => by
    cases q : HT.lexLt b a with
    | false => rfl
    | true =>
      cases q2 : HT.lexLt a b with
      | false => rfl
      | true =>
        have := lxt_trans q q2
        rw [lxt_irrefl] at this
        cases this) ns
  exact this.imp fun h => by simpa using h
theorem sortT_eq {ns ms : List (List Int)} (h : ms.Perm ns) (k : ms.Pairwise fun a b => HT.lexLt b a = false) : ms = sortT ns :=
  List.Perm.eq_of_pairwise (le := fun a b => HT.lexLt b a = false) (fun a b _ _ h1 h2 => lxt_total h2 h1) k (sortT_sorted ns) (h.trans (sortT_perm ns).symm)
abbrev tuI (k : List Int) : D := .tuple (k.map PyData.int)
def tupOf : D → Option (List Int)
  | .tuple ds => intsOf ds
  | _ => none
theorem tupOf_eq {d : D} {k : List Int} (h : tupOf d = some k) : d = tuI k := by
  unfold tupOf at h
  split at h
  · rw [intsOf_eq h]
  · cases h
def tupsOf : List D → Option (List (List Int))
  | [] => some []
  | d :: ds => (tupOf d).bind fun k => (tupsOf ds).map (k :: ·)
theorem tupsOf_eq : ∀ {ds : List D} {ks : List (List Int)}, tupsOf ds = some ks → ds = ks.map tuI
  | [], _, h => by cases h; rfl
  | d :: ds, ks, h => by
    unfold tupsOf at h
    cases e : tupOf d with
    | none => rw [e] at h; cases h
    | some k =>
      rw [e] at h
      obtain ⟨r, e2, rfl⟩ := Option.map_eq_some_iff.mp h
      rw [tupOf_eq e, tupsOf_eq e2]
      rfl
theorem tupsOf_map : ∀ {ks : List (List Int)}, tupsOf (ks.map tuI) = some ks
  | [] => rfl
  | k :: ks => by
    show ((intsOf (k.map PyData.int)).bind fun k => (tupsOf (ks.map tuI)).map (k :: ·)) = _
    rw [intsOf_map, tupsOf_map]
    rfl
def okT (ks : List (List Int)) : Bool := decide (ks.length ≤ 1) || ks.all fun k => !k.isEmpty
theorem okT_or {ks : List (List Int)} (h : okT ks = true) : ks.length ≤ 1 ∨ ∀ k ∈ ks, k ≠ [] := by
  unfold okT at h
  rcases (Bool.or_eq_true ..).mp h with h | h
  · exact .inl (of_decide_eq_true h)
  · refine .inr fun k m => ?_
    have := List.all_eq_true.mp h k m
    intro z
    rw [z] at this
    cases this
theorem okT_of {ks : List (List Int)} {n : Nat} (h : ∀ k ∈ ks, k.length = n) (h0 : n = 0 → ks.length ≤ 1) : okT ks = true := by
  unfold okT
  by_cases q : n = 0
  · rw [decide_eq_true (h0 q)]; rfl
  · rw [Bool.or_eq_true]
    refine .inr (List.all_eq_true.mpr fun k m => ?_)
    cases k with
    | nil => exact absurd (h [] m).symm q
    | cons a l => rfl
theorem atl_tups {T : AS} {H : Hp} : ∀ {ks : List (List Int)} {xs : List V}, AtL T H xs (ks.map tuI) → ∃ L : List (Addr × List Int), xs = L.map (fun q => V.ref q.1) ∧ L.map (·.2) = ks ∧ ∀ q ∈ L, H q.1 = some (.tup (q.2.map V.int)) ∧ ¬ T q.1
  | [], _, h => by cases h; exact ⟨[], rfl, rfl, fun q m => (by cases m)⟩
  | k :: ks, _, h => by
    rw [List.map_cons] at h
    cases h with
    | cons a b =>
      obtain ⟨L, e1, e2, f⟩ := atl_tups b
      cases a with
      | @tup a xs _ n e l =>
        have := ints_at l
        subst this
        refine ⟨(a, k) :: L, by rw [e1]; rfl, by rw [List.map_cons, e2], fun q m => ?_⟩
        rcases List.mem_cons.mp m with rfl | m
        · exact ⟨e, n⟩
        · exact f q m
theorem tups_atl {T : AS} {H : Hp} : ∀ (L : List (Addr × List Int)), (∀ q ∈ L, H q.1 = some (.tup (q.2.map V.int)) ∧ ¬ T q.1) → AtL T H (L.map fun q => V.ref q.1) ((L.map (·.2)).map tuI)
  | [], _ => .nil
  | q :: L, h => .cons (.tup (h q (List.mem_cons_self ..)).2 (h q (List.mem_cons_self ..)).1 (ints_atl q.2)) (tups_atl L fun r m => h r (List.mem_cons_of_mem _ m))
/-- sorted(xs), xs a list of tuples of ints -/
def fSortT : FX
  | [o], env => (gList1 (peek o env)).bind fun ds => (tupsOf ds).bind fun ks => if okT ks = true then some (.new (.list ((sortT ks).map tuI)), env) else none
  | _, _ => none
theorem prim_sortT {W : Wd} {K : PySem.W.Frag} : Prim W (rSortLT K) fSortT := by
  intro T0 σ H env vs os o env' Q ho e k
  unfold fSortT at e
  split at e
  · rename_i o1
    obtain ⟨x, rfl, h1, R0⟩ := opds1 ho
    cases e1 : gList1 (peek o1 env) with
    | none => simp [e1] at e
    | some ds =>
      cases e2 : tupsOf ds with
      | none => simp [e1, e2] at e
      | some ks =>
        simp only [e1, e2, Option.bind] at e
        split at e
        · rename_i hk
          cases e
          obtain ⟨p, xs, rfl, hp, l⟩ := peek_list h1 R0 (gList1_some e1)
          rw [tupsOf_eq e2] at l
          obtain ⟨L, rfl, eL, f⟩ := atl_tups l
          refine ⟨p, L, rfl, SqL.of hp, fun q m => (f q m).1, ?_, fun L' q pm pw hq => ?_⟩
          · rcases okT_or hk with z | z
            · exact .inl (by rw [← eL, List.length_map] at z; exact z)
            · exact .inr fun q m => z q.2 (by rw [← eL]; exact List.mem_map_of_mem m)
          · have e3 : L'.map (·.2) = sortT ks := sortT_eq (by rw [← eL]; exact pm.map _) (List.pairwise_map.mpr pw)
            rw [← e3] at k
            exact k _ _ (Keep.new hq) Osub.refl (mk_list R0 hq (tups_atl L' fun r m => f r (pm.mem_iff.mp m)))
        · cases e
  · cases e
/-- the keys of a dict, tuples of ints -/
def keysT : List (D × D) → Option (List (List Int))
  | [] => some []
  | p :: ds => (tupOf p.1).bind fun k => (keysT ds).map (k :: ·)
def keysI : List (D × D) → Option (List Int)
  | [] => some []
  | p :: ds => (gInt (some p.1)).bind fun k => (keysI ds).map (k :: ·)
theorem keysT_at {T : AS} {H : Hp} : ∀ {ds : List (D × D)} {kvs : List (List Key × V)} {ks : List (List Int)}, AtT T H kvs ds → keysT ds = some ks → kvs.map (·.1) = ks.map fun k => k.map Sum.inl
  | [], _, _, h, e => by cases h; cases e; rfl
  | p :: ds, _, ks, h, e => by
    cases h with
    | @cons k0 v vs d _ a b =>
      unfold keysT at e
      cases q : tupOf (kT k0) with
      | none => simp only [q] at e; cases e
      | some k =>
        simp only [q] at e
        obtain ⟨r, e2, rfl⟩ := Option.map_eq_some_iff.mp e
        have q' : kdOf (kT k0) = some (.t k) := by
          show (intsOf (k0.map kD)).map KD.t = _
          rw [show intsOf (k0.map kD) = some k from q]
          rfl
        rw [List.map_cons, List.map_cons, keysT_at b e2, kdOf_kT.mp q']
theorem keysI_at {T : AS} {H : Hp} : ∀ {ds : List (D × D)} {kvs : List (Key × V)} {ks : List Int}, AtM T H kvs ds → keysI ds = some ks → kvs.map (·.1) = ks.map Sum.inl
  | [], _, _, h, e => by cases h; cases e; rfl
  | p :: ds, _, ks, h, e => by
    cases h with
    | @cons k0 v vs d _ a b =>
      unfold keysI at e
      cases k0 with
      | inr x => cases e
      | inl i =>
        obtain ⟨r, e2, rfl⟩ := Option.map_eq_some_iff.mp (show (keysI ds).map (i :: ·) = some ks from e)
        rw [List.map_cons, List.map_cons, keysI_at b e2]
theorem keysT_atM {T : AS} {H : Hp} {p : D × D} {ds : List (D × D)} {kvs : List (Key × V)} {ks : List (List Int)} (h : AtM T H kvs (p :: ds)) (e : keysT (p :: ds) = some ks) : False := by
  cases h with
  | @cons k0 v vs d _ a b => cases k0 <;> cases e
theorem keysI_atT {T : AS} {H : Hp} {ds : List (D × D)} {kvs : List (List Key × V)} {ks : List Int} (h : AtT T H kvs ds) (z : kvs ≠ []) (e : keysI ds = some ks) : False := by
  cases h with
  | nil => exact z rfl
  | @cons k0 v vs d _ a b => cases e
/-- sorted(d), the keys tuples of ints -/
def fSortKT : FX
  | [o], env => (dictOf (peek o env)).bind fun ds => (keysT ds).bind fun ks => if okT ks = true ∧ ks ≠ [] then some (.new (.list ((sortT ks).map tuI)), env) else none
  | _, _ => none
theorem prim_sortKT {W : Wd} : Prim W rSortDT fSortKT := by
  intro T0 σ H env vs os o env' Q ho e k
  unfold fSortKT at e
  split at e
  · rename_i o1
    obtain ⟨x, rfl, h1, R0⟩ := opds1 ho
    cases e1 : dictOf (peek o1 env) with
    | none => simp [e1] at e
    | some ds =>
      cases e2 : keysT ds with
      | none => simp [e1, e2] at e
      | some ks =>
        simp only [e1, e2, Option.bind] at e
        split at e
        · rename_i hk
          obtain ⟨hk, hne⟩ := hk
          cases e
          obtain ⟨p, rfl, hd⟩ := peek_dict h1 R0 (dictOf_some e1)
          rcases hd with ⟨kvs, hp, l⟩ | ⟨kvs, hp, z, l⟩
          · cases ds with
            | nil => cases e2; exact absurd rfl hne
            | cons a ds => exact (keysT_atM l e2).elim
          · refine ⟨p, kvs, ks, rfl, .inl hp, keysT_at l e2, okT_or hk, fun L' q hL pm pw hq => ?_⟩
            have e3 : L'.map (·.2) = sortT ks := sortT_eq pm (List.pairwise_map.mpr pw)
            rw [← e3] at k
            exact k _ _ (Keep.new hq) Osub.refl (mk_list R0 hq (tups_atl L' fun r m => ⟨hL r m, fun y => (R0.totMu y).2 _ (hL r m)⟩))
        · cases e
  · cases e
/-- sorted(d), the keys ints -/
def fSortKI : FX
  | [o], env => (dictOf (peek o env)).bind fun ds => (keysI ds).bind fun ks => some (.new (.list ((sortI ks).map PyData.int)), env)
  | _, _ => none
theorem prim_sortKI {W : Wd} : Prim W rSortDI fSortKI := by
  intro T0 σ H env vs os o env' Q ho e k
  unfold fSortKI at e
  split at e
  · rename_i o1
    obtain ⟨x, rfl, h1, R0⟩ := opds1 ho
    cases e1 : dictOf (peek o1 env) with
    | none => simp [e1] at e
    | some ds =>
      cases e2 : keysI ds with
      | none => simp [e1, e2] at e
      | some ks =>
        simp only [e1, e2, Option.bind] at e
        cases e
        obtain ⟨p, rfl, hd⟩ := peek_dict h1 R0 (dictOf_some e1)
        rcases hd with ⟨kvs, hp, l⟩ | ⟨kvs, hp, z, l⟩
        · refine ⟨p, kvs, ks, rfl, .inl hp, keysI_at l e2, fun ms q h1 h2 hq => ?_⟩
          rw [sortI_eq h1 h2]
          exact k _ _ (Keep.new hq) Osub.refl (mk_list R0 hq (ints_atl _))
        · exact (keysI_atT l z e2).elim
  · cases e
theorem keysT_tD : ∀ {kvs : List (List Int × D)}, keysT (tD kvs) = some (kvs.map (·.1))
  | [] => rfl
  | p :: kvs => by
    show ((intsOf (p.1.map PyData.int)).bind fun k => (keysT (tD kvs)).map (k :: ·)) = _
    rw [intsOf_map, keysT_tD]
    rfl
theorem keysI_iD : ∀ {kvs : List (Int × D)}, keysI (iD kvs) = some (kvs.map (·.1))
  | [] => rfl
  | p :: kvs => by
    show (keysI (iD kvs)).map (p.1 :: ·) = _
    rw [keysI_iD]
    rfl
theorem fSortKT_t {o : Opd} {env : MEnv} {kvs : List (List Int × D)} (h : peek o env = some (.dict (tD kvs))) (ok : okT (kvs.map (·.1)) = true) (hn : kvs ≠ []) : fSortKT [o] env = some (.new (.list ((sortT (kvs.map (·.1))).map tuI)), env) := by
  show ((dictOf (peek o env)).bind fun ds => (keysT ds).bind fun ks => if okT ks = true ∧ ks ≠ [] then some (Opd.new (.list ((sortT ks).map tuI)), env) else none) = _
  rw [h]
  show ((keysT (tD kvs)).bind fun ks => if okT ks = true ∧ ks ≠ [] then some (Opd.new (.list ((sortT ks).map tuI)), env) else none) = _
  rw [keysT_tD]
  show (if okT (kvs.map (·.1)) = true ∧ kvs.map (·.1) ≠ [] then _ else _) = _
  rw [if_pos ⟨ok, fun z => hn (List.map_eq_nil_iff.mp z)⟩]
theorem fSortKI_i {o : Opd} {env : MEnv} {kvs : List (Int × D)} (h : peek o env = some (.dict (iD kvs))) : fSortKI [o] env = some (.new (.list ((sortI (kvs.map (·.1))).map PyData.int)), env) := by
  show ((dictOf (peek o env)).bind fun ds => (keysI ds).bind fun ks => some (Opd.new (.list ((sortI ks).map PyData.int)), env)) = _
  rw [h]
  show ((keysI (iD kvs)).bind fun ks => some (Opd.new (.list ((sortI ks).map PyData.int)), env)) = _
  rw [keysI_iD]
  rfl
theorem fSortT_t {o : Opd} {env : MEnv} {ks : List (List Int)} (h : peek o env = some (.list (ks.map tuI))) (ok : okT ks = true) : fSortT [o] env = some (.new (.list ((sortT ks).map tuI)), env) := by
  show ((gList1 (peek o env)).bind fun ds => (tupsOf ds).bind fun ks => if okT ks = true then some (Opd.new (.list ((sortT ks).map tuI)), env) else none) = _
  rw [h]
  show ((tupsOf (ks.map tuI)).bind fun ks => if okT ks = true then some (Opd.new (.list ((sortT ks).map tuI)), env) else none) = _
  rw [tupsOf_map]
  show (if okT ks = true then _ else _) = _
  rw [if_pos ok]
/-! ### i >> j, i & 1 -/
def fShr : FX := fPure (gI2 (fun _ j => 0 ≤ j) fun i j => .int (i / 2 ^ j.toNat))
def gAnd1 : List D → Option D
  | [.int i, .int 1] => if 0 ≤ i then some (.int (i % 2)) else none
  | _ => none
theorem prim_and1 {W : Wd} : Prim W (R2P (fun x y H Q => ∃ n : Nat, x = .int (n : Int) ∧ y = .int 1 ∧ Q (.int ((n % 2 : Nat) : Int)) H)) (fPure gAnd1) := prim_pure fun vs H ds d v Q l e ev q => by
  unfold gAnd1 at e
  split at e
  · rename_i i
    obtain ⟨x, y, rfl, hx, hy⟩ := atl2 l
    split at e
    · rename_i h0
      cases e
      cases ev
      obtain ⟨n, rfl⟩ := Int.eq_ofNat_of_zero_le h0
      exact ⟨_, _, rfl, n, at_int hx, at_int hy, by rw [Int.natCast_emod]; exact q⟩
    · cases e
  · cases e
section
variable {W : Wd} {X : Cx} {a b : Expr} {ma mb : MX} {pos : Pos}
theorem pm_shr (ha : PM W X a ma) (hb : PM W X b mb) : PM W X (.BinOp a .RShift b pos) (mPrim fShr (mCons ma (mCons mb mNil))) := pm_bin op_shr (fun _ => prim_i2 (fun _ _ => rfl) fun _ _ h => h) ha hb
theorem pm_and1 (ha : PM W X a ma) (hb : PM W X b mb) : PM W X (.BinOp a .BitAnd b pos) (mPrim (fPure gAnd1) (mCons ma (mCons mb mNil))) := pm_bin op_odd (fun _ => prim_and1) ha hb
end
end Mx

set_option Elab.async false
set_option autoImplicit false
set_option linter.all false
set_option maxRecDepth 100000
/-! Mx52: reversed(range(n)). -/
namespace Mx
open PySem PySem.Spec PyProof.Rows L2
open L2 (Inv)
def gRevR : Option D → Option (List D)
  | some (.int n) => if 0 ≤ n ∧ n < 1000000 then some ((List.range n.toNat).map fun (i : Nat) => PyData.int (n - 1 - (i : Int))) else none
  | _ => none
def mRevR (ma : MX) : MI := fun env => (ma env).bind fun (o, env1) => (gRevR (peek o env1)).bind fun items => some (items, env1)
theorem src_revR {T : AS} {H : Hp} {lo : Int} {n : Nat} : Src (Itc lo (-1) n) T H ((List.range n).map fun (i : Nat) => PyData.int (lo - (i : Int))) := by
  refine ⟨fun Hi T' M dm i d e => ?_, fun Hi T' M => ?_⟩
  · rw [List.getElem?_map] at e
    obtain ⟨j, q, rfl⟩ := Option.map_eq_some_iff.mp e
    have hi : i < n := by
      have := (List.getElem?_eq_some_iff.mp q).1
      simpa using this
    rw [List.getElem?_range hi] at q
    cases q
    refine ⟨hi, fun x H3 y => ?_⟩
    obtain ⟨rfl, rfl⟩ := y
    refine ⟨Keep.refl, ?_⟩
    rw [show lo + (i : Nat) * (-1 : Int) = lo - (i : Int) by omega]
    exact .int _
  · show n ≤ _
    simp
theorem pmi_revR {W : Wd} {X : Cx} {tg a : Expr} {ma : MX} {p p2 pos pos2 : Pos} (hg : Gl X "reversed") (hm : X.mg "reversed" = none) (hg2 : Gl X "range") (hm2 : X.mg "range" = none) (ha : PM W X a ma) (na : starEach [a] X.env = (false, eval a X.env) :: starEach [] X.env := by rfl)
    (hs : starEach [.Call (.Name "range" p2) [a] [] pos2] X.env = (false, eval (.Call (.Name "range" p2) [a] [] pos2) X.env) :: starEach [] X.env := by rfl) :
    PMI W X tg (.Call (.Name "reversed" p) [.Call (.Name "range" p2) [a] [] pos2] [] pos) (mRevR ma) :=
  ⟨fun B0 => PI.imp (pi_revR hg hm (prg_1 hg2 hm2 (ha.pe B0) na) hs) fun σ H R ⟨T0, env, items, env', Rl, e, k⟩ => by
    unfold mRevR at e
    cases e1 : ma env with
    | none => simp [e1] at e
    | some z =>
      obtain ⟨o, env1⟩ := z
      cases e2 : gRevR (peek o env1) with
      | none => simp [e1, e2] at e
      | some it =>
        simp [e1, e2] at e
        obtain ⟨rfl, rfl⟩ := e
        unfold gRevR at e2
        split at e2
        · rename_i n q
          split at e2
          · rename_i hb
            cases e2
            refine ⟨T0, env, o, env1, Rl, e1, fun v H1 k1 s1 o1 => ?_⟩
            have R1 := opdK_base o1
            have hx := at_int (peek_at o1 R1 q)
            subst hx
            refine ⟨n, rfl, by omega, by omega, by omega, by omega, k _ H1 k1 s1 R1 ?_⟩
            have e3 : (0 : Int) + (((n - 0).toNat : Nat) : Int) - 1 = n - 1 := by omega
            rw [e3, show (n - 0).toNat = n.toNat by omega]
            exact src_revR
          · cases e2
        · cases e2⟩
theorem W_mRevR {ma : MX} {env : MEnv} {R : List D × MEnv → Prop} : W (mRevR ma env) R = W (ma env) fun p => W (gRevR (peek p.1 p.2)) fun q => R (q, p.2) := by
  unfold mRevR
  rw [W_bind]
  congr 1
  funext p
  obtain ⟨o, e⟩ := p
  show W ((gRevR (peek o e)).bind fun items => some (items, e)) R = _
  rw [W_bind]
  congr 1
  funext q
  rw [W_some]
end Mx

set_option Elab.async false
set_option autoImplicit false
set_option linter.all false
set_option maxRecDepth 100000
/-! Mx20: the tactic sx. -/
namespace Mx
open PySem PySem.Spec PyProof.Rows L2
theorem W_fCallD {io : List Bool} {k : Nat} {F : Mx.Den} {os : List Opd} {env : MEnv} {R : Opd × MEnv → Prop} : W (fCallD io k F os env) R = W (fCall io k F (os ++ [.dat .none]) env) R := rfl
theorem list_cases {d : D} {P : Prop} (h1 : ∀ l, d = .list l → P) (h2 : isList d = false → P) : P := by
  cases d with
  | list l => exact h1 l rfl
  | none => exact h2 rfl
  | bool b => exact h2 rfl
  | int i => exact h2 rfl
  | str x => exact h2 rfl
  | tuple l => exact h2 rfl
  | dict l => exact h2 rfl
/-! lists of ints -/
abbrev iL (xs : List Int) : D := .list (xs.map PyData.int)
theorem atI_ints {xs : List Int} {i : Nat} (h : i < xs.length) : atI (xs.map PyData.int) (i : Int) = some (.int (xs.getD i 0)) := by
  refine atI_nat ?_
  rw [List.getElem?_map, List.getElem?_eq_getElem h, List.getD_eq_getElem?_getD, List.getElem?_eq_getElem h]
  rfl
theorem ixN_nat {n i : Nat} (h : i < n) : ixN n (i : Int) = some i := by
  unfold ixN
  simp [h]
theorem ixN_3_0 : ixN 3 0 = some 0 := by decide
theorem ixN_3_1 : ixN 3 1 = some 1 := by decide
theorem ixN_3_2 : ixN 3 2 = some 2 := by decide
theorem set_ints {xs : List Int} {i : Nat} {v : Int} : (xs.map PyData.int).set i (.int v) = (xs.set i v).map PyData.int := by rw [List.map_set]
/-- a comprehension that reads only -/
theorem comp_map {env : MEnv} {t : D → MEnv → Option MEnv} {js : List Nat} {me : MX} {items : List D} {g : D → D} {Y : List D × MEnv → Prop} (hl : items.length < 16777216)
    (hs : ∀ d ∈ items, W (t d env) fun e1 => W (me e1) fun p => W (toDat p.1 p.2) fun x => x.1 = g d ∧ wipeE x.2 js = env) (k : Y (items.map g, env)) : W (mComp t js mYes me items [] env) Y := by
  refine W_mCompE (fun i acc => acc = (items.take i).map g) rfl ?_ ?_
  · rintro i d ac hd rfl
    have hi := (List.getElem?_eq_some_iff.mp hd).1
    refine W_mono (hs d (List.mem_of_getElem? hd)) fun e1 h1 => ?_
    refine ⟨_, rfl, ?_⟩
    show W (me e1) _
    refine W_mono h1 fun p h2 => W_mono h2 fun x h3 => ?_
    obtain ⟨h4, h5⟩ := h3
    refine ⟨by rw [List.length_map, List.length_take]; omega, ?_, h5⟩
    rw [List.take_add_one, hd, h4]
    simp
  · rintro ac rfl
    rw [List.take_length]
    exact k
end Mx

set_option autoImplicit false
set_option linter.all false
/-! Tk: tokens on boards, in numbers. -/
namespace Tk
/-- a gate's upper share of t with the pointer p -/
def up (t p : Int) : Int := (t + 1 - p) / 2
/-- one gate -/
def stepX (g : Nat × Nat) (p : Int) (xs : List Int) : List Int :=
  (xs.set g.1 (up (xs.getD g.1 0 + xs.getD g.2 0) p)).set g.2 (xs.getD g.1 0 + xs.getD g.2 0 - up (xs.getD g.1 0 + xs.getD g.2 0) p)
def stepP (g : Nat × Nat) (p : Int) (xs : List Int) : Int := (p + (xs.getD g.1 0 + xs.getD g.2 0)) % 2
def thruX : List (Nat × Nat) → List Int → List Int → List Int
  | g :: G, p :: ps, xs => thruX G ps (stepX g p xs)
  | _, _, xs => xs
def thruP : List (Nat × Nat) → List Int → List Int → List Int
  | g :: G, p :: ps, xs => stepP g p xs :: thruP G ps (stepX g p xs)
  | _, _, _ => []
def bit (p : Int) : Prop := p = 0 ∨ p = 1
def bits (ps : List Int) : Prop := ∀ p ∈ ps, bit p
/-- gates of a board with n lanes -/
def GsOk (n : Nat) (G : List (Nat × Nat)) : Prop := ∀ g ∈ G, g.1 < n ∧ g.2 < n ∧ g.1 ≠ g.2
theorem bits.tail {p : Int} {ps : List Int} (h : bits (p :: ps)) : bits ps := fun q m => h q (List.mem_cons_of_mem _ m)
theorem bits.head {p : Int} {ps : List Int} (h : bits (p :: ps)) : bit p := h p (List.mem_cons_self ..)
theorem GsOk.tail {n : Nat} {g : Nat × Nat} {G : List (Nat × Nat)} (h : GsOk n (g :: G)) : GsOk n G := fun q m => h q (List.mem_cons_of_mem _ m)
theorem GsOk.head {n : Nat} {g : Nat × Nat} {G : List (Nat × Nat)} (h : GsOk n (g :: G)) : g.1 < n ∧ g.2 < n ∧ g.1 ≠ g.2 := h g (List.mem_cons_self ..)
theorem stepX_len {g : Nat × Nat} {p : Int} {xs : List Int} : (stepX g p xs).length = xs.length := by simp [stepX]
theorem stepX_get {g : Nat × Nat} {p : Int} {xs : List Int} (h1 : g.1 < xs.length) (h2 : g.2 < xs.length) (hn : g.1 ≠ g.2) (k : Nat) :
    (stepX g p xs).getD k 0 = if k = g.2 then xs.getD g.1 0 + xs.getD g.2 0 - up (xs.getD g.1 0 + xs.getD g.2 0) p else if k = g.1 then up (xs.getD g.1 0 + xs.getD g.2 0) p else xs.getD k 0 := by
  unfold stepX
  rw [List.getD_eq_getElem?_getD]
  by_cases a : k = g.2
  · rw [a, List.getElem?_set_self (by simpa using h2)]
    simp
  · rw [if_neg a, List.getElem?_set_ne (Ne.symm a)]
    by_cases b : k = g.1
    · rw [b, List.getElem?_set_self h1]
      simp
    · rw [if_neg b, List.getElem?_set_ne (Ne.symm b), List.getD_eq_getElem?_getD]
theorem stepP_bit {g : Nat × Nat} {p : Int} {xs : List Int} : bit (stepP g p xs) := by
  unfold bit stepP
  omega
theorem thruX_len : ∀ {G : List (Nat × Nat)} {ps xs : List Int}, (thruX G ps xs).length = xs.length
  | [], _, _ => rfl
  | _ :: _, [], _ => rfl
  | g :: G, p :: ps, xs => by
    show (thruX G ps _).length = _
    rw [thruX_len, stepX_len]
theorem thruP_bits : ∀ {G : List (Nat × Nat)} {ps xs : List Int}, bits (thruP G ps xs)
  | [], _, _ => fun _ m => by cases m
  | _ :: _, [], _ => fun _ m => by cases m
  | g :: G, p :: ps, xs => fun q m => by
    rcases List.mem_cons.mp (show q ∈ stepP g p xs :: thruP G ps (stepX g p xs) from m) with rfl | m
    · exact stepP_bit
    · exact thruP_bits q m
theorem thruP_len : ∀ {G : List (Nat × Nat)} {ps xs : List Int}, ps.length = G.length → (thruP G ps xs).length = G.length
  | [], _, _, _ => rfl
  | _ :: _, [], _, h => by simp at h
  | g :: G, p :: ps, xs, h => by
    show (thruP G ps _).length + 1 = _
    rw [thruP_len (by simpa using h)]
    rfl
/-! sums of lists, place by place -/
def add (xs ys : List Int) : List Int := List.zipWith (· + ·) xs ys
def neg (xs : List Int) : List Int := xs.map (0 - ·)
theorem add_len {xs ys : List Int} (h : xs.length = ys.length) : (add xs ys).length = xs.length := by simp [add, h]
theorem add_get {xs ys : List Int} (h : xs.length = ys.length) (k : Nat) : (add xs ys).getD k 0 = xs.getD k 0 + ys.getD k 0 := by
  unfold add
  rw [List.getD_eq_getElem?_getD, List.getD_eq_getElem?_getD, List.getD_eq_getElem?_getD, List.getElem?_zipWith]
  cases a : xs[k]? with
  | none =>
    have : ys[k]? = none := by
      rw [List.getElem?_eq_none_iff] at a ⊢
      omega
    simp [this]
  | some x =>
    have hk := (List.getElem?_eq_some_iff.mp a).1
    rw [List.getElem?_eq_getElem (by omega)]
    simp
theorem ext_getD {xs ys : List Int} (h : xs.length = ys.length) (k : ∀ i, i < xs.length → xs.getD i 0 = ys.getD i 0) : xs = ys := by
  apply List.ext_getElem h
  intro i h1 h2
  have := k i h1
  rw [List.getD_eq_getElem?_getD, List.getD_eq_getElem?_getD, List.getElem?_eq_getElem h1, List.getElem?_eq_getElem h2] at this
  simpa using this
theorem neg_len {xs : List Int} : (neg xs).length = xs.length := by simp [neg]
theorem neg_get {xs : List Int} {k : Nat} : (neg xs).getD k 0 = - xs.getD k 0 := by
  unfold neg
  rw [List.getD_eq_getElem?_getD, List.getD_eq_getElem?_getD, List.getElem?_map]
  cases xs[k]? <;> simp
/-- amounts one after the other are their sum -/
theorem step_add {n : Nat} {g : Nat × Nat} {p : Int} {xs ys : List Int} (hg : g.1 < n ∧ g.2 < n ∧ g.1 ≠ g.2) (hp : bit p) (hx : xs.length = n) (hy : ys.length = n) :
    stepX g p (add xs ys) = add (stepX g p xs) (stepX g (stepP g p xs) ys) ∧ stepP g p (add xs ys) = stepP g (stepP g p xs) ys := by
  have e : xs.length = ys.length := by omega
  obtain ⟨g1, g2, gn⟩ := hg
  refine ⟨ext_getD ?_ fun i hi => ?_, ?_⟩
  · rw [stepX_len, add_len e, add_len (by rw [stepX_len, stepX_len, e]), stepX_len]
  · rw [stepX_get (by rw [add_len e]; omega) (by rw [add_len e]; omega) gn, add_get (xs := stepX g p xs) (ys := stepX g (stepP g p xs) ys) (by rw [stepX_len, stepX_len, e]), stepX_get (xs := xs) (by omega) (by omega) gn, stepX_get (xs := ys) (by omega) (by omega) gn, add_get e g.1, add_get e g.2, add_get e i]
    unfold stepP up
    generalize xs.getD g.1 0 = a
    generalize xs.getD g.2 0 = b
    generalize ys.getD g.1 0 = c
    generalize ys.getD g.2 0 = d
    rcases hp with rfl | rfl <;> split <;> (try split) <;> omega
  · unfold stepP
    rw [add_get e, add_get e]
    omega
theorem thru_add {n : Nat} : ∀ {G : List (Nat × Nat)} {ps xs ys : List Int}, GsOk n G → bits ps → ps.length = G.length → xs.length = n → ys.length = n →
    thruX G ps (add xs ys) = add (thruX G ps xs) (thruX G (thruP G ps xs) ys) ∧ thruP G ps (add xs ys) = thruP G (thruP G ps xs) ys
  | [], _, _, _, _, _, _, _, _ => ⟨rfl, rfl⟩
  | _ :: _, [], _, _, _, _, h, _, _ => by simp at h
  | g :: G, p :: ps, xs, ys, hg, hb, hl, hx, hy => by
    obtain ⟨a, b⟩ := step_add (ys := ys) hg.head hb.head hx hy
    obtain ⟨c, d⟩ := thru_add (xs := stepX g p xs) (ys := stepX g (stepP g p xs) ys) hg.tail hb.tail (by simpa using hl) (by rw [stepX_len]; exact hx) (by rw [stepX_len]; exact hy)
    refine ⟨?_, ?_⟩
    · show thruX G ps (stepX g p (add xs ys)) = add (thruX G ps (stepX g p xs)) (thruX G (thruP G ps (stepX g p xs)) (stepX g (stepP g p xs) ys))
      rw [a, c]
    · show stepP g p (add xs ys) :: thruP G ps (stepX g p (add xs ys)) = stepP g (stepP g p xs) ys :: thruP G (thruP G ps (stepX g p xs)) (stepX g (stepP g p xs) ys)
      rw [b, a, d]
/-- nothing enters -/
def zeros (n : Nat) : List Int := List.replicate n 0
theorem zeros_get {n k : Nat} : (zeros n).getD k 0 = 0 := by
  unfold zeros
  rw [List.getD_eq_getElem?_getD, List.getElem?_replicate]
  split <;> rfl
theorem zeros_len {n : Nat} : (zeros n).length = n := by simp [zeros]
theorem step_zero {n : Nat} {g : Nat × Nat} {p : Int} (hg : g.1 < n ∧ g.2 < n ∧ g.1 ≠ g.2) (hp : bit p) : stepX g p (zeros n) = zeros n ∧ stepP g p (zeros n) = p := by
  obtain ⟨g1, g2, gn⟩ := hg
  refine ⟨ext_getD stepX_len fun i hi => ?_, ?_⟩
  · rw [stepX_get (by rw [zeros_len]; exact g1) (by rw [zeros_len]; exact g2) gn, zeros_get, zeros_get, zeros_get]
    unfold up
    rcases hp with rfl | rfl <;> split <;> (try split) <;> rfl
  · unfold stepP
    rw [zeros_get, zeros_get]
    rcases hp with rfl | rfl <;> rfl
theorem thru_zero {n : Nat} : ∀ {G : List (Nat × Nat)} {ps : List Int}, GsOk n G → bits ps → ps.length = G.length → thruX G ps (zeros n) = zeros n ∧ thruP G ps (zeros n) = ps
  | [], [], _, _, _ => ⟨rfl, rfl⟩
  | [], _ :: _, _, _, h => by simp at h
  | _ :: _, [], _, _, h => by simp at h
  | g :: G, p :: ps, hg, hb, hl => by
    obtain ⟨a, b⟩ := step_zero hg.head hb.head
    obtain ⟨c, d⟩ := thru_zero hg.tail hb.tail (ps := ps) (by simpa using hl)
    refine ⟨?_, ?_⟩
    · show thruX G ps (stepX g p (zeros n)) = _
      rw [a, c]
    · show stepP g p (zeros n) :: thruP G ps (stepX g p (zeros n)) = _
      rw [a, b, d]
theorem add_neg {n : Nat} {xs : List Int} (h : xs.length = n) : add xs (neg xs) = zeros n := ext_getD (by rw [add_len neg_len.symm, zeros_len, h]) fun i _ => by
  rw [add_get neg_len.symm, neg_get, zeros_get]
  omega
theorem add_zeros {n : Nat} {xs : List Int} (h : xs.length = n) : add xs (zeros n) = xs := ext_getD (by rw [add_len (by rw [zeros_len, h])]) fun i _ => by
  rw [add_get (by rw [zeros_len, h]), zeros_get]
  omega
theorem zeros_add {n : Nat} {xs : List Int} (h : xs.length = n) : add (zeros n) xs = xs := ext_getD (by rw [add_len (by rw [zeros_len, h]), zeros_len, h]) fun i _ => by
  rw [add_get (by rw [zeros_len, h]), zeros_get]
  omega
/-- amounts and their opposites lead back -/
theorem thru_neg {n : Nat} {G : List (Nat × Nat)} {ps xs : List Int} (hg : GsOk n G) (hb : bits ps) (hl : ps.length = G.length) (hx : xs.length = n) :
    thruX G (thruP G ps xs) (neg xs) = neg (thruX G ps xs) ∧ thruP G (thruP G ps xs) (neg xs) = ps := by
  obtain ⟨a, b⟩ := thru_add (ys := neg xs) hg hb hl hx (by rw [neg_len]; exact hx)
  rw [add_neg hx] at a b
  obtain ⟨c, d⟩ := thru_zero hg hb hl
  rw [c] at a
  rw [d] at b
  refine ⟨ext_getD (by rw [neg_len, thruX_len, thruX_len, neg_len]) fun i _ => ?_, b.symm⟩
  have := congrArg (fun l : List Int => l.getD i 0) a
  rw [zeros_get, add_get (by rw [thruX_len, thruX_len, neg_len])] at this
  rw [neg_get]
  omega
/-- the sum stays -/
theorem sum_set : ∀ {xs : List Int} {i : Nat} {v : Int}, i < xs.length → (xs.set i v).sum = xs.sum - xs.getD i 0 + v
  | [], _, _, h => by simp at h
  | x :: xs, 0, v, _ => by
    simp only [List.set_cons_zero, List.sum_cons, List.getD_cons_zero]
    omega
  | x :: xs, i + 1, v, h => by
    have := sum_set (xs := xs) (i := i) (v := v) (by simpa using h)
    simp only [List.set_cons_succ, List.sum_cons, this, List.getD_cons_succ]
    omega
theorem step_sum {n : Nat} {g : Nat × Nat} {p : Int} {xs : List Int} (hg : g.1 < n ∧ g.2 < n ∧ g.1 ≠ g.2) (hx : xs.length = n) : (stepX g p xs).sum = xs.sum := by
  obtain ⟨g1, g2, gn⟩ := hg
  unfold stepX
  rw [sum_set (by rw [List.length_set]; omega), sum_set (by omega)]
  have : (xs.set g.1 (up (xs.getD g.1 0 + xs.getD g.2 0) p)).getD g.2 0 = xs.getD g.2 0 := by
    rw [List.getD_eq_getElem?_getD, List.getElem?_set_ne gn, List.getD_eq_getElem?_getD]
  rw [this]
  omega
theorem thru_sum {n : Nat} : ∀ {G : List (Nat × Nat)} {ps xs : List Int}, GsOk n G → xs.length = n → (thruX G ps xs).sum = xs.sum
  | [], _, _, _, _ => rfl
  | _ :: _, [], _, _, _ => rfl
  | g :: G, p :: ps, xs, hg, hx => by
    show (thruX G ps (stepX g p xs)).sum = _
    rw [thru_sum hg.tail (by rw [stepX_len]; exact hx), step_sum hg.head hx]
/-- boards one behind the other -/
theorem thru_app : ∀ {G G' : List (Nat × Nat)} {ps qs xs : List Int}, ps.length = G.length → thruX (G ++ G') (ps ++ qs) xs = thruX G' qs (thruX G ps xs) ∧ thruP (G ++ G') (ps ++ qs) xs = thruP G ps xs ++ thruP G' qs (thruX G ps xs)
  | [], G', [], qs, xs, _ => ⟨rfl, rfl⟩
  | [], _, _ :: _, _, _, h => by simp at h
  | _ :: _, _, [], _, _, h => by simp at h
  | g :: G, G', p :: ps, qs, xs, h => by
    obtain ⟨a, b⟩ := thru_app (G' := G') (qs := qs) (xs := stepX g p xs) (show ps.length = G.length by simpa using h)
    refine ⟨a, ?_⟩
    show stepP g p xs :: thruP (G ++ G') (ps ++ qs) (stepX g p xs) = _
    rw [b]
    rfl
/-! tokens -/
def passL : List (Nat × Nat) → List Int → Nat → Nat
  | g :: G, p :: ps, l => passL G ps (if l = g.1 ∨ l = g.2 then (if p = 1 then g.2 else g.1) else l)
  | _, _, l => l
def passP : List (Nat × Nat) → List Int → Nat → List Int
  | g :: G, p :: ps, l => (if l = g.1 ∨ l = g.2 then 1 - p else p) :: passP G ps (if l = g.1 ∨ l = g.2 then (if p = 1 then g.2 else g.1) else l)
  | _, _, _ => []
def unit (n l : Nat) : List Int := (zeros n).set l 1
theorem unit_len {n l : Nat} : (unit n l).length = n := by simp [unit, zeros]
theorem unit_get {n l : Nat} (h : l < n) (k : Nat) : (unit n l).getD k 0 = if k = l then 1 else 0 := by
  unfold unit
  rw [List.getD_eq_getElem?_getD]
  by_cases e : k = l
  · rw [e, List.getElem?_set_self (by rw [zeros_len]; exact h)]
    simp
  · rw [List.getElem?_set_ne (Ne.symm e), ← List.getD_eq_getElem?_getD, zeros_get, if_neg e]
theorem step_unit {n l : Nat} {g : Nat × Nat} {p : Int} (hg : g.1 < n ∧ g.2 < n ∧ g.1 ≠ g.2) (hp : bit p) (hl : l < n) :
    stepX g p (unit n l) = unit n (if l = g.1 ∨ l = g.2 then (if p = 1 then g.2 else g.1) else l) ∧ stepP g p (unit n l) = if l = g.1 ∨ l = g.2 then 1 - p else p := by
  obtain ⟨g1, g2, gn⟩ := hg
  have hl' : (if l = g.1 ∨ l = g.2 then (if p = 1 then g.2 else g.1) else l) < n := by
    split
    · split <;> assumption
    · exact hl
  refine ⟨ext_getD (by rw [stepX_len, unit_len, unit_len]) fun i hi => ?_, ?_⟩
  · rw [stepX_get (by rw [unit_len]; exact g1) (by rw [unit_len]; exact g2) gn, unit_get hl', unit_get hl, unit_get hl, unit_get hl]
    unfold up
    rcases hp with rfl | rfl <;> grind
  · unfold stepP
    rw [unit_get hl, unit_get hl]
    by_cases a : l = g.1
    · subst a
      rcases hp with rfl | rfl <;> simp [Ne.symm gn]
    · by_cases b : l = g.2
      · subst b
        rcases hp with rfl | rfl <;> simp [gn]
      · rw [if_neg (fun z => a z.symm), if_neg (fun z => b z.symm), if_neg (fun z => z.elim a b)]
        rcases hp with rfl | rfl <;> rfl
theorem passL_lt {n : Nat} : ∀ {G : List (Nat × Nat)} {ps : List Int} {l : Nat}, GsOk n G → l < n → passL G ps l < n
  | [], _, _, _, h => h
  | _ :: _, [], _, _, h => h
  | g :: G, p :: ps, l, hg, h => by
    refine passL_lt (G := G) (ps := ps) hg.tail ?_
    split
    · split
      · exact hg.head.2.1
      · exact hg.head.1
    · exact h
theorem thru_unit {n : Nat} : ∀ {G : List (Nat × Nat)} {ps : List Int} {l : Nat}, GsOk n G → bits ps → ps.length = G.length → l < n → thruX G ps (unit n l) = unit n (passL G ps l) ∧ thruP G ps (unit n l) = passP G ps l
  | [], [], _, _, _, _, _ => ⟨rfl, rfl⟩
  | [], _ :: _, _, _, _, h, _ => by simp at h
  | _ :: _, [], _, _, _, h, _ => by simp at h
  | g :: G, p :: ps, l, hg, hb, hl, h => by
    obtain ⟨a, b⟩ := step_unit hg.head hb.head h
    have hl' : (if l = g.1 ∨ l = g.2 then (if p = 1 then g.2 else g.1) else l) < n := by
      split
      · split
        · exact hg.head.2.1
        · exact hg.head.1
      · exact h
    obtain ⟨c, d⟩ := thru_unit hg.tail hb.tail (ps := ps) (by simpa using hl) hl'
    refine ⟨?_, ?_⟩
    · show thruX G ps (stepX g p (unit n l)) = _
      rw [a, c]
      rfl
    · show stepP g p (unit n l) :: thruP G ps (stepX g p (unit n l)) = _
      rw [a, b, d]
      rfl
/-! the first gate with an odd number -/
/-- an even number passes each gate -/
def evens : List (Nat × Nat) → List Int → Prop
  | [], _ => True
  | g :: G, xs => (xs.getD g.1 0 + xs.getD g.2 0) % 2 = 0 ∧ evens G ((xs.set g.1 ((xs.getD g.1 0 + xs.getD g.2 0) / 2)).set g.2 ((xs.getD g.1 0 + xs.getD g.2 0) / 2))
theorem evens_iff {n : Nat} : ∀ {G : List (Nat × Nat)} {ps xs : List Int}, bits ps → ps.length = G.length → (evens G xs ↔ thruP G ps xs = ps)
  | [], [], _, _, _ => by simp [evens, thruP]
  | [], _ :: _, _, _, h => by simp at h
  | _ :: _, [], _, _, h => by simp at h
  | g :: G, p :: ps, xs, hb, hl => by
    show ((xs.getD g.1 0 + xs.getD g.2 0) % 2 = 0 ∧ _) ↔ stepP g p xs :: thruP G ps (stepX g p xs) = p :: ps
    rw [List.cons.injEq]
    have e : (xs.getD g.1 0 + xs.getD g.2 0) % 2 = 0 ↔ stepP g p xs = p := by
      unfold stepP
      rcases hb.head with rfl | rfl <;> omega
    rw [e]
    constructor
    · rintro ⟨a, b⟩
      have h0 := e.mpr a
      refine ⟨a, (evens_iff (n := n) hb.tail (by simpa using hl)).mp ?_⟩
      have : stepX g p xs = (xs.set g.1 ((xs.getD g.1 0 + xs.getD g.2 0) / 2)).set g.2 ((xs.getD g.1 0 + xs.getD g.2 0) / 2) := by
        unfold stepX up
        have q : (xs.getD g.1 0 + xs.getD g.2 0 + 1 - p) / 2 = (xs.getD g.1 0 + xs.getD g.2 0) / 2 := by rcases hb.head with rfl | rfl <;> omega
        rw [q]
        congr 1
        omega
      rw [this]
      exact b
    · rintro ⟨a, b⟩
      have h0 := e.mpr a
      refine ⟨a, ?_⟩
      have : stepX g p xs = (xs.set g.1 ((xs.getD g.1 0 + xs.getD g.2 0) / 2)).set g.2 ((xs.getD g.1 0 + xs.getD g.2 0) / 2) := by
        unfold stepX up
        have q : (xs.getD g.1 0 + xs.getD g.2 0 + 1 - p) / 2 = (xs.getD g.1 0 + xs.getD g.2 0) / 2 := by rcases hb.head with rfl | rfl <;> omega
        rw [q]
        congr 1
        omega
      rw [← this]
      exact (evens_iff (n := n) hb.tail (by simpa using hl)).mpr b
end Tk

set_option autoImplicit false
set_option linter.all false
/-! Tk2: gate by gate. -/
namespace Tk
def thX (G : List (Nat × Nat)) (ps xs : List Int) (i : Nat) : List Int := thruX (G.take i) (ps.take i) xs
def thP (G : List (Nat × Nat)) (ps xs : List Int) (i : Nat) : List Int := thruP (G.take i) (ps.take i) xs ++ ps.drop i
section
variable {G : List (Nat × Nat)} {ps xs : List Int} {i : Nat}
theorem thX_zero : thX G ps xs 0 = xs := rfl
theorem thP_zero : thP G ps xs 0 = ps := rfl
theorem thX_len : (thX G ps xs i).length = xs.length := thruX_len
theorem takes (hl : ps.length = G.length) : (ps.take i).length = (G.take i).length := by simp [hl]
theorem thP_pre (hl : ps.length = G.length) (hi : i ≤ G.length) : (thruP (G.take i) (ps.take i) xs).length = i := by
  rw [thruP_len (takes hl), List.length_take]
  omega
theorem thP_len (hl : ps.length = G.length) (hi : i ≤ G.length) : (thP G ps xs i).length = G.length := by
  unfold thP
  rw [List.length_append, thP_pre hl hi, List.length_drop]
  omega
theorem thX_all (hl : ps.length = G.length) : thX G ps xs G.length = thruX G ps xs := by
  unfold thX
  rw [List.take_length, ← hl, List.take_length]
theorem thP_all (hl : ps.length = G.length) : thP G ps xs G.length = thruP G ps xs := by
  unfold thP
  rw [List.take_length, ← hl, List.take_length, List.drop_length, List.append_nil]
theorem thP_get (hl : ps.length = G.length) (hi : i < G.length) : (thP G ps xs i).getD i 0 = ps.getD i 0 := by
  unfold thP
  rw [List.getD_eq_getElem?_getD, List.getElem?_append_right (by rw [thP_pre hl (by omega)]; omega), thP_pre hl (by omega), List.getElem?_drop, List.getD_eq_getElem?_getD]
  simp
theorem take_snoc {α : Type} {l : List α} {d : α} (h : i < l.length) : l.take (i + 1) = l.take i ++ [l.getD i d] := by
  rw [List.take_add_one, List.getElem?_eq_getElem h, List.getD_eq_getElem?_getD, List.getElem?_eq_getElem h]
  rfl
theorem thX_succ (hl : ps.length = G.length) (hi : i < G.length) : thX G ps xs (i + 1) = stepX (G.getD i (0, 0)) (ps.getD i 0) (thX G ps xs i) := by
  unfold thX
  rw [take_snoc (d := (0, 0)) hi, take_snoc (d := 0) (show i < ps.length by omega), (thru_app (takes hl)).1]
  rfl
theorem set_app {α : Type} {a : α} : ∀ {l r : List α} {b : α}, l.length = i → (l ++ b :: r).set i a = l ++ a :: r := by
  intro l r b h
  subst h
  rw [List.set_append_right _ _ (Nat.le_refl _), Nat.sub_self]
  rfl
theorem thP_succ (hl : ps.length = G.length) (hi : i < G.length) : thP G ps xs (i + 1) = (thP G ps xs i).set i (stepP (G.getD i (0, 0)) (ps.getD i 0) (thX G ps xs i)) := by
  unfold thP
  have hi2 : i < ps.length := by omega
  rw [List.drop_eq_getElem_cons hi2, set_app (thP_pre hl (by omega)), take_snoc (d := (0, 0)) hi, take_snoc (d := 0) hi2, (thru_app (takes hl)).2, List.append_assoc]
  rfl
end
/-! a token -/
def paL (G : List (Nat × Nat)) (ps : List Int) (l : Nat) (i : Nat) : Nat := passL (G.take i) (ps.take i) l
def paP (G : List (Nat × Nat)) (ps : List Int) (l : Nat) (i : Nat) : List Int := passP (G.take i) (ps.take i) l ++ ps.drop i
def onG (g : Nat × Nat) (l : Nat) : Prop := l = g.1 ∨ l = g.2
instance {g : Nat × Nat} {l : Nat} : Decidable (onG g l) := by unfold onG; infer_instance
def goL (g : Nat × Nat) (p : Int) (l : Nat) : Nat := if onG g l then (if p = 1 then g.2 else g.1) else l
def goP (g : Nat × Nat) (p : Int) (l : Nat) : Int := if onG g l then 1 - p else p
theorem pass_app : ∀ {G G' : List (Nat × Nat)} {ps qs : List Int} {l : Nat}, ps.length = G.length → passL (G ++ G') (ps ++ qs) l = passL G' qs (passL G ps l) ∧ passP (G ++ G') (ps ++ qs) l = passP G ps l ++ passP G' qs (passL G ps l)
  | [], G', [], qs, l, _ => ⟨rfl, rfl⟩
  | [], _, _ :: _, _, _, h => by simp at h
  | _ :: _, _, [], _, _, h => by simp at h
  | g :: G, G', p :: ps, qs, l, h => by
    obtain ⟨a, b⟩ := pass_app (G' := G') (qs := qs) (l := goL g p l) (show ps.length = G.length by simpa using h)
    refine ⟨a, ?_⟩
    show goP g p l :: passP (G ++ G') (ps ++ qs) (goL g p l) = _
    rw [b]
    rfl
theorem passP_len : ∀ {G : List (Nat × Nat)} {ps : List Int} {l : Nat}, ps.length = G.length → (passP G ps l).length = G.length
  | [], _, _, _ => rfl
  | _ :: _, [], _, h => by simp at h
  | g :: G, p :: ps, l, h => by
    show (passP G ps _).length + 1 = _
    rw [passP_len (by simpa using h)]
    rfl
theorem goP_bit {g : Nat × Nat} {p : Int} {l : Nat} (h : bit p) : bit (goP g p l) := by
  unfold goP bit
  unfold bit at h
  split <;> omega
theorem passP_bits : ∀ {G : List (Nat × Nat)} {ps : List Int} {l : Nat}, bits ps → bits (passP G ps l)
  | [], _, _, _ => fun _ m => by cases m
  | _ :: _, [], _, _ => fun _ m => by cases m
  | g :: G, p :: ps, l, h => fun q m => by
    rcases List.mem_cons.mp (show q ∈ goP g p l :: passP G ps (goL g p l) from m) with rfl | m
    · exact goP_bit h.head
    · exact passP_bits h.tail q m
section
variable {G : List (Nat × Nat)} {ps : List Int} {i l : Nat}
theorem paL_zero : paL G ps l 0 = l := rfl
theorem paP_zero : paP G ps l 0 = ps := rfl
theorem paP_pre (hl : ps.length = G.length) (hi : i ≤ G.length) : (passP (G.take i) (ps.take i) l).length = i := by
  rw [passP_len (takes hl), List.length_take]
  omega
theorem paP_len (hl : ps.length = G.length) (hi : i ≤ G.length) : (paP G ps l i).length = G.length := by
  unfold paP
  rw [List.length_append, paP_pre hl hi, List.length_drop]
  omega
theorem paL_all (hl : ps.length = G.length) : paL G ps l G.length = passL G ps l := by
  unfold paL
  rw [List.take_length, ← hl, List.take_length]
theorem paP_all (hl : ps.length = G.length) : paP G ps l G.length = passP G ps l := by
  unfold paP
  rw [List.take_length, ← hl, List.take_length, List.drop_length, List.append_nil]
theorem paP_get (hl : ps.length = G.length) (hi : i < G.length) : (paP G ps l i).getD i 0 = ps.getD i 0 := by
  unfold paP
  rw [List.getD_eq_getElem?_getD, List.getElem?_append_right (by rw [paP_pre hl (by omega)]; omega), paP_pre hl (by omega), List.getElem?_drop, List.getD_eq_getElem?_getD]
  simp
theorem paL_succ (hl : ps.length = G.length) (hi : i < G.length) : paL G ps l (i + 1) = goL (G.getD i (0, 0)) (ps.getD i 0) (paL G ps l i) := by
  unfold paL
  rw [take_snoc (d := (0, 0)) hi, take_snoc (d := 0) (show i < ps.length by omega), (pass_app (takes hl)).1]
  rfl
theorem paP_succ (hl : ps.length = G.length) (hi : i < G.length) : paP G ps l (i + 1) = (paP G ps l i).set i (goP (G.getD i (0, 0)) (ps.getD i 0) (paL G ps l i)) := by
  unfold paP
  have hi2 : i < ps.length := by omega
  rw [List.drop_eq_getElem_cons hi2, set_app (paP_pre hl (by omega)), take_snoc (d := (0, 0)) hi, take_snoc (d := 0) hi2, (pass_app (takes hl)).2, List.append_assoc]
  rfl
end
/-- a gate of the list -/
theorem GsOk.at {n i : Nat} {G : List (Nat × Nat)} (h : GsOk n G) (hi : i < G.length) : (G.getD i (0, 0)).1 < n ∧ (G.getD i (0, 0)).2 < n ∧ (G.getD i (0, 0)).1 ≠ (G.getD i (0, 0)).2 := by
  rw [List.getD_eq_getElem?_getD, List.getElem?_eq_getElem hi]
  exact h _ (List.getElem_mem hi)
theorem bits.at {i : Nat} {ps : List Int} (h : bits ps) (hi : i < ps.length) : bit (ps.getD i 0) := by
  rw [List.getD_eq_getElem?_getD, List.getElem?_eq_getElem hi]
  exact h _ (List.getElem_mem hi)
theorem up0 {t : Int} : up t 0 = t - t / 2 := by unfold up; omega
theorem up1 {t : Int} : up t 1 = t / 2 := by unfold up; omega
theorem paL_lt {n i l : Nat} {G : List (Nat × Nat)} {ps : List Int} (h : GsOk n G) (hl : l < n) : paL G ps l i < n := passL_lt (fun g m => h g (List.mem_of_mem_take m)) hl
end Tk
namespace Tk
theorem up0' {t : Int} : t - up t 0 = t / 2 := by unfold up; omega
theorem up1' {t : Int} : t - up t 1 = t - t / 2 := by unfold up; omega
end Tk
namespace Tk
def Bd (B : Int) (xs : List Int) : Prop := ∀ x ∈ xs, -B ≤ x ∧ x ≤ B
theorem Bd.at {B : Int} {xs : List Int} (h : Bd B xs) (hB : 0 ≤ B) (i : Nat) : -B ≤ xs.getD i 0 ∧ xs.getD i 0 ≤ B := by
  rw [List.getD_eq_getElem?_getD]
  cases q : xs[i]? with
  | none =>
    simp only [Option.getD]
    omega
  | some x => exact h x (List.mem_of_getElem? q)
theorem Bd.of {B : Int} {xs : List Int} (h : ∀ i, i < xs.length → -B ≤ xs.getD i 0 ∧ xs.getD i 0 ≤ B) : Bd B xs := fun x m => by
  obtain ⟨i, hi, rfl⟩ := List.getElem_of_mem m
  have := h i hi
  rw [List.getD_eq_getElem?_getD, List.getElem?_eq_getElem hi] at this
  exact this
theorem thru_bd {B : Int} {n : Nat} (hB : 0 ≤ B) : ∀ {G : List (Nat × Nat)} {ps xs : List Int}, GsOk n G → bits ps → xs.length = n → Bd B xs → Bd B (thruX G ps xs)
  | [], _, _, _, _, _, h => h
  | _ :: _, [], _, _, _, _, h => h
  | g :: G, p :: ps, xs, hg, hb, hx, h => by
    refine thru_bd hB (G := G) (ps := ps) hg.tail hb.tail (by rw [stepX_len]; exact hx) (Bd.of fun i hi => ?_)
    obtain ⟨g1, g2, gn⟩ := hg.head
    rw [stepX_get (by omega) (by omega) gn]
    have a := h.at hB g.1
    have b := h.at hB g.2
    have c := h.at hB i
    unfold up
    rcases hb.head with rfl | rfl <;> split <;> (try split) <;> omega
end Tk

set_option autoImplicit false
set_option linter.all false
/-! Tk3: amounts that change nothing; periods. -/
namespace Tk
/-- so many on one lane -/
def one (n l : Nat) (k : Int) : List Int := (zeros n).set l k
theorem one_len {n l : Nat} {k : Int} : (one n l k).length = n := by simp [one, zeros]
theorem one_get {n l : Nat} {k : Int} (h : l < n) (i : Nat) : (one n l k).getD i 0 = if i = l then k else 0 := by
  unfold one
  rw [List.getD_eq_getElem?_getD]
  by_cases e : i = l
  · rw [e, List.getElem?_set_self (by rw [zeros_len]; exact h)]
    simp
  · rw [List.getElem?_set_ne (Ne.symm e), ← List.getD_eq_getElem?_getD, zeros_get, if_neg e]
theorem one_add {n l : Nat} {j k : Int} (h : l < n) : add (one n l j) (one n l k) = one n l (j + k) := ext_getD (by rw [add_len (by rw [one_len, one_len]), one_len, one_len]) fun i _ => by
  rw [add_get (by rw [one_len, one_len]), one_get h, one_get h, one_get h]
  split <;> omega
theorem one_neg {n l : Nat} {k : Int} (h : l < n) : neg (one n l k) = one n l (-k) := ext_getD (by rw [neg_len, one_len, one_len]) fun i _ => by
  rw [neg_get, one_get h, one_get h]
  split <;> omega
theorem one_zero {n l : Nat} (h : l < n) : one n l 0 = zeros n := ext_getD (by rw [one_len, zeros_len]) fun i _ => by
  rw [one_get h, zeros_get]
  split <;> rfl
theorem one_unit {n l : Nat} : one n l 1 = unit n l := rfl
theorem one_set {n l : Nat} {j k : Int} (h : l < n) : (one n l j).set l k = one n l k := by
  unfold one
  rw [List.set_set]
def zb (G : List (Nat × Nat)) : List Int := zeros G.length
theorem zb_bits {G : List (Nat × Nat)} : bits (zb G) := fun p hp => .inl (List.eq_of_mem_replicate hp)
theorem zb_len {G : List (Nat × Nat)} : (zb G).length = G.length := zeros_len
theorem ev_iff {G : List (Nat × Nat)} {ps xs : List Int} (hb : bits ps) (hl : ps.length = G.length) : evens G xs ↔ thruP G ps xs = ps := evens_iff (n := 0) hb hl
section
variable {n : Nat} {G : List (Nat × Nat)}
theorem ev_add {xs ys : List Int} (hG : GsOk n G) (hx : xs.length = n) (hy : ys.length = n) (h : evens G xs) (k : evens G ys) : evens G (add xs ys) := by
  rw [ev_iff zb_bits zb_len] at h k ⊢
  rw [(thru_add hG zb_bits zb_len hx hy).2, h, k]
theorem ev_neg {xs : List Int} (hG : GsOk n G) (hx : xs.length = n) (h : evens G xs) : evens G (neg xs) := by
  rw [ev_iff zb_bits zb_len] at h ⊢
  have := (thru_neg hG zb_bits zb_len hx).2
  rw [h] at this
  exact this
theorem ev_zero (hG : GsOk n G) : evens G (zeros n) := by
  rw [ev_iff zb_bits zb_len]
  exact (thru_zero hG zb_bits zb_len).2
/-- so many on one lane change nothing -/
def S (n : Nat) (G : List (Nat × Nat)) (l : Nat) (k : Int) : Prop := evens G (one n l k)
theorem S_add {l : Nat} {j k : Int} (hG : GsOk n G) (hl : l < n) (a : S n G l j) (b : S n G l k) : S n G l (j + k) := by
  unfold S at *
  rw [← one_add hl]
  exact ev_add hG one_len one_len a b
theorem S_neg {l : Nat} {k : Int} (hG : GsOk n G) (hl : l < n) (b : S n G l k) : S n G l (-k) := by
  unfold S at *
  rw [← one_neg hl]
  exact ev_neg hG one_len b
theorem S_zero {l : Nat} (hG : GsOk n G) (hl : l < n) : S n G l 0 := by
  unfold S
  rw [one_zero hl]
  exact ev_zero hG
theorem S_mul {l : Nat} {k : Int} (hG : GsOk n G) (hl : l < n) (b : S n G l k) : ∀ m : Nat, S n G l (k * m)
  | 0 => by
    rw [show k * ((0 : Nat) : Int) = 0 by simp]
    exact S_zero hG hl
  | m + 1 => by
    rw [show k * ((m + 1 : Nat) : Int) = k * (m : Int) + k by rw [Int.natCast_add, Int.mul_add]; simp]
    exact S_add hG hl (S_mul hG hl b m) b
theorem S_mod {l : Nat} {k d : Nat} (hG : GsOk n G) (hl : l < n) (a : S n G l k) (b : S n G l d) : S n G l ((k % d : Nat) : Int) := by
  have e : ((k % d : Nat) : Int) = (k : Int) + -((d : Int) * ((k / d : Nat) : Int)) := by
    have := Nat.div_add_mod k d
    have h : (k : Int) = (d : Int) * ((k / d : Nat) : Int) + ((k % d : Nat) : Int) := by
      rw [← Int.natCast_mul, ← Int.natCast_add, this]
    omega
  rw [e]
  exact S_add hG hl a (S_neg hG hl (S_mul hG hl b _))
/-- multiples of a great power of two -/
theorem ev_pow : ∀ {G : List (Nat × Nat)} {xs : List Int}, (∀ i, (2 : Int) ^ G.length ∣ xs.getD i 0) → evens G xs
  | [], _, _ => trivial
  | g :: G, xs, h => by
    have a := h g.1
    have b := h g.2
    have e : (2 : Int) ^ (g :: G).length = 2 * 2 ^ G.length := by rw [List.length_cons, Int.pow_succ, Int.mul_comm]
    rw [e] at a b
    obtain ⟨u, hu⟩ := a
    obtain ⟨v, hv⟩ := b
    have t : xs.getD g.1 0 + xs.getD g.2 0 = 2 * (2 ^ G.length * (u + v)) := by
      rw [hu, hv, Int.mul_assoc, Int.mul_assoc, ← Int.mul_add, ← Int.mul_add]
    refine ⟨by rw [t]; omega, ev_pow fun i => ?_⟩
    have half : (xs.getD g.1 0 + xs.getD g.2 0) / 2 = 2 ^ G.length * (u + v) := by rw [t]; omega
    rw [half]
    have c : (2 : Int) ^ G.length ∣ xs.getD i 0 := by
      have := h i
      rw [e] at this
      exact Int.dvd_trans ⟨2, Int.mul_comm ..⟩ this
    rw [List.getD_eq_getElem?_getD] at c ⊢
    by_cases p : i = g.2
    · subst p
      by_cases q : g.2 < (xs.set g.1 (2 ^ G.length * (u + v))).length
      · rw [List.getElem?_set_self q]
        exact ⟨_, rfl⟩
      · rw [List.getElem?_eq_none (by rw [List.length_set]; omega)]
        exact ⟨0, by simp⟩
    · rw [List.getElem?_set_ne (Ne.symm p)]
      by_cases p2 : i = g.1
      · subst p2
        by_cases q : g.1 < xs.length
        · rw [List.getElem?_set_self q]
          exact ⟨_, rfl⟩
        · rw [List.getElem?_eq_none (by rw [List.length_set]; omega)]
          exact ⟨0, by simp⟩
      · rw [List.getElem?_set_ne (Ne.symm p2)]
        exact c
theorem S_pow {l : Nat} (hl : l < n) : S n G l ((2 : Int) ^ G.length) := ev_pow fun i => by
  rw [one_get hl]
  split
  · exact ⟨1, by omega⟩
  · exact ⟨0, by simp⟩
theorem dvd_pow2 : ∀ {L d : Nat}, d ∣ 2 ^ L → ∃ i, i ≤ L ∧ d = 2 ^ i
  | 0, d, h => ⟨0, Nat.le_refl _, by simpa using h⟩
  | L + 1, d, h => by
    by_cases e : d % 2 = 0
    · obtain ⟨d', rfl⟩ : 2 ∣ d := Nat.dvd_of_mod_eq_zero e
      have h' : d' ∣ 2 ^ L := by
        rw [Nat.pow_succ, Nat.mul_comm (2 ^ L) 2] at h
        exact Nat.dvd_of_mul_dvd_mul_left (k := 2) (by decide) h
      obtain ⟨i, hi, rfl⟩ := dvd_pow2 h'
      exact ⟨i + 1, by omega, by rw [Nat.pow_succ, Nat.mul_comm]⟩
    · have c : Nat.Coprime d 2 := by
        have o : d % 2 = 1 := by omega
        show Nat.gcd d 2 = 1
        rw [Nat.gcd_comm, Nat.gcd_rec, o]
        exact Nat.gcd_one_left 2
      have : d ∣ 2 ^ L := by
        rw [Nat.pow_succ] at h
        exact c.dvd_of_dvd_mul_right h
      obtain ⟨i, hi, rfl⟩ := dvd_pow2 this
      exact ⟨i, by omega, rfl⟩
/-- the least of the powers is the least of all -/
theorem S_least {l j : Nat} (hG : GsOk n G) (hl : l < n) (a : S n G l ((2 ^ j : Nat) : Int)) (h : ∀ i, i < j → ¬ S n G l ((2 ^ i : Nat) : Int)) : ∀ m : Nat, 0 < m → m < 2 ^ j → ¬ S n G l (m : Int) := by
  -- the least one divides all
  have key : ∀ b m : Nat, m ≤ b → 0 < m → S n G l (m : Int) → ∃ d : Nat, 0 < d ∧ d ≤ m ∧ S n G l (d : Int) ∧ ∀ k : Nat, S n G l (k : Int) → d ∣ k := by
    intro b
    induction b with
    | zero => intro m h1 h2; omega
    | succ b ih =>
      intro m h1 h2 hm
      by_cases q : ∀ k : Nat, S n G l (k : Int) → m ∣ k
      · exact ⟨m, h2, Nat.le_refl _, hm, q⟩
      · simp only [Classical.not_forall] at q
        obtain ⟨k, hk, hd⟩ := q
        have r0 : 0 < k % m := Nat.pos_of_ne_zero fun z => hd (Nat.dvd_of_mod_eq_zero z)
        have r1 : k % m < m := Nat.mod_lt _ h2
        obtain ⟨d, d0, d1, d2, d3⟩ := ih (k % m) (by omega) r0 (S_mod hG hl hk hm)
        exact ⟨d, d0, by omega, d2, d3⟩
  intro m m0 m1 hm
  obtain ⟨d, d0, d1, d2, d3⟩ := key m m (Nat.le_refl _) m0 hm
  obtain ⟨i, hi, rfl⟩ := dvd_pow2 (d3 _ a)
  have : i < j := by
    rcases Nat.lt_or_ge i j with z | z
    · exact z
    · have := Nat.pow_le_pow_right (n := 2) (by decide) z
      omega
  exact h i this d2
/-- tokens one by one are amounts -/
theorem pass_one {l k : Nat} {ps : List Int} (hG : GsOk n G) (hl : l < n) (hb : bits ps) (pl : ps.length = G.length) : passP G (thruP G ps (one n l k)) l = thruP G ps (one n l ((k + 1 : Nat) : Int)) := by
  have e := (thru_unit (l := l) hG (thruP_bits (G := G) (ps := ps) (xs := one n l k)) (thruP_len pl) hl).2
  rw [← e, show ((k + 1 : Nat) : Int) = (k : Int) + 1 by omega, ← one_add hl, (thru_add hG hb pl one_len one_len).2]
  rfl
end
end Tk
namespace Tk
theorem goL_on {g : Nat × Nat} {p : Int} {l : Nat} (h : l = g.1 ∨ l = g.2) : goL g p l = if p = 1 then g.2 else g.1 := if_pos h
theorem goL_off {g : Nat × Nat} {p : Int} {l : Nat} (h : ¬ (l = g.1 ∨ l = g.2)) : goL g p l = l := if_neg h
theorem goP_on {g : Nat × Nat} {p : Int} {l : Nat} (h : l = g.1 ∨ l = g.2) : goP g p l = 1 - p := if_pos h
theorem goP_off {g : Nat × Nat} {p : Int} {l : Nat} (h : ¬ (l = g.1 ∨ l = g.2)) : goP g p l = p := if_neg h
theorem set_same {xs : List Int} {i : Nat} (h : i < xs.length) : xs.set i (xs.getD i 0) = xs := by
  apply List.ext_getElem?
  intro k
  by_cases e : k = i
  · subst e
    rw [List.getElem?_set_self h, List.getD_eq_getElem?_getD, List.getElem?_eq_getElem h]
    rfl
  · rw [List.getElem?_set_ne (Ne.symm e)]
end Tk

set_option autoImplicit false
set_option linter.all false
set_option Elab.async false
/-! Tk4: boards of 2, 4 and 8 lanes that share out evenly. -/
namespace Tk
/-- amounts that are even at each gate -/
def half : List (Nat × Nat) → List Int → List Int
  | [], xs => xs
  | g :: G, xs => half G ((xs.set g.1 ((xs.getD g.1 0 + xs.getD g.2 0) / 2)).set g.2 ((xs.getD g.1 0 + xs.getD g.2 0) / 2))
theorem thru_half : ∀ {G : List (Nat × Nat)} {ps xs : List Int}, bits ps → ps.length = G.length → evens G xs → thruX G ps xs = half G xs
  | [], [], _, _, _, _ => rfl
  | [], _ :: _, _, _, h, _ => by simp at h
  | _ :: _, [], _, _, h, _ => by simp at h
  | g :: G, p :: ps, xs, hb, hl, ⟨e, h⟩ => by
    have b := hb.head
    have u : up (xs.getD g.1 0 + xs.getD g.2 0) p = (xs.getD g.1 0 + xs.getD g.2 0) / 2 := by
      unfold up
      unfold bit at b
      omega
    have s : stepX g p xs = (xs.set g.1 ((xs.getD g.1 0 + xs.getD g.2 0) / 2)).set g.2 ((xs.getD g.1 0 + xs.getD g.2 0) / 2) := by
      unfold stepX
      rw [u]
      congr 1
      omega
    show thruX G ps (stepX g p xs) = half G _
    rw [s]
    exact thru_half hb.tail (by simpa using hl) h
def m2 : List (Nat × Nat) := [(0, 3), (1, 2), (0, 1), (2, 3)]
def m3 : List (Nat × Nat) := [(0, 7), (1, 6), (2, 5), (3, 4), (0, 2), (1, 3), (4, 6), (5, 7), (0, 1), (2, 3), (4, 5), (6, 7)]
def z (n : Nat) : List Int := List.replicate n 0
theorem z_bits {n : Nat} : bits (z n) := fun p hp => .inl (List.eq_of_mem_replicate hp)
theorem fin2 : ∀ r s : Fin 4, thruX m2 (z 4) [((r : Nat) + 1 : Int) / 2, ((r : Nat) : Int) / 2, ((s : Nat) + 1 : Int) / 2, ((s : Nat) : Int) / 2] = [((r : Nat) + (s : Nat) + 3 : Int) / 4, ((r : Nat) + (s : Nat) + 2 : Int) / 4, ((r : Nat) + (s : Nat) + 1 : Int) / 4, ((r : Nat) + (s : Nat) : Int) / 4] := by decide +kernel
theorem fin3 : ∀ r s : Fin 8, thruX m3 (z 12) [((r : Nat) + 3 : Int) / 4, ((r : Nat) + 2 : Int) / 4, ((r : Nat) + 1 : Int) / 4, ((r : Nat) : Int) / 4, ((s : Nat) + 3 : Int) / 4, ((s : Nat) + 2 : Int) / 4, ((s : Nat) + 1 : Int) / 4, ((s : Nat) : Int) / 4] =
    [((r : Nat) + (s : Nat) + 7 : Int) / 8, ((r : Nat) + (s : Nat) + 6 : Int) / 8, ((r : Nat) + (s : Nat) + 5 : Int) / 8, ((r : Nat) + (s : Nat) + 4 : Int) / 8, ((r : Nat) + (s : Nat) + 3 : Int) / 8, ((r : Nat) + (s : Nat) + 2 : Int) / 8, ((r : Nat) + (s : Nat) + 1 : Int) / 8, ((r : Nat) + (s : Nat) : Int) / 8] := by decide +kernel
theorem hv1 (a b : Int) : (2 * a + 2 * b) / 2 = a + b := by omega
theorem hv2 (a : Int) : (a + a) / 2 = a := by omega
theorem ev1 (a b : Int) : (2 * a + 2 * b) % 2 = 0 := by omega
theorem ev2 (a : Int) : (a + a) % 2 = 0 := by omega
theorem join3 (x y : Int) : thruX m3 (z 12) [(x + 3) / 4, (x + 2) / 4, (x + 1) / 4, x / 4, (y + 3) / 4, (y + 2) / 4, (y + 1) / 4, y / 4] =
    [(x + y + 7) / 8, (x + y + 6) / 8, (x + y + 5) / 8, (x + y + 4) / 8, (x + y + 3) / 8, (x + y + 2) / 8, (x + y + 1) / 8, (x + y) / 8] := by
  obtain ⟨a, r, hx⟩ : ∃ (a : Int) (r : Fin 8), x = 8 * a + (r : Nat) := ⟨x / 8, ⟨(x % 8).toNat, by omega⟩, by show x = 8 * (x / 8) + ((x % 8).toNat : Nat); omega⟩
  obtain ⟨b, s, hy⟩ : ∃ (b : Int) (s : Fin 8), y = 8 * b + (s : Nat) := ⟨y / 8, ⟨(y % 8).toNat, by omega⟩, by show y = 8 * (y / 8) + ((y % 8).toNat : Nat); omega⟩
  have f := fin3 r s
  generalize ((r : Nat) : Int) = r' at *
  generalize ((s : Nat) : Int) = s' at *
  subst hx hy
  have e : evens m3 [2 * a, 2 * a, 2 * a, 2 * a, 2 * b, 2 * b, 2 * b, 2 * b] := by
    simp only [m3, evens, List.getD_cons_zero, List.getD_cons_succ, List.set_cons_zero, List.set_cons_succ, hv1, hv2, ev1, ev2, and_self]
  have hf : half m3 [2 * a, 2 * a, 2 * a, 2 * a, 2 * b, 2 * b, 2 * b, 2 * b] = [a + b, a + b, a + b, a + b, a + b, a + b, a + b, a + b] := by
    simp only [m3, half, List.getD_cons_zero, List.getD_cons_succ, List.set_cons_zero, List.set_cons_succ, hv1, hv2]
  have hG : GsOk 8 m3 := by intro g m; simp only [m3, List.mem_cons, List.not_mem_nil, or_false] at m; rcases m with rfl | rfl | rfl | rfl | rfl | rfl | rfl | rfl | rfl | rfl | rfl | rfl <;> exact ⟨by decide, by decide, by decide⟩
  have t := (thru_add (n := 8) (ys := [2 * a, 2 * a, 2 * a, 2 * a, 2 * b, 2 * b, 2 * b, 2 * b]) (xs := [(r' + 3) / 4, (r' + 2) / 4, (r' + 1) / 4, r' / 4, (s' + 3) / 4, (s' + 2) / 4, (s' + 1) / 4, s' / 4]) hG (z_bits (n := 12)) rfl rfl rfl).1
  rw [thru_half (thruP_bits (G := m3)) (thruP_len rfl) e, hf, f] at t
  have l : ([(8 * a + r' + 3) / 4, (8 * a + r' + 2) / 4, (8 * a + r' + 1) / 4, (8 * a + r') / 4, (8 * b + s' + 3) / 4, (8 * b + s' + 2) / 4, (8 * b + s' + 1) / 4, (8 * b + s') / 4] : List Int) = add [(r' + 3) / 4, (r' + 2) / 4, (r' + 1) / 4, r' / 4, (s' + 3) / 4, (s' + 2) / 4, (s' + 1) / 4, s' / 4] [2 * a, 2 * a, 2 * a, 2 * a, 2 * b, 2 * b, 2 * b, 2 * b] := by
    simp only [add, List.zipWith_cons_cons, List.zipWith_nil_left, List.cons.injEq, and_true]
    refine ⟨?_, ?_, ?_, ?_, ?_, ?_, ?_, ?_⟩ <;> omega
  rw [l, t]
  simp only [add, List.zipWith_cons_cons, List.zipWith_nil_left, List.cons.injEq, and_true]
  refine ⟨?_, ?_, ?_, ?_, ?_, ?_, ?_, ?_⟩ <;> omega
theorem join2 (x y : Int) : thruX m2 (z 4) [(x + 1) / 2, x / 2, (y + 1) / 2, y / 2] = [(x + y + 3) / 4, (x + y + 2) / 4, (x + y + 1) / 4, (x + y) / 4] := by
  obtain ⟨a, r, hx⟩ : ∃ (a : Int) (r : Fin 4), x = 4 * a + (r : Nat) := ⟨x / 4, ⟨(x % 4).toNat, by omega⟩, by show x = 4 * (x / 4) + ((x % 4).toNat : Nat); omega⟩
  obtain ⟨b, s, hy⟩ : ∃ (b : Int) (s : Fin 4), y = 4 * b + (s : Nat) := ⟨y / 4, ⟨(y % 4).toNat, by omega⟩, by show y = 4 * (y / 4) + ((y % 4).toNat : Nat); omega⟩
  have f := fin2 r s
  generalize ((r : Nat) : Int) = r' at *
  generalize ((s : Nat) : Int) = s' at *
  subst hx hy
  have e : evens m2 [2 * a, 2 * a, 2 * b, 2 * b] := by
    simp only [m2, evens, List.getD_cons_zero, List.getD_cons_succ, List.set_cons_zero, List.set_cons_succ, hv1, hv2, ev1, ev2, and_self]
  have hf : half m2 [2 * a, 2 * a, 2 * b, 2 * b] = [a + b, a + b, a + b, a + b] := by
    simp only [m2, half, List.getD_cons_zero, List.getD_cons_succ, List.set_cons_zero, List.set_cons_succ, hv1, hv2]
  have hG : GsOk 4 m2 := by intro g m; simp only [m2, List.mem_cons, List.not_mem_nil, or_false] at m; rcases m with rfl | rfl | rfl | rfl <;> exact ⟨by decide, by decide, by decide⟩
  have t := (thru_add (n := 4) (ys := [2 * a, 2 * a, 2 * b, 2 * b]) (xs := [(r' + 1) / 2, r' / 2, (s' + 1) / 2, s' / 2]) hG (z_bits (n := 4)) rfl rfl rfl).1
  rw [thru_half (thruP_bits (G := m2)) (thruP_len rfl) e, hf, f] at t
  have l : ([(4 * a + r' + 1) / 2, (4 * a + r') / 2, (4 * b + s' + 1) / 2, (4 * b + s') / 2] : List Int) = add [(r' + 1) / 2, r' / 2, (s' + 1) / 2, s' / 2] [2 * a, 2 * a, 2 * b, 2 * b] := by
    simp only [add, List.zipWith_cons_cons, List.zipWith_nil_left, List.cons.injEq, and_true]
    refine ⟨?_, ?_, ?_, ?_⟩ <;> omega
  rw [l, t]
  simp only [add, List.zipWith_cons_cons, List.zipWith_nil_left, List.cons.injEq, and_true]
  refine ⟨?_, ?_, ?_, ?_⟩ <;> omega
def g1 : List (Nat × Nat) := [(0, 1)]
def g2 : List (Nat × Nat) := [(0, 1), (2, 3), (0, 3), (1, 2), (0, 1), (2, 3)]
def g3 : List (Nat × Nat) := [(0, 1), (2, 3), (0, 3), (1, 2), (0, 1), (2, 3), (4, 5), (6, 7), (4, 7), (5, 6), (4, 5), (6, 7), (0, 7), (1, 6), (2, 5), (3, 4), (0, 2), (1, 3), (4, 6), (5, 7), (0, 1), (2, 3), (4, 5), (6, 7)]
theorem up_z (t : Int) : up t 0 = (t + 1) / 2 := by unfold up; rw [Int.sub_zero]
theorem run1 (a b : Int) : thruX g1 (z 1) [a, b] = [(a + b + 1) / 2, (a + b) / 2] := by
  show [up (a + b) 0, a + b - up (a + b) 0] = _
  rw [up_z, show a + b - (a + b + 1) / 2 = (a + b) / 2 by omega]
theorem run2 (a b c d : Int) : thruX g2 (z 6) [a, b, c, d] = [(a + b + c + d + 3) / 4, (a + b + c + d + 2) / 4, (a + b + c + d + 1) / 4, (a + b + c + d) / 4] := by
  show thruX m2 (z 4) [up (a + b) 0, a + b - up (a + b) 0, up (c + d) 0, c + d - up (c + d) 0] = _
  rw [up_z, up_z, show a + b - (a + b + 1) / 2 = (a + b) / 2 by omega, show c + d - (c + d + 1) / 2 = (c + d) / 2 by omega, join2, ← Int.add_assoc]
def sh (n : Nat) (G : List (Nat × Nat)) : List (Nat × Nat) := G.map fun g => (g.1 + n, g.2 + n)
theorem getD_l {xs ys : List Int} {i : Nat} (h : i < xs.length) : (xs ++ ys).getD i 0 = xs.getD i 0 := by
  rw [List.getD_eq_getElem?_getD, List.getElem?_append_left h, List.getD_eq_getElem?_getD]
theorem getD_r {xs ys : List Int} {i : Nat} : (xs ++ ys).getD (i + xs.length) 0 = ys.getD i 0 := by
  rw [List.getD_eq_getElem?_getD, List.getElem?_append_right (by omega), Nat.add_sub_cancel, List.getD_eq_getElem?_getD]
theorem thru_l {n : Nat} {ys : List Int} : ∀ {G : List (Nat × Nat)} {ps xs : List Int}, GsOk n G → xs.length = n → thruX G ps (xs ++ ys) = thruX G ps xs ++ ys
  | [], _, _, _, _ => by cases ‹List Int› <;> rfl
  | _ :: _, [], _, _, _ => rfl
  | g :: G, p :: ps, xs, hG, hx => by
    obtain ⟨a, b, _⟩ := hG.head
    have s : stepX g p (xs ++ ys) = stepX g p xs ++ ys := by
      unfold stepX
      rw [getD_l (by omega), getD_l (by omega), List.set_append_left _ _ (by omega), List.set_append_left _ _ (by rw [List.length_set]; omega)]
    show thruX G ps (stepX g p (xs ++ ys)) = thruX G ps (stepX g p xs) ++ ys
    rw [s]
    exact thru_l hG.tail (by rw [stepX_len]; exact hx)
theorem thru_r {ys : List Int} : ∀ {G : List (Nat × Nat)} {ps xs : List Int}, thruX (sh ys.length G) ps (ys ++ xs) = ys ++ thruX G ps xs
  | [], ps, _ => by cases ps <;> rfl
  | _ :: _, [], _ => rfl
  | g :: G, p :: ps, xs => by
    have s : stepX (g.1 + ys.length, g.2 + ys.length) p (ys ++ xs) = ys ++ stepX g p xs := by
      unfold stepX
      rw [getD_r, getD_r, List.set_append_right _ _ (by omega), List.set_append_right _ _ (by omega), Nat.add_sub_cancel, Nat.add_sub_cancel]
    show thruX (sh ys.length G) ps (stepX (g.1 + ys.length, g.2 + ys.length) p (ys ++ xs)) = ys ++ thruX G ps (stepX g p xs)
    rw [s]
    exact thru_r
theorem run3 (a b c d e f g h : Int) : thruX g3 (z 24) [a, b, c, d, e, f, g, h] =
    [(a + b + c + d + (e + f + g + h) + 7) / 8, (a + b + c + d + (e + f + g + h) + 6) / 8, (a + b + c + d + (e + f + g + h) + 5) / 8, (a + b + c + d + (e + f + g + h) + 4) / 8, (a + b + c + d + (e + f + g + h) + 3) / 8, (a + b + c + d + (e + f + g + h) + 2) / 8, (a + b + c + d + (e + f + g + h) + 1) / 8, (a + b + c + d + (e + f + g + h)) / 8] := by
  have hG : GsOk 4 g2 := by intro g m; simp only [g2, List.mem_cons, List.not_mem_nil, or_false] at m; rcases m with rfl | rfl | rfl | rfl | rfl | rfl <;> exact ⟨by decide, by decide, by decide⟩
  have s1 : thruX g2 (z 6) [a, b, c, d, e, f, g, h] = _ := (thru_l (n := 4) (ys := [e, f, g, h]) (xs := [a, b, c, d]) hG rfl).trans (congrArg (· ++ [e, f, g, h]) (run2 a b c d))
  have s2 : ∀ w x y v : Int, thruX (sh 4 g2) (z 6) [w, x, y, v, e, f, g, h] = _ := fun w x y v => (thru_r (ys := [w, x, y, v]) (G := g2) (ps := z 6) (xs := [e, f, g, h])).trans (congrArg ([w, x, y, v] ++ ·) (run2 e f g h))
  show thruX m3 (z 12) (thruX (sh 4 g2) (z 6) (thruX g2 (z 6) [a, b, c, d, e, f, g, h])) = _
  rw [s1]
  show thruX m3 (z 12) (thruX (sh 4 g2) (z 6) [_, _, _, _, e, f, g, h]) = _
  rw [s2]
  exact join3 _ _
end Tk

set_option autoImplicit false
set_option linter.all false
set_option Elab.async false
/-! Tk5: a row of tokens, one after the other. -/
namespace Tk
def rowE (G : List (Nat × Nat)) : List Int → List Nat → List Nat
  | _, [] => []
  | ps, l :: ls => passL G ps l :: rowE G (passP G ps l) ls
def rowP (G : List (Nat × Nat)) : List Int → List Nat → List Int
  | ps, [] => ps
  | ps, l :: ls => rowP G (passP G ps l) ls
theorem rowE_snoc {G : List (Nat × Nat)} {l : Nat} : ∀ {ps : List Int} (ls : List Nat), rowE G ps (ls ++ [l]) = rowE G ps ls ++ [passL G (rowP G ps ls) l]
  | _, [] => rfl
  | ps, a :: ls => by
    show passL G ps a :: rowE G (passP G ps a) (ls ++ [l]) = _
    rw [rowE_snoc ls]
    rfl
theorem rowP_snoc {G : List (Nat × Nat)} {l : Nat} : ∀ {ps : List Int} (ls : List Nat), rowP G ps (ls ++ [l]) = passP G (rowP G ps ls) l
  | _, [] => rfl
  | ps, a :: ls => by
    show rowP G (passP G ps a) (ls ++ [l]) = _
    rw [rowP_snoc ls]
    rfl
theorem rowE_len {G : List (Nat × Nat)} : ∀ {ps : List Int} (ls : List Nat), (rowE G ps ls).length = ls.length
  | _, [] => rfl
  | ps, a :: ls => by
    show (rowE G (passP G ps a) ls).length + 1 = _
    rw [rowE_len ls]
    rfl
theorem passP_ok {G : List (Nat × Nat)} : ∀ {ps : List Int} {l : Nat}, bits ps → ps.length = G.length → bits (passP G ps l) ∧ (passP G ps l).length = G.length := by
  induction G with
  | nil =>
    intro ps l hb hl
    cases ps with
    | nil => exact ⟨fun _ m => (nomatch m), rfl⟩
    | cons p ps => simp at hl
  | cons g G ih =>
    intro ps l hb hl
    cases ps with
    | nil => simp at hl
    | cons p ps =>
      obtain ⟨a, b⟩ := ih (l := if l = g.1 ∨ l = g.2 then (if p = 1 then g.2 else g.1) else l) hb.tail (by simpa using hl)
      refine ⟨fun q m => ?_, by show _ + 1 = _; rw [b]; rfl⟩
      rcases List.mem_cons.mp m with rfl | m
      · have := hb.head
        unfold bit at this ⊢
        split <;> omega
      · exact a q m
theorem rowP_ok {G : List (Nat × Nat)} : ∀ {ps : List Int} (ls : List Nat), bits ps → ps.length = G.length → bits (rowP G ps ls) ∧ (rowP G ps ls).length = G.length
  | _, [], hb, hl => ⟨hb, hl⟩
  | ps, a :: ls, hb, hl => by
    obtain ⟨x, y⟩ := passP_ok (l := a) hb hl
    exact rowP_ok ls x y
theorem take_snocD {es : List Nat} {i : Nat} (h : i < es.length) : es.take (i + 1) = es.take i ++ [es.getD i 0] := by
  rw [List.take_succ_eq_append_getElem h, List.getD_eq_getElem?_getD, List.getElem?_eq_getElem h]
  rfl
/-- the numbers that tokens get: their exits are es -/
def numE (n : Nat) : List Nat → List Nat → List Nat
  | _, [] => []
  | s, l :: ls => (l + n * s.count l) :: numE n (s ++ [l]) ls
theorem numE_snoc {n l : Nat} : ∀ {s : List Nat} (ls : List Nat), numE n s (ls ++ [l]) = numE n s ls ++ [l + n * (s ++ ls).count l]
  | s, [] => by rw [List.append_nil]; rfl
  | s, a :: ls => by
    show (a + n * s.count a) :: numE n (s ++ [a]) (ls ++ [l]) = _
    rw [numE_snoc ls, List.append_assoc]
    rfl
theorem numE_len {n : Nat} : ∀ {s : List Nat} (ls : List Nat), (numE n s ls).length = ls.length
  | _, [] => rfl
  | s, a :: ls => by
    show (numE n (s ++ [a]) ls).length + 1 = _
    rw [numE_len ls]
    rfl
def cnts (n : Nat) (es : List Nat) : List Int := (List.range n).map fun l => ((es.count l : Nat) : Int)
theorem cnts_len {n : Nat} {es : List Nat} : (cnts n es).length = n := by unfold cnts; rw [List.length_map, List.length_range]
theorem cnts_get {n l : Nat} {es : List Nat} (h : l < n) : (cnts n es).getD l 0 = ((es.count l : Nat) : Int) := by
  unfold cnts
  rw [List.getD_eq_getElem?_getD, List.getElem?_map, List.getElem?_range h]
  rfl
theorem cnts_nil {n : Nat} : cnts n [] = zeros n := by
  unfold cnts zeros
  refine List.ext_getElem? fun i => ?_
  rw [List.getElem?_map, List.getElem?_replicate]
  by_cases h : i < n
  · rw [List.getElem?_range h, if_pos h]; rfl
  · rw [List.getElem?_eq_none (by rw [List.length_range]; omega), if_neg h]; rfl
theorem cnts_snoc {n l : Nat} {es : List Nat} (h : l < n) : cnts n (es ++ [l]) = (cnts n es).set l (((es.count l : Nat) : Int) + 1) := by
  refine ext_getD (by rw [List.length_set, cnts_len, cnts_len]) fun i hi => ?_
  rw [cnts_len] at hi
  rw [cnts_get hi, List.count_append, List.getD_eq_getElem?_getD, List.getElem?_set]
  by_cases e : l = i
  · subst e
    rw [if_pos rfl, if_pos (by rw [cnts_len]; exact h), List.count_singleton, if_pos (by simp)]
    show ((List.count l es + 1 : Nat) : Int) = _
    rw [Int.natCast_add]
    rfl
  · rw [if_neg e, List.count_singleton, if_neg (by simpa using e), Nat.add_zero, ← List.getD_eq_getElem?_getD, cnts_get hi]
end Tk

set_option autoImplicit false
set_option linter.all false
set_option Elab.async false
/-! Tk6: a row of tokens does what its counts do. -/
namespace Tk
theorem cnts_add {n l : Nat} {es : List Nat} (h : l < n) : cnts n (es ++ [l]) = add (cnts n es) (unit n l) := by
  refine ext_getD (by rw [add_len (by rw [cnts_len, unit_len]), cnts_len, cnts_len]) fun i hi => ?_
  rw [cnts_len] at hi
  rw [add_get (by rw [cnts_len, unit_len]), unit_get h, cnts_get hi, cnts_get hi, List.count_append, List.count_singleton]
  by_cases e : i = l
  · subst e
    rw [if_pos (by simp), if_pos rfl]
    omega
  · rw [if_neg (by simpa using fun z => e z.symm), if_neg e]
    omega
theorem row_thru {n : Nat} {G : List (Nat × Nat)} {ps : List Int} (hG : GsOk n G) (hb : bits ps) (hl : ps.length = G.length) : ∀ (k : Nat) (es : List Nat), es.length = k → (∀ x ∈ es, x < n) → thruX G ps (cnts n es) = cnts n (rowE G ps es) ∧ thruP G ps (cnts n es) = rowP G ps es := by
  intro k
  induction k with
  | zero =>
    intro es he hx
    have := List.length_eq_zero_iff.mp he
    subst this
    have t := thru_zero (n := n) hG hb hl
    rw [cnts_nil]
    exact ⟨t.1.trans cnts_nil.symm, t.2⟩
  | succ k ih =>
    intro es he hx
    obtain ⟨es', l, rfl⟩ : ∃ es' l, es = es' ++ [l] := by
      have ne : es ≠ [] := fun z => by rw [z] at he; cases he
      exact ⟨es.dropLast, es.getLast ne, (List.dropLast_concat_getLast ne).symm⟩
    have hl' : l < n := hx l (List.mem_append.mpr (.inr (List.mem_singleton.mpr rfl)))
    obtain ⟨a, b⟩ := ih es' (by rw [List.length_append] at he; simpa using he) fun x m => hx x (List.mem_append.mpr (.inl m))
    obtain ⟨c, d⟩ := thru_add (xs := cnts n es') (ys := unit n l) hG hb hl cnts_len unit_len
    obtain ⟨rb, rl⟩ := rowP_ok (G := G) es' hb hl
    obtain ⟨e, f⟩ := thru_unit (ps := rowP G ps es') (l := l) hG rb rl hl'
    rw [cnts_add hl', c, d, a, b, e, f, rowE_snoc, rowP_snoc, cnts_add (passL_lt hG hl')]
    exact ⟨rfl, rfl⟩
theorem cnts_perm {n : Nat} {es fs : List Nat} (h : es.Perm fs) : cnts n es = cnts n fs := by
  unfold cnts
  refine List.map_congr_left fun l _ => ?_
  rw [h.count_eq]
theorem perm_cnts {n : Nat} {es fs : List Nat} (he : ∀ x ∈ es, x < n) (hf : ∀ x ∈ fs, x < n) (h : cnts n es = cnts n fs) : es.Perm fs := by
  rw [List.perm_iff_count]
  intro a
  by_cases ha : a < n
  · have := cnts_get (es := es) ha
    rw [h, cnts_get ha] at this
    omega
  · rw [List.count_eq_zero.mpr fun m => ha (he a m), List.count_eq_zero.mpr fun m => ha (hf a m)]
end Tk

set_option Elab.async false
set_option autoImplicit false
set_option linter.all false
/-! Tk13: which settings can be reached, and how many. -/
namespace Tk
variable {n : Nat} {G : List (Nat × Nat)} {g : Nat × Nat}
/-- how many pass the gate g behind G, by halves -/
def mny (G : List (Nat × Nat)) (g : Nat × Nat) (xs : List Int) : Int := (thruX G (zb G) xs).getD g.1 0 + (thruX G (zb G) xs).getD g.2 0
theorem zb_snoc : zb (G ++ [g]) = zb G ++ [0] := by
  unfold zb zeros
  rw [List.length_append, List.length_singleton, List.replicate_succ']
theorem ev_snoc {xs : List Int} : evens (G ++ [g]) xs ↔ evens G xs ∧ mny G g xs % 2 = 0 := by
  rw [ev_iff zb_bits zb_len, ev_iff zb_bits zb_len, zb_snoc, (thru_app zb_len).2]
  have e : thruP [g] [0] (thruX G (zb G) xs) = [(0 + mny G g xs) % 2] := rfl
  rw [e]
  constructor
  · intro h
    obtain ⟨a, b⟩ := List.append_inj h (by rw [thruP_len zb_len, zb_len])
    refine ⟨a, ?_⟩
    have := (List.cons.inj b).1
    omega
  · rintro ⟨a, b⟩
    rw [a, show (0 + mny G g xs) % 2 = 0 by omega]
theorem mny_add {xs ys : List Int} (hG : GsOk n G) (hx : xs.length = n) (hy : ys.length = n) (ex : evens G xs) : mny G g (add xs ys) = mny G g xs + mny G g ys := by
  unfold mny
  rw [(thru_add hG zb_bits zb_len hx hy).1, (ev_iff zb_bits zb_len).mp ex, add_get (by rw [thruX_len, thruX_len, hx, hy]), add_get (by rw [thruX_len, thruX_len, hx, hy])]
  omega
theorem mny_zero (hG : GsOk n G) : mny G g (zeros n) = 0 := by
  unfold mny
  rw [(thru_zero hG zb_bits zb_len).1, zeros_get, zeros_get]
  rfl
theorem mny_neg {xs : List Int} (hG : GsOk n G) (hx : xs.length = n) (ex : evens G xs) : mny G g (neg xs) = - mny G g xs := by
  have h := mny_add (g := g) (ys := neg xs) hG hx (by rw [neg_len]; exact hx) ex
  rw [add_neg hx, mny_zero hG] at h
  omega
theorem eq_get {x y : List Int} (hx : x.length = n) (hy : y.length = n) (h : ∀ i, x.getD i 0 = y.getD i 0) : x = y := ext_getD (by rw [hx, hy]) fun i _ => h i
theorem add_ln {x y : List Int} (hx : x.length = n) (hy : y.length = n) : (add x y).length = n := by rw [add_len (by rw [hx, hy]), hx]
theorem neg_ln {x : List Int} (hx : x.length = n) : (neg x).length = n := by rw [neg_len, hx]
theorem add_gt {x y : List Int} (hx : x.length = n) (hy : y.length = n) (i : Nat) : (add x y).getD i 0 = x.getD i 0 + y.getD i 0 := add_get (by rw [hx, hy]) i
/-- sums and differences of rows -/
inductive Gen (n : Nat) (bs : List (List Int)) : List Int → Prop
  | zero : Gen n bs (zeros n)
  | row {b : List Int} : b ∈ bs → Gen n bs b
  | add {x y : List Int} : Gen n bs x → Gen n bs y → Gen n bs (add x y)
  | neg {x : List Int} : Gen n bs x → Gen n bs (neg x)
theorem Gen.ln {bs : List (List Int)} (hl : ∀ b ∈ bs, b.length = n) {x : List Int} (h : Gen n bs x) : x.length = n := by
  induction h with
  | zero => exact zeros_len
  | row m => exact hl _ m
  | add _ _ a b => exact add_ln a b
  | neg _ a => exact neg_ln a
theorem Gen.ev {bs : List (List Int)} (hG : GsOk n G) (hl : ∀ b ∈ bs, b.length = n) (he : ∀ b ∈ bs, evens G b) {x : List Int} (h : Gen n bs x) : evens G x := by
  induction h with
  | zero => exact ev_zero hG
  | row m => exact he _ m
  | add a b i j => exact ev_add hG (a.ln hl) (b.ln hl) i j
  | neg a i => exact ev_neg hG (a.ln hl) i
theorem Gen.trans {bs cs : List (List Int)} (hb : ∀ b ∈ bs, Gen n cs b) {x : List Int} (h : Gen n bs x) : Gen n cs x := by
  induction h with
  | zero => exact .zero
  | row m => exact hb _ m
  | add _ _ a b => exact .add a b
  | neg _ a => exact .neg a
/-- what is even at the next gate too -/
theorem Gen.step {bs cs : List (List Int)} {ch : List Int} (hG : GsOk n G) (hl : ∀ b ∈ bs, b.length = n) (he : ∀ b ∈ bs, evens G b) (hc : ch.length = n) (ec : evens G ch) (oc : mny G g ch % 2 = 1) (c2 : Gen n cs (Tk.add ch ch))
    (h0 : ∀ b ∈ bs, mny G g b % 2 = 0 → Gen n cs b) (h1 : ∀ b ∈ bs, mny G g b % 2 = 1 → Gen n cs (Tk.add b (Tk.neg ch))) {x : List Int} (h : Gen n bs x) :
    (mny G g x % 2 = 0 → Gen n cs x) ∧ (mny G g x % 2 = 1 → Gen n cs (Tk.add x (Tk.neg ch))) := by
  have nc := neg_ln hc
  induction h with
  | zero => exact ⟨fun _ => .zero, fun z => by rw [mny_zero hG] at z; omega⟩
  | row m => exact ⟨h0 _ m, h1 _ m⟩
  | @add x y a b i j =>
    have lx := a.ln hl
    have ly := b.ln hl
    rw [mny_add hG lx ly (a.ev hG hl he)]
    rcases Int.emod_two_eq (mny G g x) with px | px <;> rcases Int.emod_two_eq (mny G g y) with py | py
    · exact ⟨fun _ => .add (i.1 px) (j.1 py), fun z => by omega⟩
    · refine ⟨fun z => by omega, fun _ => ?_⟩
      rw [show Tk.add (Tk.add x y) (Tk.neg ch) = Tk.add x (Tk.add y (Tk.neg ch)) from eq_get (n := n) (add_ln (add_ln lx ly) nc) (add_ln lx (add_ln ly nc)) fun k => by
        rw [add_gt (add_ln lx ly) nc, add_gt lx ly, add_gt lx (add_ln ly nc), add_gt ly nc]; omega]
      exact .add (i.1 px) (j.2 py)
    · refine ⟨fun z => by omega, fun _ => ?_⟩
      rw [show Tk.add (Tk.add x y) (Tk.neg ch) = Tk.add (Tk.add x (Tk.neg ch)) y from eq_get (n := n) (add_ln (add_ln lx ly) nc) (add_ln (add_ln lx nc) ly) fun k => by
        rw [add_gt (add_ln lx ly) nc, add_gt lx ly, add_gt (add_ln lx nc) ly, add_gt lx nc]; omega]
      exact .add (i.2 px) (j.1 py)
    · refine ⟨fun _ => ?_, fun z => by omega⟩
      rw [show Tk.add x y = Tk.add (Tk.add (Tk.add x (Tk.neg ch)) (Tk.add y (Tk.neg ch))) (Tk.add ch ch) from eq_get (n := n) (add_ln lx ly) (add_ln (add_ln (add_ln lx nc) (add_ln ly nc)) (add_ln hc hc)) fun k => by
        rw [add_gt lx ly, add_gt (add_ln (add_ln lx nc) (add_ln ly nc)) (add_ln hc hc), add_gt (add_ln lx nc) (add_ln ly nc), add_gt lx nc, add_gt ly nc, add_gt hc hc, neg_get]; omega]
      exact .add (.add (i.2 px) (j.2 py)) c2
  | @neg x a i =>
    have lx := a.ln hl
    rw [mny_neg hG lx (a.ev hG hl he)]
    refine ⟨fun z => .neg (i.1 (by omega)), fun z => ?_⟩
    rw [show Tk.add (Tk.neg x) (Tk.neg ch) = Tk.add (Tk.neg (Tk.add x (Tk.neg ch))) (Tk.neg (Tk.add ch ch)) from eq_get (n := n) (add_ln (neg_ln lx) nc) (add_ln (neg_ln (add_ln lx nc)) (neg_ln (add_ln hc hc))) fun k => by
      rw [add_gt (neg_ln lx) nc, add_gt (neg_ln (add_ln lx nc)) (neg_ln (add_ln hc hc)), neg_get, neg_get, neg_get, neg_get, add_gt lx nc, add_gt hc hc, neg_get]; omega]
    exact .add (.neg (i.2 (by omega))) (.neg c2)
end Tk

set_option Elab.async false
set_option autoImplicit false
set_option linter.all false
/-! Tk14: the settings that tokens reach. -/
namespace Tk
variable {n : Nat} {G : List (Nat × Nat)} {g : Nat × Nat}
def Rch (n : Nat) (G : List (Nat × Nat)) (s t : List Int) : Prop := ∃ xs : List Int, xs.length = n ∧ thruP G s xs = t
theorem Rch.refl {s : List Int} (hG : GsOk n G) (hb : bits s) (hl : s.length = G.length) : Rch n G s s := ⟨zeros n, zeros_len, (thru_zero hG hb hl).2⟩
theorem Rch.ok {s t : List Int} (hl : s.length = G.length) (h : Rch n G s t) : bits t ∧ t.length = G.length := by
  obtain ⟨xs, _, rfl⟩ := h
  exact ⟨thruP_bits, thruP_len hl⟩
theorem Rch.trans {s t u : List Int} (hG : GsOk n G) (hb : bits s) (hl : s.length = G.length) (h : Rch n G s t) (k : Rch n G t u) : Rch n G s u := by
  obtain ⟨xs, lx, rfl⟩ := h
  obtain ⟨ys, ly, rfl⟩ := k
  exact ⟨add xs ys, add_ln lx ly, (thru_add hG hb hl lx ly).2⟩
theorem Rch.symm {s t : List Int} (hG : GsOk n G) (hb : bits s) (hl : s.length = G.length) (h : Rch n G s t) : Rch n G t s := by
  obtain ⟨xs, lx, rfl⟩ := h
  exact ⟨neg xs, neg_ln lx, (thru_neg hG hb hl lx).2⟩
theorem Rch.tok {s : List Int} {l : Nat} (hG : GsOk n G) (hb : bits s) (hl : s.length = G.length) (h : l < n) : Rch n G s (passP G s l) := ⟨unit n l, unit_len, (thru_unit hG hb hl h).2⟩
/-- tokens for given numbers of them -/
theorem cnts_all {xs : List Int} (hx : xs.length = n) (h0 : ∀ x ∈ xs, 0 ≤ x) : ∃ es : List Nat, (∀ x ∈ es, x < n) ∧ cnts n es = xs := by
  have key : ∀ m, m ≤ n → ∃ es : List Nat, (∀ x ∈ es, x < n) ∧ ∀ l, es.count l = if l < m then (xs.getD l 0).toNat else 0 := by
    intro m
    induction m with
    | zero => exact fun _ => ⟨[], fun x h => (by cases h), fun l => (by simp)⟩
    | succ m ih =>
      intro hm
      obtain ⟨es, h1, h2⟩ := ih (by omega)
      refine ⟨es ++ List.replicate (xs.getD m 0).toNat m, fun x h => ?_, fun l => ?_⟩
      · rcases List.mem_append.mp h with h | h
        · exact h1 x h
        · rw [List.eq_of_mem_replicate h]
          omega
      · rw [List.count_append, List.count_replicate, h2]
        by_cases e : l = m
        · subst e; simp
        · have e' : ¬ (m == l) = true := by simpa using fun z => e z.symm
          rw [if_neg e']
          by_cases c : l < m
          · rw [if_pos c, if_pos (by omega)]; omega
          · rw [if_neg c, if_neg (by omega)]
  obtain ⟨es, h1, h2⟩ := key n (Nat.le_refl n)
  refine ⟨es, h1, eq_get cnts_len hx fun i => ?_⟩
  by_cases hi : i < n
  · rw [cnts_get hi, h2, if_pos hi]
    have : xs.getD i 0 ∈ xs := by
      rw [List.getD_eq_getElem?_getD, List.getElem?_eq_getElem (by omega)]
      exact List.getElem_mem _
    have := h0 _ this
    omega
  · rw [List.getD_eq_getElem?_getD, List.getD_eq_getElem?_getD, List.getElem?_eq_none (by rw [cnts_len]; omega), List.getElem?_eq_none (by omega)]
theorem Rch.toks {s t : List Int} (hG : GsOk n G) (hb : bits s) (hl : s.length = G.length) (h : Rch n G s t) : ∃ es : List Nat, (∀ x ∈ es, x < n) ∧ rowP G s es = t := by
  obtain ⟨xs, lx, rfl⟩ := h
  obtain ⟨M, hM⟩ : ∃ M : Int, M = 2 ^ G.length := ⟨_, rfl⟩
  have M1 : 1 ≤ M := by rw [hM]; have : (0 : Int) < 2 ^ G.length := Int.pow_pos (by decide); omega
  obtain ⟨ms, hms⟩ : ∃ ms : List Int, ms = xs.map fun x => M * (x.natAbs : Int) := ⟨_, rfl⟩
  have lm : ms.length = n := by rw [hms, List.length_map, lx]
  have gm : ∀ i, ms.getD i 0 = M * ((xs.getD i 0).natAbs : Int) := fun i => by
    rw [hms, List.getD_eq_getElem?_getD, List.getElem?_map, List.getD_eq_getElem?_getD]
    cases xs[i]? with
    | none => simp
    | some x => rfl
  have em : evens G ms := ev_pow fun i => by rw [gm, ← hM]; exact Int.dvd_mul_right _ _
  have e1 : thruP G s (add ms xs) = thruP G s xs := by rw [(thru_add hG hb hl lm lx).2, (ev_iff hb hl).mp em]
  obtain ⟨es, h1, h2⟩ := cnts_all (n := n) (xs := add ms xs) (add_ln lm lx) fun x m => by
    obtain ⟨i, hi⟩ := List.getElem?_of_mem m
    have g1 := add_gt lm lx i
    rw [gm, List.getD_eq_getElem?_getD, hi] at g1
    have g2 : x = M * ((xs.getD i 0).natAbs : Int) + xs.getD i 0 := g1
    have g3 : ((xs.getD i 0).natAbs : Int) ≤ M * ((xs.getD i 0).natAbs : Int) := by
      have := Int.mul_le_mul_of_nonneg_right M1 (Int.natCast_nonneg (xs.getD i 0).natAbs)
      omega
    omega
  refine ⟨es, h1, ?_⟩
  rw [← (row_thru hG hb hl es.length es rfl h1).2, h2, e1]
theorem Rch.row {s : List Int} {es : List Nat} (hG : GsOk n G) (hb : bits s) (hl : s.length = G.length) (h : ∀ x ∈ es, x < n) : Rch n G s (rowP G s es) := ⟨cnts n es, cnts_len, (row_thru hG hb hl es.length es rfl h).2⟩
/-- what tokens do not leave -/
theorem closed_row {K : List (List Int)} (hc : ∀ t ∈ K, ∀ l, l < n → passP G t l ∈ K) : ∀ (es : List Nat) (s : List Int), s ∈ K → (∀ x ∈ es, x < n) → rowP G s es ∈ K
  | [], _, hs, _ => hs
  | l :: es, s, hs, h => closed_row hc es (passP G s l) (hc s hs l (h l (List.mem_cons_self ..))) fun x m => h x (List.mem_cons_of_mem _ m)
theorem closed_rch {K : List (List Int)} {s t : List Int} (hG : GsOk n G) (hb : bits s) (hl : s.length = G.length) (hs : s ∈ K) (hc : ∀ t ∈ K, ∀ l, l < n → passP G t l ∈ K) (h : Rch n G s t) : t ∈ K := by
  obtain ⟨es, h1, rfl⟩ := h.toks hG hb hl
  exact closed_row hc es s hs h1
/-! how many -/
/-- the list of what is reached -/
def Rs (n : Nat) (G : List (Nat × Nat)) (s : List Int) (K : List (List Int)) : Prop := K.Nodup ∧ ∀ t, t ∈ K ↔ Rch n G s t
theorem Rs.len {s : List Int} {K L : List (List Int)} (h : Rs n G s K) (k : Rs n G s L) : K.length = L.length :=
  ((List.perm_ext_iff_of_nodup h.1 k.1).mpr fun t => (h.2 t).trans (k.2 t).symm).length_eq
def Free (n : Nat) (G : List (Nat × Nat)) (g : Nat × Nat) : Prop := ∃ a : List Int, a.length = n ∧ evens G a ∧ ¬ evens (G ++ [g]) a
theorem GsOk.left {G' : List (Nat × Nat)} (h : GsOk n (G ++ G')) : GsOk n G := fun g m => h g (List.mem_append_left _ m)
theorem thru_snoc {s xs : List Int} {b : Int} (hl : s.length = G.length) : thruP (G ++ [g]) (s ++ [b]) xs = thruP G s xs ++ [stepP g b (thruX G s xs)] := (thru_app hl).2
theorem bits_snoc {s : List Int} {b : Int} (h : bits s) (hb : bit b) : bits (s ++ [b]) := fun p m => by
  rcases List.mem_append.mp m with m | m
  · exact h p m
  · rw [List.mem_singleton.mp m]; exact hb
theorem step_flip {xs : List Int} {b : Int} (hb : bit b) : stepP g (1 - b) xs = 1 - stepP g b xs := by
  unfold stepP bit at *
  omega
theorem snoc_inj {a c : List Int} {b d : Int} (h : a ++ [b] = c ++ [d]) : a = c ∧ b = d := by
  obtain ⟨h1, h2⟩ := List.append_inj' h rfl
  exact ⟨h1, (List.cons.inj h2).1⟩
/-- a free gate: both pointers -/
theorem rch_free {s t : List Int} {b c : Int} (hG : GsOk n (G ++ [g])) (hs : bits s) (hl : s.length = G.length) (hb : bit b) (hc : bit c) (f : Free n G g) (h : Rch n G s t) : Rch n (G ++ [g]) (s ++ [b]) (t ++ [c]) := by
  obtain ⟨a, la, ea, oa⟩ := f
  obtain ⟨xs, lx, rfl⟩ := h
  have hl1 : (s ++ [b]).length = (G ++ [g]).length := by simp [hl]
  have hb1 := bits_snoc hs hb
  by_cases e : stepP g b (thruX G s xs) = c
  · exact ⟨xs, lx, by rw [thru_snoc hl, e]⟩
  · refine ⟨add a xs, add_ln la lx, ?_⟩
    rw [(thru_add hG hb1 hl1 la lx).2, thru_snoc (b := b) hl, (ev_iff hs hl).mp ea]
    have f1 : ¬ stepP g b (thruX G s a) = b := fun z => oa (by
      rw [ev_iff hb1 hl1, thru_snoc hl, (ev_iff hs hl).mp ea, z])
    have f2 : stepP g b (thruX G s a) = 1 - b := by
      have := stepP_bit (g := g) (p := b) (xs := thruX G s a)
      unfold bit at this hb
      omega
    rw [f2, thru_snoc hl, step_flip hb]
    have := stepP_bit (g := g) (p := b) (xs := thruX G s xs)
    unfold bit at this hc
    rw [show 1 - stepP g b (thruX G s xs) = c by omega]
/-- a gate that is not free: one pointer -/
theorem rch_bound {s t : List Int} {b c d : Int} (hG : GsOk n (G ++ [g])) (hs : bits s) (hl : s.length = G.length) (hb : bit b) (f : ¬ Free n G g) (h : Rch n (G ++ [g]) (s ++ [b]) (t ++ [c])) (k : Rch n (G ++ [g]) (s ++ [b]) (t ++ [d])) : c = d := by
  obtain ⟨xs, lx, ex⟩ := h
  obtain ⟨ys, ly, ey⟩ := k
  have hl1 : (s ++ [b]).length = (G ++ [g]).length := by simp [hl]
  have hb1 := bits_snoc hs hb
  have n1 := (thru_neg hG hb1 hl1 lx).2
  have ok : bits (t ++ [c]) ∧ (t ++ [c]).length = (G ++ [g]).length := by rw [← ex]; exact ⟨thruP_bits, thruP_len hl1⟩
  have e : thruP (G ++ [g]) (t ++ [c]) (add (neg xs) ys) = t ++ [d] := by
    rw [(thru_add hG ok.1 ok.2 (neg_ln lx) ly).2, ← ex, n1, ey]
  have lt : t.length = G.length := by have := ok.2; simpa using this
  have bt : bits t := fun p m => ok.1 p (List.mem_append_left _ m)
  rw [thru_snoc lt] at e
  obtain ⟨e1, e2⟩ := snoc_inj e
  have ev : evens G (add (neg xs) ys) := (ev_iff bt lt).mpr e1
  have ev2 : evens (G ++ [g]) (add (neg xs) ys) := Classical.byContradiction fun z => f ⟨_, add_ln (neg_ln lx) ly, ev, z⟩
  have e3 := (ev_iff ok.1 ok.2).mp ev2
  rw [thru_snoc lt] at e3
  rw [← e2]
  exact (snoc_inj e3).2.symm
theorem Rch.init {s t : List Int} {b : Int} (hl : s.length = G.length) (h : Rch n (G ++ [g]) (s ++ [b]) t) : ∃ u c, t = u ++ [c] ∧ Rch n G s u ∧ bit c := by
  obtain ⟨xs, lx, rfl⟩ := h
  exact ⟨_, _, thru_snoc hl, ⟨xs, lx, rfl⟩, stepP_bit⟩
theorem nodup_map_inj {α β : Type} {f : α → β} : ∀ {l : List α}, l.Nodup → (∀ a ∈ l, ∀ b ∈ l, f a = f b → a = b) → (l.map f).Nodup
  | [], _, _ => List.nodup_nil
  | a :: l, h, k => by
    obtain ⟨h1, h2⟩ := List.nodup_cons.mp h
    rw [List.map_cons, List.nodup_cons]
    refine ⟨fun m => ?_, nodup_map_inj h2 fun x mx y my => k x (List.mem_cons_of_mem _ mx) y (List.mem_cons_of_mem _ my)⟩
    obtain ⟨x, mx, e⟩ := List.mem_map.mp m
    have := k x (List.mem_cons_of_mem _ mx) a (List.mem_cons_self ..) e
    exact h1 (this ▸ mx)
theorem rs_step {s : List Int} {b : Int} {K L : List (List Int)} (hG : GsOk n (G ++ [g])) (hs : bits s) (hl : s.length = G.length) (hb : bit b) (hK : Rs n G s K) (hL : Rs n (G ++ [g]) (s ++ [b]) L) :
    (Free n G g → L.length = 2 * K.length) ∧ (¬ Free n G g → L.length = K.length) := by
  refine ⟨fun f => ?_, fun f => ?_⟩
  · have nd : (K.map (· ++ [(0 : Int)]) ++ K.map (· ++ [(1 : Int)])).Nodup := by
      rw [List.nodup_append]
      refine ⟨nodup_map_inj hK.1 fun a _ c _ e => (snoc_inj e).1, nodup_map_inj hK.1 fun a _ c _ e => (snoc_inj e).1, fun x hx y hy e => ?_⟩
      obtain ⟨u, _, rfl⟩ := List.mem_map.mp hx
      obtain ⟨v, _, rfl⟩ := List.mem_map.mp hy
      have := (snoc_inj e).2
      omega
    have pm := (List.perm_ext_iff_of_nodup hL.1 nd).mpr fun t => by
      rw [hL.2, List.mem_append]
      constructor
      · intro h
        obtain ⟨u, c, rfl, hu, hc⟩ := h.init hl
        rcases hc with rfl | rfl
        · exact .inl (List.mem_map.mpr ⟨u, (hK.2 u).mpr hu, rfl⟩)
        · exact .inr (List.mem_map.mpr ⟨u, (hK.2 u).mpr hu, rfl⟩)
      · rintro (h | h)
        · obtain ⟨u, hu, rfl⟩ := List.mem_map.mp h
          exact rch_free hG hs hl hb (.inl rfl) f ((hK.2 u).mp hu)
        · obtain ⟨u, hu, rfl⟩ := List.mem_map.mp h
          exact rch_free hG hs hl hb (.inr rfl) f ((hK.2 u).mp hu)
    rw [pm.length_eq, List.length_append, List.length_map, List.length_map]
    omega
  · have nd : (L.map List.dropLast).Nodup := nodup_map_inj hL.1 fun a ha c hc e => by
      obtain ⟨u, x, rfl, _, _⟩ := ((hL.2 a).mp ha).init hl
      obtain ⟨v, y, rfl, _, _⟩ := ((hL.2 c).mp hc).init hl
      rw [List.dropLast_concat, List.dropLast_concat] at e
      subst e
      rw [rch_bound hG hs hl hb f ((hL.2 _).mp ha) ((hL.2 _).mp hc)]
    have pm := (List.perm_ext_iff_of_nodup nd hK.1).mpr fun t => by
      rw [hK.2, List.mem_map]
      constructor
      · rintro ⟨a, ha, rfl⟩
        obtain ⟨u, x, rfl, hu, _⟩ := ((hL.2 a).mp ha).init hl
        rw [List.dropLast_concat]
        exact hu
      · rintro ⟨xs, lx, rfl⟩
        exact ⟨_, (hL.2 _).mpr ⟨xs, lx, rfl⟩, by rw [thru_snoc hl, List.dropLast_concat]⟩
    have := pm.length_eq
    rwa [List.length_map] at this
/-- all settings of so many gates -/
def alls : Nat → List (List Int)
  | 0 => [[]]
  | k + 1 => (alls k).map (· ++ [(0 : Int)]) ++ (alls k).map (· ++ [(1 : Int)])
theorem alls_len : ∀ k, (alls k).length = 2 ^ k
  | 0 => rfl
  | k + 1 => by
    show ((alls k).map _ ++ (alls k).map _).length = _
    rw [List.length_append, List.length_map, List.length_map, alls_len k, Nat.pow_succ]
    omega
theorem alls_mem : ∀ {k : Nat} {t : List Int}, t ∈ alls k ↔ bits t ∧ t.length = k
  | 0, t => by
    show t ∈ [[]] ↔ _
    rw [List.mem_singleton]
    constructor
    · rintro rfl; exact ⟨fun p m => (by cases m), rfl⟩
    · rintro ⟨_, h⟩; exact List.eq_nil_of_length_eq_zero h
  | k + 1, t => by
    show t ∈ (alls k).map (· ++ [(0 : Int)]) ++ (alls k).map (· ++ [(1 : Int)]) ↔ _
    rw [List.mem_append, List.mem_map, List.mem_map]
    constructor
    · rintro (⟨u, hu, rfl⟩ | ⟨u, hu, rfl⟩)
      · obtain ⟨a, b⟩ := alls_mem.mp hu
        exact ⟨bits_snoc a (.inl rfl), by simp [b]⟩
      · obtain ⟨a, b⟩ := alls_mem.mp hu
        exact ⟨bits_snoc a (.inr rfl), by simp [b]⟩
    · rintro ⟨a, b⟩
      have ne : t ≠ [] := fun z => by rw [z] at b; simp at b
      have e := List.dropLast_concat_getLast ne
      have m : t.dropLast ∈ alls k := alls_mem.mpr ⟨fun p hp => a p (List.dropLast_subset _ hp), by rw [List.length_dropLast]; omega⟩
      rcases a _ (List.getLast_mem ne) with z | z
      · exact .inl ⟨_, m, by rw [← z]; exact e⟩
      · exact .inr ⟨_, m, by rw [← z]; exact e⟩
theorem alls_nodup : ∀ k, (alls k).Nodup
  | 0 => by decide
  | k + 1 => by
    show ((alls k).map (· ++ [(0 : Int)]) ++ (alls k).map (· ++ [(1 : Int)])).Nodup
    rw [List.nodup_append]
    refine ⟨nodup_map_inj (alls_nodup k) fun a _ c _ e => (snoc_inj e).1, nodup_map_inj (alls_nodup k) fun a _ c _ e => (snoc_inj e).1, fun x hx y hy e => ?_⟩
    obtain ⟨u, _, rfl⟩ := List.mem_map.mp hx
    obtain ⟨v, _, rfl⟩ := List.mem_map.mp hy
    have := (snoc_inj e).2
    omega
open Classical in
theorem rs_exists {s : List Int} (hl : s.length = G.length) : ∃ K, Rs n G s K :=
  ⟨(alls G.length).filter fun t => decide (Rch n G s t), (alls_nodup _).sublist List.filter_sublist, fun t => by
    rw [List.mem_filter, decide_eq_true_iff]
    exact ⟨fun h => h.2, fun h => ⟨alls_mem.mpr (h.ok hl), h⟩⟩⟩
end Tk

set_option Elab.async false
set_option autoImplicit false
set_option linter.all false
/-! Tk15: a search of what tokens reach. -/
namespace Tk
variable {n : Nat} {G : List (Nat × Nat)} {s t : List Int} {K Wt : List (List Int)} {i : Nat}
structure Dfs (n : Nat) (G : List (Nat × Nat)) (s : List Int) (K Wt : List (List Int)) : Prop where
  nd : K.Nodup
  st : s ∈ K
  re : ∀ u ∈ K, Rch n G s u
  wt : ∀ u ∈ Wt, u ∈ K
  cl : ∀ u ∈ K, u ∈ Wt ∨ ∀ l, l < n → passP G u l ∈ K
/-- in the midst of t's lanes -/
structure DfsI (n : Nat) (G : List (Nat × Nat)) (s t : List Int) (i : Nat) (K Wt : List (List Int)) : Prop where
  nd : K.Nodup
  st : s ∈ K
  re : ∀ u ∈ K, Rch n G s u
  wt : ∀ u ∈ Wt, u ∈ K
  it : t ∈ K
  cl : ∀ u ∈ K, u ∈ Wt ∨ u = t ∨ ∀ l, l < n → passP G u l ∈ K
  ln : ∀ l, l < i → passP G t l ∈ K
theorem Dfs.start (hG : GsOk n G) (hb : bits s) (hl : s.length = G.length) : Dfs n G s [s] [s] :=
  ⟨by simp, List.mem_singleton.mpr rfl, fun u m => by rw [List.mem_singleton.mp m]; exact Rch.refl hG hb hl, fun u m => m, fun u m => .inl m⟩
theorem Dfs.pop (h : Dfs n G s K (Wt ++ [t])) : DfsI n G s t 0 K Wt :=
  ⟨h.nd, h.st, h.re, fun u m => h.wt u (List.mem_append_left _ m), h.wt t (List.mem_append_right _ (List.mem_singleton.mpr rfl)), fun u m => by
    rcases h.cl u m with z | z
    · rcases List.mem_append.mp z with z | z
      · exact .inl z
      · exact .inr (.inl (List.mem_singleton.mp z))
    · exact .inr (.inr z), fun l h => by omega⟩
theorem DfsI.old (h : DfsI n G s t i K Wt) (m : passP G t i ∈ K) : DfsI n G s t (i + 1) K Wt :=
  ⟨h.nd, h.st, h.re, h.wt, h.it, h.cl, fun l hl => by
    by_cases e : l = i
    · rw [e]; exact m
    · exact h.ln l (by omega)⟩
theorem DfsI.new (hG : GsOk n G) (hb : bits s) (hl : s.length = G.length) (h : DfsI n G s t i K Wt) (hi : i < n) (m : passP G t i ∉ K) : DfsI n G s t (i + 1) (K ++ [passP G t i]) (Wt ++ [passP G t i]) := by
  have ht := h.re t h.it
  have ok := ht.ok hl
  refine ⟨?_, List.mem_append_left _ h.st, fun u mu => ?_, fun u mu => ?_, List.mem_append_left _ h.it, fun u mu => ?_, fun l hl => ?_⟩
  · rw [List.nodup_append]
    refine ⟨h.nd, by simp, fun a ha b hb e => ?_⟩
    rw [List.mem_singleton.mp hb] at e
    exact m (e ▸ ha)
  · rcases List.mem_append.mp mu with mu | mu
    · exact h.re u mu
    · rw [List.mem_singleton.mp mu]
      exact ht.trans hG hb hl (Rch.tok hG ok.1 ok.2 hi)
  · rcases List.mem_append.mp mu with mu | mu
    · exact List.mem_append_left _ (h.wt u mu)
    · exact List.mem_append_right _ mu
  · rcases List.mem_append.mp mu with mu | mu
    · rcases h.cl u mu with z | z | z
      · exact .inl (List.mem_append_left _ z)
      · exact .inr (.inl z)
      · exact .inr (.inr fun l hl => List.mem_append_left _ (z l hl))
    · exact .inl (List.mem_append_right _ mu)
  · by_cases e : l = i
    · rw [e]; exact List.mem_append_right _ (List.mem_singleton.mpr rfl)
    · exact List.mem_append_left _ (h.ln l (by omega))
theorem DfsI.done (h : DfsI n G s t n K Wt) : Dfs n G s K Wt :=
  ⟨h.nd, h.st, h.re, h.wt, fun u m => by
    rcases h.cl u m with z | z | z
    · exact .inl z
    · rw [z]; exact .inr h.ln
    · exact .inr z⟩
theorem Dfs.fin (hG : GsOk n G) (hb : bits s) (hl : s.length = G.length) (h : Dfs n G s K []) : Rs n G s K :=
  ⟨h.nd, fun t => ⟨h.re t, fun r => closed_rch hG hb hl h.st (fun u m l hl => by
    rcases h.cl u m with z | z
    · cases z
    · exact z l hl) r⟩⟩
/-- no more than all settings -/
theorem nodup_sub_le : ∀ {α : Type} (l m : List α), l.Nodup → (∀ x ∈ l, x ∈ m) → l.length ≤ m.length := by
  intro α l
  induction l with
  | nil => intro m _ _; exact Nat.zero_le _
  | cons a l ih =>
    intro m h k
    obtain ⟨h1, h2⟩ := List.nodup_cons.mp h
    obtain ⟨u, v, rfl⟩ := List.append_of_mem (k a (List.mem_cons_self ..))
    have := ih (u ++ v) h2 fun x mx => by
      have := k x (List.mem_cons_of_mem _ mx)
      rcases List.mem_append.mp this with z | z
      · exact List.mem_append_left _ z
      · rcases List.mem_cons.mp z with z | z
        · exact absurd (z ▸ mx) h1
        · exact List.mem_append_right _ z
    simp only [List.length_append, List.length_cons] at this ⊢
    omega
theorem reach_le {L : List (List Int)} (hl : s.length = G.length) (nd : L.Nodup) (re : ∀ u ∈ L, Rch n G s u) : L.length ≤ 2 ^ G.length := by
  rw [← alls_len]
  exact nodup_sub_le L _ nd fun u m => alls_mem.mpr ((re u m).ok hl)
end Tk

set_option Elab.async false
set_option autoImplicit false
set_option linter.all false
set_option maxRecDepth 100000
namespace Law
open PySem PySem.Spec PyProof.Rows L2 Mx
open L2 (Inv)
def top (i : Nat) : Stmt := PySem.Challenge.pw_tokenlanes_k15_reachable_settings_counte.main.body.getD i (.Pass ⟨0, 0, 0, 0⟩)
abbrev s_is_whole : Stmt := top 8
abbrev N_is_whole : List Str := ["value"]
abbrev P_is_whole : List Str := ["value"]
def ms_is_whole : MS :=
  (mRet (mOf (mAnd (mTr (mPrim (fPure (gIsi "int")) (mCons (mVar 0) mNil))) (mTr (mOf (mNot (mTr (mPrim (fPure (gIsi "bool")) (mCons (mVar 0) mNil)))))))))
def D_is_whole : Den := denOf 0 ms_is_whole
theorem sc_is_whole : FnScope N_is_whole P_is_whole (defScope s_is_whole) := ⟨rfl, rfl, rfl, by decide +kernel, rfl, by decide +kernel, by decide +kernel⟩
abbrev s_is_between : Stmt := top 9
abbrev N_is_between : List Str := ["value", "low", "high"]
abbrev P_is_between : List Str := ["value", "low", "high"]
def ms_is_between : MS :=
  (mRet (mOf (mAnd (mTr (mPrim (fCall [false] 1 D_is_whole) (mCons (mVar 0) mNil))) (mTr (mChain (mVar 1) (mVar 0) (mVar 2))))))
def D_is_between : Den := denOf 0 ms_is_between
theorem sc_is_between : FnScope N_is_between P_is_between (defScope s_is_between) := ⟨rfl, rfl, rfl, by decide +kernel, rfl, by decide +kernel, by decide +kernel⟩
abbrev s_is_lane_pair : Stmt := top 10
abbrev N_is_lane_pair : List Str := ["value", "lane_count", "lane"]
abbrev P_is_lane_pair : List Str := ["value", "lane_count"]
def ms_is_lane_pair : MS :=
  (mSeq (mSIf (mOr (mNot (mTr (mPrim (fPure (gIsi "tuple")) (mCons (mVar 0) mNil)))) (mTr (mPrim (fPure gNe) (mCons (mPrim fLen (mCons (mVar 0) mNil)) (mCons (mC (.int 2)) mNil)))))
    (mRet (mC (.bool false)))
    mNext)
    (mRet (mPrim (fPure gAll) (mCons (mLc (tgName 2) [2] (mItT (mVar 0)) mYes (mPrim (fCall [false, false, false] 3 D_is_between) (mCons (mVar 2) (mCons (mC (.int 0)) (mCons (mPrim fSub (mCons (mVar 1) (mCons (mC (.int 1)) mNil))) mNil))))) mNil))))
def D_is_lane_pair : Den := denOf 1 ms_is_lane_pair
theorem sc_is_lane_pair : FnScope N_is_lane_pair P_is_lane_pair (defScope s_is_lane_pair) := ⟨rfl, rfl, rfl, by decide +kernel, rfl, by decide +kernel, by decide +kernel⟩
abbrev s_is_gate : Stmt := top 11
abbrev N_is_gate : List Str := ["value", "lane_count"]
abbrev P_is_gate : List Str := ["value", "lane_count"]
def ms_is_gate : MS :=
  (mRet (mOf (mAnd (mTr (mPrim (fCall [false, false] 2 D_is_lane_pair) (mCons (mVar 0) (mCons (mVar 1) mNil)))) (mTr (mPrim (fPure gNe) (mCons (mPrim fIx (mCons (mVar 0) (mCons (mC (.int 0)) mNil))) (mCons (mPrim fIx (mCons (mVar 0) (mCons (mC (.int 1)) mNil))) mNil)))))))
def D_is_gate : Den := denOf 0 ms_is_gate
theorem sc_is_gate : FnScope N_is_gate P_is_gate (defScope s_is_gate) := ⟨rfl, rfl, rfl, by decide +kernel, rfl, by decide +kernel, by decide +kernel⟩
abbrev s_lane_count : Stmt := inClass (top 17) 3
theorem sc_lane_count : FnScope ["self"] ["self"] (defScope s_lane_count) := ⟨rfl, rfl, rfl, by decide +kernel, rfl, by decide +kernel, by decide +kernel⟩
abbrev s_gate_list : Stmt := inClass (top 17) 4
theorem sc_gate_list : FnScope ["self"] ["self"] (defScope s_gate_list) := ⟨rfl, rfl, rfl, by decide +kernel, rfl, by decide +kernel, by decide +kernel⟩
abbrev s_bi : Stmt := inClass (top 17) 0
abbrev s_bl : Stmt := inClass (top 17) 7
abbrev N_bi : List Str := ["self", "lanes", "gates", "index", "gate"]
abbrev P_bi : List Str := ["self", "lanes", "gates"]
def m_bi1 : MS :=
  (mSIf (mNot (mTr (mPrim (fCall [false, false, false] 3 D_is_between) (mCons (mVar 1) (mCons (mC (.int 2)) (mCons (mC (.int 8)) mNil))))))
    mNever
    mNext)
def m_bi2 : MS :=
  (mSIf (mNot (mTr (mPrim (fPure (gIsi "list")) (mCons (mVar 2) mNil))))
    mNever
    mNext)
def m_bi3 : MS :=
  (mFor (tgTup [3, 4]) (mEnum (mVar 2))
    (mSIf (mOr (mTr (mPrim fEqU (mCons (mVar 3) (mCons (mC (.int 24)) mNil)))) (mNot (mTr (mPrim (fCall [false, false] 2 D_is_gate) (mCons (mVar 4) (mCons (mVar 1) mNil))))))
    mNever
    mNext))
theorem sc_bi : FnScope N_bi P_bi (defScope s_bi) := ⟨rfl, rfl, rfl, by decide +kernel, rfl, by decide +kernel, by decide +kernel⟩
theorem sc_bl : FnScope ["self"] ["self"] (defScope s_bl) := ⟨rfl, rfl, rfl, by decide +kernel, rfl, by decide +kernel, by decide +kernel⟩
def stAt (st : Stmt) (i : Nat) : Stmt := (defBody st).getD i (.Pass ⟨0, 0, 0, 0⟩)
def biEnv (x : Addr) (n : Int) (gs : List D) (a b : Option Slot) : MEnv := [some (.raw (.ref x)), some (.dat (.int n)), some (.dat (.list gs)), a, b]
/-- the three checks find nothing -/
def BiOk : Prop := ∀ (x : Addr) (n : Int) (gs : List D), okBoard n gs = true → m_bi1 (biEnv x n gs none none) = some (.nx, biEnv x n gs none none) ∧ m_bi2 (biEnv x n gs none none) = some (.nx, biEnv x n gs none none) ∧ ∃ a b, m_bi3 (biEnv x n gs none none) = some (.nx, biEnv x n gs a b)
abbrev s_law_pot : Stmt := top 28
abbrev N_law_pot : List Str := ["script", "k", "cell"]
abbrev P_law_pot : List Str := ["script", "k"]
def ms_law_pot : MS :=
  (mSeq (mSet 2 false (mC (.int 0)))
    (mSeq (mSIf (mTr (mPrim fLt (mCons (mVar 1) (mCons (mPrim fLenS (mCons (mVar 0) mNil)) mNil))))
    (mSet 2 false (mPrim fIxS (mCons (mVar 0) (mCons (mVar 1) mNil))))
    mNext)
    (mRet (mPrim fList (mCons (mPrim (fPure gMax) (mCons (mC (.int 0)) (mCons (mPrim fSub (mCons (mVar 2) (mCons (mPrim fPow (mCons (mC (.int 10)) (mCons (mC (.int 18)) mNil))) mNil))) mNil))) (mCons (mPrim fAddU (mCons (mPrim fMod (mCons (mVar 2) (mCons (mPrim fAddU (mCons (mPrim fPow (mCons (mC (.int 10)) (mCons (mC (.int 38)) mNil))) (mCons (mC (.int 133)) mNil))) mNil))) (mCons (mPrim fMulU (mCons (mC (.int 999181)) (mCons (mVar 1) mNil))) mNil))) (mCons (mC (.int 0)) mNil)))))))
def D_law_pot : Den := denOf 1 ms_law_pot
theorem sc_law_pot : FnScope N_law_pot P_law_pot (defScope s_law_pot) := ⟨rfl, rfl, rfl, by decide +kernel, rfl, by decide +kernel, by decide +kernel⟩
abbrev s_law_take : Stmt := top 29
abbrev N_law_take : List Str := ["pot", "many", "found", "mixed"]
abbrev P_law_take : List Str := ["pot", "many"]
def ms_law_take : MS :=
  (mSeq (mSIf (mTr (mPrim fGt (mCons (mPrim fIx (mCons (mVar 0) (mCons (mC (.int 0)) mNil))) (mCons (mC (.int 0)) mNil))))
    (mSeq (mSet 2 false (mPrim fMod (mCons (mPrim fIx (mCons (mVar 0) (mCons (mC (.int 0)) mNil))) (mCons (mVar 1) mNil))))
    (mSeq (mSub 0 (mC (.int 0)) (mPrim fDiv (mCons (mPrim fIx (mCons (mVar 0) (mCons (mC (.int 0)) mNil))) (mCons (mVar 1) mNil))))
    (mRet (mVar 2))))
    mNext)
    (mSeq (mSub 0 (mC (.int 2)) (mPrim fAddU (mCons (mPrim fIx (mCons (mVar 0) (mCons (mC (.int 2)) mNil))) (mCons (mC (.int 1)) mNil))))
    (mSeq (mSet 3 false (mPrim fMod (mCons (mPrim fPow (mCons (mPrim fAddU (mCons (mPrim fIx (mCons (mVar 0) (mCons (mC (.int 1)) mNil))) (mCons (mPrim fMulU (mCons (mC (.int 8944394323791464)) (mCons (mPrim fIx (mCons (mVar 0) (mCons (mC (.int 2)) mNil))) mNil))) mNil))) (mCons (mC (.int 3)) mNil))) (mCons (mPrim fAddU (mCons (mPrim fPow (mCons (mC (.int 10)) (mCons (mC (.int 41)) mNil))) (mCons (mC (.int 37)) mNil))) mNil))))
    (mSeq (mSet 3 false (mPrim fMod (mCons (mPrim fPow (mCons (mPrim fAddU (mCons (mVar 3) (mCons (mPrim fMulU (mCons (mC (.int 14472334024676221)) (mCons (mPrim fIx (mCons (mVar 0) (mCons (mC (.int 2)) mNil))) mNil))) mNil))) (mCons (mC (.int 3)) mNil))) (mCons (mPrim fAddU (mCons (mPrim fPow (mCons (mC (.int 10)) (mCons (mC (.int 40)) mNil))) (mCons (mC (.int 121)) mNil))) mNil))))
    (mRet (mPrim fMod (mCons (mPrim fDiv (mCons (mVar 3) (mCons (mC (.int 1000003)) mNil))) (mCons (mVar 1) mNil))))))))
def D_law_take : Den := denOf 2 ms_law_take
theorem sc_law_take : FnScope N_law_take P_law_take (defScope s_law_take) := ⟨rfl, rfl, rfl, by decide +kernel, rfl, by decide +kernel, by decide +kernel⟩
abbrev s_law_board : Stmt := top 30
abbrev N_law_board : List Str := ["pot", "most", "lanes", "way", "found", "at", "few", "one", "other", "spot", "more"]
abbrev P_law_board : List Str := ["pot", "most"]
def ms_law_board : MS :=
  (mSeq (mPar [(2, false), (3, false), (4, true)] (mCons (mPrim fAddU (mCons (mC (.int 2)) (mCons (mPrim (fCall [true, false] 2 D_law_take) (mCons (mVar 0) (mCons (mC (.int 7)) mNil))) mNil))) (mCons (mPrim (fCall [true, false] 2 D_law_take) (mCons (mVar 0) (mCons (mC (.int 5)) mNil))) (mCons (mPrim fList mNil) mNil))))
    (mSeq (mFor (tgName 5) (mRng1 (mPrim (fCall [true, false] 2 D_law_take) (mCons (mVar 0) (mCons (mPrim fAddU (mCons (mVar 1) (mCons (mC (.int 1)) mNil))) mNil))))
    (mSeq (mSet 6 false (mPrim fIx (mCons (mPrim fList (mCons (mVar 2) (mCons (mPrim (fPure gMin) (mCons (mVar 2) (mCons (mC (.int 3)) mNil))) (mCons (mVar 2) (mCons (mC (.int 2)) (mCons (mC (.int 2)) mNil)))))) (mCons (mVar 3) mNil))))
    (mSeq (mSet 7 false (mIf (mTr (mPrim fEqU (mCons (mVar 3) (mCons (mC (.int 2)) mNil)))) (mPrim fMod (mCons (mVar 5) (mCons (mPrim fSub (mCons (mVar 2) (mCons (mC (.int 1)) mNil))) mNil))) (mPrim (fCall [true, false] 2 D_law_take) (mCons (mVar 0) (mCons (mVar 6) mNil)))))
    (mSeq (mSet 8 false (mIf (mTr (mPrim fEqU (mCons (mVar 3) (mCons (mC (.int 2)) mNil)))) (mPrim fAddU (mCons (mVar 7) (mCons (mC (.int 1)) mNil))) (mPrim fMod (mCons (mPrim fAddU (mCons (mPrim fAddU (mCons (mVar 7) (mCons (mC (.int 1)) mNil))) (mCons (mPrim (fCall [true, false] 2 D_law_take) (mCons (mVar 0) (mCons (mPrim fSub (mCons (mVar 6) (mCons (mC (.int 1)) mNil))) mNil))) mNil))) (mCons (mVar 6) mNil)))))
    (mApp 4 (mPrim fIx (mCons (mPrim fList (mCons (mPrim fTup (mCons (mVar 7) (mCons (mVar 8) mNil))) (mCons (mPrim fTup (mCons (mVar 8) (mCons (mVar 7) mNil))) mNil))) (mCons (mPrim (fCall [true, false] 2 D_law_take) (mCons (mVar 0) (mCons (mC (.int 2)) mNil))) mNil))))))))
    (mSeq (mSIf (mAnd (mTr (mPrim fEqU (mCons (mVar 3) (mCons (mC (.int 4)) mNil)))) (mTr (mPrim fGt (mCons (mVar 1) (mCons (mC (.int 7)) mNil)))))
    (mSeq (mPar [(2, false), (4, true)] (mCons (mC (.int 4)) (mCons (mPrim fList (mCons (mPrim fTup (mCons (mC (.int 0)) (mCons (mC (.int 1)) mNil))) (mCons (mPrim fTup (mCons (mC (.int 2)) (mCons (mC (.int 3)) mNil))) (mCons (mPrim fTup (mCons (mC (.int 0)) (mCons (mC (.int 3)) mNil))) (mCons (mPrim fTup (mCons (mC (.int 1)) (mCons (mC (.int 2)) mNil))) (mCons (mPrim fTup (mCons (mC (.int 0)) (mCons (mC (.int 1)) mNil))) (mCons (mPrim fTup (mCons (mC (.int 2)) (mCons (mC (.int 3)) mNil))) mNil))))))) mNil)))
    (mSeq (mSet 9 false (mPrim (fCall [true, false] 2 D_law_take) (mCons (mVar 0) (mCons (mC (.int 8)) mNil))))
    (mSeq (mSet 10 false (mPrim fIx (mCons (mPrim fList (mCons (mPrim fTup (mCons (mC (.int 0)) (mCons (mC (.int 1)) mNil))) (mCons (mPrim fTup (mCons (mC (.int 1)) (mCons (mC (.int 0)) mNil))) (mCons (mPrim fTup (mCons (mC (.int 2)) (mCons (mC (.int 3)) mNil))) (mCons (mPrim fTup (mCons (mC (.int 0)) (mCons (mC (.int 3)) mNil))) (mCons (mPrim fTup (mCons (mC (.int 1)) (mCons (mC (.int 3)) mNil))) (mCons (mPrim fTup (mCons (mC (.int 2)) (mCons (mC (.int 0)) mNil))) mNil))))))) (mCons (mPrim (fCall [true, false] 2 D_law_take) (mCons (mVar 0) (mCons (mC (.int 6)) mNil))) mNil))))
    (mSet 4 true (mPrim fAddU (mCons (mPrim fAddU (mCons (mPrim fSlHi (mCons (mVar 4) (mCons (mVar 9) mNil))) (mCons (mPrim fMulU (mCons (mPrim fList (mCons (mVar 10) mNil)) (mCons (mPrim (fCall [true, false] 2 D_law_take) (mCons (mVar 0) (mCons (mC (.int 3)) mNil))) mNil))) mNil))) (mCons (mPrim fSlLo (mCons (mVar 4) (mCons (mVar 9) mNil))) mNil)))))))
    mNext)
    (mRet (mPrim fTup (mCons (mVar 2) (mCons (mVar 4) mNil)))))))
def D_law_board : Den := denOf 9 ms_law_board
theorem sc_law_board : FnScope N_law_board P_law_board (defScope s_law_board) := ⟨rfl, rfl, rfl, by decide +kernel, rfl, by decide +kernel, by decide +kernel⟩
abbrev s_check_board : Stmt := top 18
abbrev N_check_board : List Str := ["value"]
abbrev P_check_board : List Str := ["value"]
def ms_check_board : MS :=
  (mSIf (mNot (mTr (mPrim fIsB (mCons (mVar 0) mNil))))
    mNever
    mNext)
def D_check_board : Den := denOf 0 ms_check_board
theorem sc_check_board : FnScope N_check_board P_check_board (defScope s_check_board) := ⟨rfl, rfl, rfl, by decide +kernel, rfl, by decide +kernel, by decide +kernel⟩
abbrev s_difference : Stmt := top 26
abbrev N_difference : List Str := ["amounts", "other_amounts", "one", "other"]
abbrev P_difference : List Str := ["amounts", "other_amounts"]
def ms_difference : MS :=
  (mRet (mLc (tgTup [2, 3]) [2, 3] (mZip (mCons (mVar 0) (mCons (mVar 1) mNil))) mYes (mPrim fSub (mCons (mVar 2) (mCons (mVar 3) mNil)))))
def D_difference : Den := denOf 2 ms_difference
theorem sc_difference : FnScope N_difference P_difference (defScope s_difference) := ⟨rfl, rfl, rfl, by decide +kernel, rfl, by decide +kernel, by decide +kernel⟩
abbrev s_evened : Stmt := top 25
abbrev N_evened : List Str := ["basis", "odd", "chosen", "found", "row", "amounts", "amount"]
abbrev P_evened : List Str := ["basis", "odd"]
def ms_evened : MS :=
  (mSeq (mSet 2 false (mPrim fIx (mCons (mVar 0) (mCons (mPrim fIx (mCons (mVar 1) (mCons (mC (.int 0)) mNil))) mNil))))
    (mSeq (mSet 3 true (mLc (tgTup [4, 5]) [4, 5] (mEnum (mVar 0)) mYes (mIf (mTr (mPrim (fPure gInU) (mCons (mVar 4) (mCons (mVar 1) mNil)))) (mPrim (fCall [false, false] 2 D_difference) (mCons (mVar 5) (mCons (mVar 2) mNil))) (mVar 5))))
    (mSeq (mSub 3 (mPrim fIx (mCons (mVar 1) (mCons (mC (.int 0)) mNil))) (mLc (tgName 6) [6] (mItL (mVar 2)) mYes (mPrim fMulU (mCons (mC (.int 2)) (mCons (mVar 6) mNil)))))
    (mRet (mVar 3)))))
def D_evened : Den := denOf 5 ms_evened
theorem sc_evened : FnScope N_evened P_evened (defScope s_evened) := ⟨rfl, rfl, rfl, by decide +kernel, rfl, by decide +kernel, by decide +kernel⟩
abbrev s_first_odd : Stmt := top 23
abbrev N_first_odd : List Str := ["gates", "amounts", "passing", "index", "first", "second", "many"]
abbrev P_first_odd : List Str := ["gates", "amounts"]
def ms_first_odd : MS :=
  (mSeq (mSet 2 true (mPrim fToList (mCons (mVar 1) mNil)))
    (mSeq (mFor (tgEn 3 4 5) (mEnum (mVar 0))
    (mSeq (mSet 6 false (mPrim fAddU (mCons (mPrim fIx (mCons (mVar 2) (mCons (mVar 4) mNil))) (mCons (mPrim fIx (mCons (mVar 2) (mCons (mVar 5) mNil))) mNil))))
    (mSeq (mSIf (mTr (mPrim fEqU (mCons (mPrim fMod (mCons (mVar 6) (mCons (mC (.int 2)) mNil))) (mCons (mC (.int 1)) mNil))))
    (mRet (mVar 3))
    mNext)
    (mSeq (mSub 2 (mVar 4) (mPrim fDiv (mCons (mVar 6) (mCons (mC (.int 2)) mNil))))
    (mSub 2 (mVar 5) (mPrim fDiv (mCons (mVar 6) (mCons (mC (.int 2)) mNil))))))))
    (mRet (mC .none))))
def D_first_odd : Den := denOf 5 ms_first_odd
theorem sc_first_odd : FnScope N_first_odd P_first_odd (defScope s_first_odd) := ⟨rfl, rfl, rfl, by decide +kernel, rfl, by decide +kernel, by decide +kernel⟩
abbrev s_free_and_basis : Stmt := top 24
abbrev N_free_and_basis : List Str := ["board", "lane_count", "gates", "basis", "free", "index", "odd", "lane", "row", "amounts"]
abbrev P_free_and_basis : List Str := ["board"]
def ms_free_and_basis : MS :=
  (mSeq (mSet 1 false (mLanes (mVar 0)))
    (mSeq (mSet 2 false (mGateList (mVar 0)))
    (mSeq (mSet 3 false (mLc (tgName 7) [7] (mRng1 (mVar 1)) mYes (mPrim fAddU (mCons (mPrim fAddU (mCons (mPrim fMulU (mCons (mPrim fList (mCons (mC (.int 0)) mNil)) (mCons (mVar 7) mNil))) (mCons (mPrim fList (mCons (mC (.int 1)) mNil)) mNil))) (mCons (mPrim fMulU (mCons (mPrim fList (mCons (mC (.int 0)) mNil)) (mCons (mPrim fSub (mCons (mPrim fSub (mCons (mVar 1) (mCons (mC (.int 1)) mNil))) (mCons (mVar 7) mNil))) mNil))) mNil)))))
    (mSeq (mSet 4 true (mPrim fList mNil))
    (mSeq (mFor (tgName 5) (mRng1 (mPrim fLen (mCons (mVar 2) mNil)))
    (mSeq (mSet 6 false (mLc (tgTup [8, 9]) [8, 9] (mEnum (mVar 3)) (mTr (mPrim fEqU (mCons (mPrim (fCall [false, false] 2 D_first_odd) (mCons (mVar 2) (mCons (mVar 9) mNil))) (mCons (mVar 5) mNil)))) (mVar 8)))
    (mSIf (mTrL (mVar 6))
    (mSeq (mApp 4 (mVar 5))
    (mSet 3 false (mPrim (fCall [false, false] 2 D_evened) (mCons (mVar 3) (mCons (mVar 6) mNil)))))
    mNext)))
    (mRet (mPrim fTup (mCons (mVar 4) (mCons (mVar 3) mNil)))))))))
def D_free_and_basis : Den := denOf 9 ms_free_and_basis
theorem sc_free_and_basis : FnScope N_free_and_basis P_free_and_basis (defScope s_free_and_basis) := ⟨rfl, rfl, rfl, by decide +kernel, rfl, by decide +kernel, by decide +kernel⟩
abbrev s_free_gates : Stmt := top 21
abbrev N_free_gates : List Str := ["board", "free", "_"]
abbrev P_free_gates : List Str := ["board"]
def ms_free_gates : MS :=
  (mSeq (mExpr (mPrim (fCall [false] 1 D_check_board) (mCons (mVar 0) mNil)))
    (mSeq (mUnp (tgTup [1, 2]) (mPrim (fCall [false] 1 D_free_and_basis) (mCons (mVar 0) mNil)))
    (mRet (mVar 1))))
def D_free_gates : Den := denOf 2 ms_free_gates
theorem sc_free_gates : FnScope N_free_gates P_free_gates (defScope s_free_gates) := ⟨rfl, rfl, rfl, by decide +kernel, rfl, by decide +kernel, by decide +kernel⟩
abbrev s_count_reachable : Stmt := top 22
abbrev N_count_reachable : List Str := ["board", "many", "_"]
abbrev P_count_reachable : List Str := ["board"]
def ms_count_reachable : MS :=
  (mSeq (mSet 1 false (mC (.int 1)))
    (mSeq (mFor (tgName 2) (mItL (mPrim (fCall [false] 1 D_free_gates) (mCons (mVar 0) mNil)))
    (mSet 1 false (mPrim fMulU (mCons (mC (.int 2)) (mCons (mVar 1) mNil)))))
    (mRet (mVar 1))))
def D_count_reachable : Den := denOf 2 ms_count_reachable
theorem sc_count_reachable : FnScope N_count_reachable P_count_reachable (defScope s_count_reachable) := ⟨rfl, rfl, rfl, by decide +kernel, rfl, by decide +kernel, by decide +kernel⟩
abbrev s_law_token : Stmt := top 32
abbrev N_law_token : List Str := ["gates", "pointers", "lane", "later", "at", "gate"]
abbrev P_law_token : List Str := ["gates", "pointers", "lane"]
def ms_law_token : MS :=
  (mSeq (mSet 3 true (mPrim fToList (mCons (mVar 1) mNil)))
    (mSeq (mFor (tgTup [4, 5]) (mEnum (mVar 0))
    (mSIf (mOr (mTr (mPrim fEqU (mCons (mVar 2) (mCons (mPrim fIx (mCons (mVar 5) (mCons (mC (.int 0)) mNil))) mNil)))) (mTr (mPrim fEqU (mCons (mVar 2) (mCons (mPrim fIx (mCons (mVar 5) (mCons (mC (.int 1)) mNil))) mNil)))))
    (mSeq (mSet 2 false (mPrim fIx (mCons (mVar 5) (mCons (mPrim fIx (mCons (mVar 3) (mCons (mVar 4) mNil))) mNil))))
    (mSub 3 (mVar 4) (mPrim fSub (mCons (mC (.int 1)) (mCons (mPrim fIx (mCons (mVar 3) (mCons (mVar 4) mNil))) mNil)))))
    mNext))
    (mRet (mPrim fTup (mCons (mVar 2) (mCons (mVar 3) mNil))))))
def D_law_token : Den := denOf 3 ms_law_token
theorem sc_law_token : FnScope N_law_token P_law_token (defScope s_law_token) := ⟨rfl, rfl, rfl, by decide +kernel, rfl, by decide +kernel, by decide +kernel⟩
abbrev s_law_found : Stmt := top 33
abbrev N_law_found : List Str := ["lanes", "gates", "begun", "known", "waiting", "here", "lane", "later", "one"]
abbrev P_law_found : List Str := ["lanes", "gates", "begun"]
def ms_law_found : MS :=
  (mSeq (mPar [(3, true), (4, true)] (mCons (mPrim (fDispG true) (mCons (mPrim fToTup (mCons (mVar 2) mNil)) (mCons (mC (.bool true)) mNil))) (mCons (mPrim fList (mCons (mVar 2) mNil)) mNil)))
    (mSeq (mWhile (mTr (mPrim (fPure gNe) (mCons (mVar 4) (mCons (mPrim fList mNil) mNil))))
    (mSeq (mSet 5 false (mPopL 4))
    (mFor (tgName 6) (mRng1 (mVar 0))
    (mSeq (mSet 7 false (mPrim fIx (mCons (mPrim (fCall [false, false, false] 3 D_law_token) (mCons (mVar 1) (mCons (mVar 5) (mCons (mVar 6) mNil)))) (mCons (mC (.int 1)) mNil))))
    (mSIf (mTr (mPrim (fPure (gInG true)) (mCons (mPrim fToTup (mCons (mVar 7) mNil)) (mCons (mVar 3) mNil))))
    (mSeq (mGSub 3 (mPrim fToTup (mCons (mVar 7) mNil)) (mC (.bool true)))
    (mApp 4 (mVar 7)))
    mNext)))) 1000000)
    (mRet (mLc (tgName 8) [8] (mItL (mPrim fSortKT (mCons (mVar 3) mNil))) mYes (mPrim fToList (mCons (mVar 8) mNil))))))
def D_law_found : Den := denOf 6 ms_law_found
theorem sc_law_found : FnScope N_law_found P_law_found (defScope s_law_found) := ⟨rfl, rfl, rfl, by decide +kernel, rfl, by decide +kernel, by decide +kernel⟩
abbrev s_law_start : Stmt := top 31
abbrev N_law_start : List Str := ["pot", "gates", "gate"]
abbrev P_law_start : List Str := ["pot", "gates"]
def ms_law_start : MS :=
  (mRet (mLc (tgName 2) [2] (mItL (mVar 1)) mYes (mPrim (fCall [true, false] 2 D_law_take) (mCons (mVar 0) (mCons (mC (.int 2)) mNil)))))
def D_law_start : Den := denOf 1 ms_law_start
theorem sc_law_start : FnScope N_law_start P_law_start (defScope s_law_start) := ⟨rfl, rfl, rfl, by decide +kernel, rfl, by decide +kernel, by decide +kernel⟩
abbrev s_law : Stmt := top 34
abbrev N_law : List Str := ["script", "k", "pot", "turn", "lanes", "gates", "board", "sizes", "at", "free"]
abbrev P_law : List Str := ["script"]
def ms_law : MS :=
  (mSeq (mFor (tgName 1) (mRng1 (mPrim (fPure gMax) (mCons (mC (.int 1)) (mCons (mPrim (fPure gMin) (mCons (mC (.int 3)) (mCons (mPrim fLenS (mCons (mVar 0) mNil)) mNil))) mNil))))
    (mSeq (mSet 2 true (mPrim (fCall [false, false] 2 D_law_pot) (mCons (mVar 0) (mCons (mVar 1) mNil))))
    (mFor (tgName 3) (mRng1 (mC (.int 3)))
    (mSeq (mUnp (tgTup [4, 5]) (mPrim (fCall [true, false] 2 D_law_board) (mCons (mVar 2) (mCons (mC (.int 8)) mNil))))
    (mSeq (mPar [(6, false), (7, true)] (mCons (mPrim fBoard (mCons (mVar 4) (mCons (mVar 5) mNil))) (mCons (mPrim fList mNil) mNil)))
    (mSeq (mFor (tgName 8) (mRng1 (mPrim fAddU (mCons (mPrim fLen (mCons (mVar 5) mNil)) (mCons (mC (.int 1)) mNil))))
    (mApp 7 (mPrim fLen (mCons (mPrim (fCall [false, false, false] 3 D_law_found) (mCons (mVar 4) (mCons (mPrim fSlHi (mCons (mVar 5) (mCons (mVar 8) mNil))) (mCons (mPrim fMulU (mCons (mPrim fList (mCons (mC (.int 0)) mNil)) (mCons (mVar 8) mNil))) mNil)))) mNil))))
    (mSeq (mSet 9 false (mLc (tgName 8) [8] (mRng1 (mPrim fLen (mCons (mVar 5) mNil))) (mTr (mPrim fEqU (mCons (mPrim fIx (mCons (mVar 7) (mCons (mPrim fAddU (mCons (mVar 8) (mCons (mC (.int 1)) mNil))) mNil))) (mCons (mPrim fMulU (mCons (mC (.int 2)) (mCons (mPrim fIx (mCons (mVar 7) (mCons (mVar 8) mNil))) mNil))) mNil)))) (mVar 8)))
    (mSeq (mSIf (mTr (mPrim (fPure gNe) (mCons (mPrim (fRepr true) (mCons (mPrim fList (mCons (mPrim (fCall [false] 1 D_free_gates) (mCons (mVar 6) mNil)) (mCons (mPrim (fCall [false] 1 D_count_reachable) (mCons (mVar 6) mNil)) mNil))) mNil)) (mCons (mPrim (fRepr true) (mCons (mPrim fList (mCons (mVar 9) (mCons (mPrim fIx (mCons (mVar 7) (mCons (mPrim fNeg (mCons (mC (.int 1)) mNil)) mNil))) mNil))) mNil)) mNil))))
    (mRet (mC (.bool false)))
    mNext)
    (mSIf (mTr (mPrim (fPure gNe) (mCons (mPrim fLen (mCons (mPrim (fCall [false, false, false] 3 D_law_found) (mCons (mVar 4) (mCons (mVar 5) (mCons (mPrim (fCall [true, false] 2 D_law_start) (mCons (mVar 2) (mCons (mVar 5) mNil))) mNil)))) mNil)) (mCons (mPrim fIx (mCons (mVar 7) (mCons (mPrim fNeg (mCons (mC (.int 1)) mNil)) mNil))) mNil))))
    (mRet (mC (.bool false)))
    mNext)))))))))
    (mRet (mOf (mAnd (mTr (mPrim fEqU (mCons (mPrim (fCall [false] 1 D_count_reachable) (mCons (mPrim fBoard (mCons (mC (.int 2)) (mCons (mPrim fList mNil) mNil))) mNil)) (mCons (mC (.int 1)) mNil)))) (mTr (mPrim fEqU (mCons (mPrim (fCall [false] 1 D_free_gates) (mCons (mPrim fBoard (mCons (mC (.int 8)) (mCons (mPrim fList mNil) mNil))) mNil)) (mCons (mPrim fList mNil) mNil))))))))
def D_law : Den := denOf 9 ms_law
theorem sc_law : FnScope N_law P_law (defScope s_law) := ⟨rfl, rfl, rfl, by decide +kernel, rfl, by decide +kernel, by decide +kernel⟩
structure Txt (K : PySem.W.Frag) (mg : Str → Option Value) (B : Addr) : Prop where
  bc : BoardCls K B
  mgB : mg "Board" = some (.ref B)
  nL : NoAttr K B "_lanes"
  nG : NoAttr K B "_gates"
  bi : ∃ (f : Addr) (fd : FuncData), Fun K "__init__" "Board.__init__" s_bi f fd ∧ Mk K B f ∧ Binds K fd P_bi []
  bl : ∃ (f : Addr) (fd : FuncData), Fun K "__len__" "Board.__len__" s_bl f fd ∧ Binds K fd ["self"] [] ∧ PySem.W.findIn K (.ref B) "__len__" = some (some (.ref f)) ∧ PySem.W.isFn K (.ref f) = true
  len : mg "len" = none
  range : mg "range" = none
  repr : mg "repr" = none
  isinstance : mg "isinstance" = none
  int : mg "int" = none
  bool : mg "bool" = none
  list : mg "list" = none
  tuple : mg "tuple" = none
  min : mg "min" = none
  max : mg "max" = none
  all : mg "all" = none
  enumerate : mg "enumerate" = none
  zip : mg "zip" = none
  sorted : mg "sorted" = none
  c_MAX_GATES : ∃ u, mg "MAX_GATES" = some u ∧ RelV (.int 24) u
  c_MAX_LANES : ∃ u, mg "MAX_LANES" = some u ∧ RelV (.int 8) u
  pLanes : ∃ (p g : Addr) (fd : FuncData), PropOf K B "lane_count" p g ∧ Fun K "lane_count" "Board.lane_count" s_lane_count g fd ∧ Binds K fd ["self"] []
  pGates : ∃ (p g : Addr) (fd : FuncData), PropOf K B "gate_list" p g ∧ Fun K "gate_list" "Board.gate_list" s_gate_list g fd ∧ Binds K fd ["self"] []
  d_is_whole : Df K mg "is_whole" s_is_whole P_is_whole
  d_is_between : Df K mg "is_between" s_is_between P_is_between
  d_is_lane_pair : Df K mg "is_lane_pair" s_is_lane_pair P_is_lane_pair
  d_is_gate : Df K mg "is_gate" s_is_gate P_is_gate
  d_law_pot : Df K mg "_law_pot" s_law_pot P_law_pot
  d_law_take : Df K mg "_law_take" s_law_take P_law_take
  d_law_board : Df K mg "_law_board" s_law_board P_law_board
  d_check_board : Df K mg "check_board" s_check_board P_check_board
  d_difference : Df K mg "difference" s_difference P_difference
  d_evened : Df K mg "evened" s_evened P_evened
  d_first_odd : Df K mg "first_odd" s_first_odd P_first_odd
  d_free_and_basis : Df K mg "free_and_basis" s_free_and_basis P_free_and_basis
  d_free_gates : Df K mg "free_gates" s_free_gates P_free_gates
  d_count_reachable : Df K mg "count_reachable" s_count_reachable P_count_reachable
  d_law_token : Df K mg "_law_token" s_law_token P_law_token
  d_law_found : Df K mg "_law_found" s_law_found P_law_found
  d_law_start : Df K mg "_law_start" s_law_start P_law_start
end Law
set_option maxHeartbeats 0
namespace Law
open PySem PySem.Spec PyProof.Rows L2 Mx
open L2 (Inv)
local macro_rules
  | `(tactic| and_intros) => `(tactic| (repeat (first | with_reducible refine onW ?_ | with_reducible refine onNx ?_ | with_reducible refine onRt ?_ | with_reducible refine onBk ?_ | with_reducible refine onBt ?_ | with_reducible refine onBf ?_ | with_reducible refine onBnt ?_ | with_reducible refine onBnf ?_ | with_reducible refine onBnd ?_ | with_reducible refine onBna ?_ | with_reducible refine onBd ?_ | with_reducible refine onBa ?_ | with_reducible refine onT ?_ | with_reducible refine onF ?_ | with_reducible refine onIteN ?_ | with_reducible refine onWst ?_ | ((with_reducible show (List.Nodup _ ∧ _) ∧ _); refine ⟨⟨by (first | decide | (simp only [Mx.inS, List.cons_append, List.nil_append, List.nodup_cons, List.nodup_nil, List.mem_cons, List.not_mem_nil, or_false, not_false_eq_true, and_self] <;> decide) | simp [Mx.inS]), rfl⟩, ?_⟩) | ((with_reducible show _ ∧ W _ _); refine ⟨by (first | with_reducible assumption | exact Mx.rep_ok (by omega) (by omega) (by omega) | omega | rfl | decide), ?_⟩) | ((with_reducible show Option.isSome _ = true ∧ _); refine ⟨rfl, ?_⟩) | ((with_reducible show noSlot _ = true ∧ _); refine ⟨rfl, ?_⟩) | (((with_reducible show Mx.W _ _); simp only [↓Mx.W_bind, ↓Mx.W_map, ↓Mx.W_mSeq, ↓Mx.W_mNext, ↓Mx.W_mNever, ↓Mx.W_mSIf, ↓Mx.W_mRet, ↓Mx.W_mSet, ↓Mx.W_mPar, ↓Mx.W_mUnp, ↓Mx.W_mExpr, ↓Mx.W_mFor, ↓Mx.W_mPrim, ↓Mx.W_mNil, ↓Mx.W_mCons, ↓Mx.W_mC, ↓Mx.W_mTr, ↓Mx.W_mNot, ↓Mx.W_mAnd, ↓Mx.W_mOr, ↓Mx.W_mOf, ↓Mx.W_mIf, ↓Mx.W_mChain, ↓Mx.W_mSub, ↓Mx.W_mAugS, ↓Mx.W_mExt, ↓Mx.W_mPop, ↓Mx.W_mLst, ↓Mx.W_mApp, ↓Mx.W_mLc, ↓Mx.W_denOf, ↓Mx.W_fCall, ↓Mx.W_fPure, ↓Mx.W_mLanes, ↓Mx.W_mGates, ↓Mx.W_mGateList, ↓Mx.W_mZip, ↓Mx.W_mEnum, ↓Mx.W_mItL, ↓Mx.W_mItT, ↓Mx.W_mPropF, ↓Mx.W_mBrd, ↓Mx.W_mDSub, ↓Mx.W_mVals, ↓Mx.W_mBrds, ↓Mx.W_mCallN, ↓Mx.W_mTrL, ↓Mx.W_mAppN, ↓Mx.W_mEZ, ↓Mx.W_mRevI, ↓Mx.W_mGSub, ↓Mx.W_mParS, ↓Mx.W_mPopL, ↓Mx.W_mSt, ↓Mx.W_mDct, ↓Mx.W_mRng1, ↓Mx.W_mRevR, ↓Mx.W_mSl2, ↓Mx.W_fCallD, ↓Mx.W_fFull])) | (((with_reducible show W _ _); (fail_if_success with_reducible show W (mComp _ _ _ _ _ _ _) _); (fail_if_success with_reducible show W (mLoop _ _ _ _) _); with_reducible refine leafI (by ((simp only [Mx.st_eq, Mx.mVar, Mx.pks, Mx.peek, Mx.sPeek, Mx.toDat, Mx.toDats, Mx.sDat, Mx.norms, Mx.norm1, Mx.nS, Mx.setAll, Mx.slotOf, Mx.ret1, Mx.rS, Mx.resP, Mx.ownL, Mx.gInt, Mx.gBool, Mx.gSeq, Mx.gList, Mx.gI0, Mx.gI2, Mx.scV, Option.isSome, Mx.argsOf, Mx.argOf, Mx.aSlot, Mx.frzs, Mx.frz1, Mx.frzS, Mx.inS, Mx.back, Mx.putS, Mx.noSlot, Mx.fMulU_eq, Mx.fAddU_eq, Mx.fEqU_eq, Mx.fRepr, Mx.fJoin, Mx.fAdd, Mx.fSub, Mx.fMul, Mx.fMod, Mx.fDiv, Mx.fPow, Mx.fLt, Mx.fLe, Mx.fGt, Mx.fGe, Mx.fIx, Mx.fList, Mx.fTup, Mx.fCat, Mx.fRep, Mx.fLen, Mx.gLen, Mx.gEq, Mx.gNe, Mx.gMax, Mx.gMin, Mx.gIsB, Mx.gIsi_int, Mx.gIsi_bool, Mx.gIsi_list, Mx.gIsi_tuple, Mx.gIsi_str, Mx.isInt, Mx.isBool, Mx.isList, Mx.isTuple, Mx.isStr, Mx.fLenS, Mx.fIxS, Mx.scrOf, Mx.fLenB, Mx.fIsB, Mx.fBoard, Mx.brdOf, Mx.brdS, Mx.fToList, Mx.fToTup, Mx.fRev, Mx.fRevT, Mx.fSlLo, Mx.fSlHi, Mx.tgName, Mx.tgTup, Mx.tsOf, Mx.putT, Mx.mYes, Mx.mDict0, Mx.mItL, Mx.mItT, Mx.fEqB, Mx.fDisp1, Mx.fVals, Mx.fIxB, Mx.brdsOf, Mx.brdsS, Mx.ixB, Mx.two2, Mx.ownD, Mx.isDd, Mx.iiOf_D, Mx.mEnum, Mx.mRng1, Mx.mRng2, Mx.gRng1, Mx.wipeE, Mx.atI_c0, Mx.atI_c1, Mx.atI_c2, Mx.atI_c3, Mx.atI_c4, Mx.ixN_3_0, Mx.ixN_3_1, Mx.ixN_3_2, Mx.fNeg, Mx.gNeg, Mx.gIsN, Mx.gNotN, Mx.gNotB, Mx.gTruL, Mx.newL, Mx.fOwn, Mx.argD, Mx.fIsBX, Mx.isBX, Mx.isNone, Mx.kdOf_pair, Mx.kdOf_int, Mx.kdOf_str, Mx.kdOf_ints, Mx.fGetG, Mx.fDispG, Mx.dictOf, Mx.ownD, Mx.opd2, Mx.fSum, Mx.putE, Mx.tgEn, Mx.gIntB, Mx.fLRng, Mx.fShr, Mx.gAnd1, Mx.fSorted, Mx.gList1, Mx.gAbs, Mx.isLd, Option.bind_some, Option.bind_none, Option.map_some, Option.map_none, List.length_append, List.getElem?_cons_zero, List.getElem?_cons_succ, List.set_cons_zero, List.set_cons_succ, List.map_cons, List.map_nil, List.cons_append, List.nil_append, List.replicate_succ, List.replicate_zero, List.length_cons, List.length_nil, List.length_set, List.nodup_cons, List.nodup_nil, List.mem_cons, List.not_mem_nil, List.mem_singleton, Bool.not_true, Bool.not_false, Bool.false_eq_true, if_true, if_false, ↓reduceIte, not_false_eq_true, not_true_eq_false, and_true, true_and, and_self, Nat.reduceAdd, Nat.reduceLT, Nat.reduceLeDiff, Nat.reduceEqDiff, Nat.zero_add, or_self, or_false, false_or, decide_true, decide_false, String.reduceEq, reduceCtorEq, Mx.eqv_int, eq_self, Int.reduceEq, Int.reduceLE, Int.reduceLT, Int.reduceToNat, Int.reduceNeg, Int.reduceAdd, Int.reduceMul, Int.reducePow, Int.reduceSub, Nat.reduceSub, Nat.add_eq_zero_iff, Int.natCast_zero, Int.natCast_add, Int.cast_ofNat_Int, Int.toNat_zero, Int.zero_add]; exact rfl))) ?_)))))
/-- a pot: what is left, what is mixed, how often -/
def Tr (N : Nat) (d : D) : Prop := ∃ a b c : Int, d = .list [.int a, .int b, .int c] ∧ 0 ≤ a ∧ 0 ≤ b ∧ b < 2 ^ 150 ∧ 0 ≤ c ∧ c ≤ N
theorem Tr.mono {N M : Nat} {d : D} (h : Tr N d) (k : N ≤ M) : Tr M d := let ⟨a, b, c, e, h1, h2, h3, h4, h5⟩ := h; ⟨a, b, c, e, h1, h2, h3, h4, by omega⟩
theorem take_w {N : Nat} {t : D} {m : Int} {Y : Opd × List Mx.Slot → Prop} (h : Tr N t) (hN : N ≤ 1000000) (hm : 0 < m) (hm2 : m < 1298074214633706907132624082305024)
    (k : ∀ (r : Int) (t' : D), 0 ≤ r → r < m → Tr (N + 1) t' → Y (.dat (.int r), [.own false t', .dat (.int m)])) : Mx.W (D_law_take [.own false t, .dat (.int m)]) Y := by
  obtain ⟨a, b, c, rfl, h1, h2, h3, h4, h5⟩ := h
  have hml := lg (k := 110) (i := m) (by decide) (by omega) (by omega)
  have kl : (8944394323791464 : Int).natAbs.log2 < 60 := lg (by decide) (by decide) (by decide)
  have kl2 : (14472334024676221 : Int).natAbs.log2 < 60 := lg (by decide) (by decide) (by decide)
  have kl3 : (1000003 : Int).natAbs.log2 < 40 := lg (by decide) (by decide) (by decide)
  have kl4 : (10 : Int).natAbs.log2 < 40 := lg (by decide) (by decide) (by decide)
  have hc := lg (k := 40) (i := c + 1) (by decide) (by omega) (by omega)
  have hb := lg (k := 200) (i := b + 8944394323791464 * (c + 1)) (by decide) (by omega) (by omega)
  unfold D_law_take ms_law_take
  and_intros
  split
  · and_intros
    exact k _ _ (Int.emod_nonneg _ (by omega)) (Int.emod_lt_of_pos _ hm) ⟨a / m, b, c, rfl, Int.ediv_nonneg h1 (by omega), h2, h3, h4, by omega⟩
  · and_intros
    have e0 := Int.emod_nonneg ((b + 8944394323791464 * (c + 1)) ^ 3) (show (100000000000000000000000000000000000000037 : Int) ≠ 0 by decide)
    have e1 := Int.emod_lt_of_pos ((b + 8944394323791464 * (c + 1)) ^ 3) (show (0 : Int) < 100000000000000000000000000000000000000037 by decide)
    generalize (b + 8944394323791464 * (c + 1)) ^ 3 % 100000000000000000000000000000000000000037 = x at e0 e1 ⊢
    have hx := lg (k := 160) (i := x + 14472334024676221 * (c + 1)) (by decide) (by omega) (by omega)
    and_intros
    exact k _ _ (Int.emod_nonneg _ (by omega)) (Int.emod_lt_of_pos _ hm) ⟨a, b, c + 1, rfl, h1, h2, h3, by omega, by omega⟩
theorem pot_w {ns : List Int} {c : Int} {Y : Opd × List Mx.Slot → Prop} (h0 : 0 ≤ c) (h1 : c < 100) (k : ∀ t, Tr 0 t → Y (.new t, [.scr ns, .dat (.int c)])) : Mx.W (D_law_pot [.scr ns, .dat (.int c)]) Y := by
  have l2 : (999181 : Int).natAbs.log2 < 40 := lg (by decide) (by decide) (by decide)
  have l3 := lg (k := 10) (i := c) (by decide) (by omega) (by omega)
  have l4 : (10 : Int).natAbs.log2 < 40 := lg (by decide) (by decide) (by decide)
  have go : ∀ v : Int, Tr 0 (.list [.int (if v - 1000000000000000000 > 0 then v - 1000000000000000000 else 0), .int (v % 100000000000000000000000000000000000133 + 999181 * c), .int 0]) := fun v => by
    have e0 := Int.emod_nonneg v (show (100000000000000000000000000000000000133 : Int) ≠ 0 by decide)
    have e1 := Int.emod_lt_of_pos v (show (0 : Int) < 100000000000000000000000000000000000133 by decide)
    refine ⟨_, _, _, rfl, ?_, by omega, by omega, by omega, by omega⟩
    split <;> omega
  unfold D_law_pot ms_law_pot
  and_intros
  split
  · rename_i h
    obtain ⟨v, e, _⟩ := atI_some h0 h
    and_intros
    refine W_of e ?_
    and_intros
    exact k _ (go v)
  · and_intros
    exact k _ (go 0)
def isB (lo hi : Int) : D → Bool
  | .int a => decide (lo ≤ a) && decide (a ≤ hi)
  | _ => false
def isW : D → Bool
  | .int _ => true
  | _ => false
theorem is_whole_w {d : D} {Y : Opd × List Mx.Slot → Prop} (k : Y (.dat (.bool (isW d)), [.dat d])) : Mx.W (D_is_whole [.dat d]) Y := by
  unfold D_is_whole ms_is_whole
  cases d with
  | int a => and_intros; exact k
  | none => and_intros; exact k
  | bool b => and_intros; exact k
  | str s => and_intros; exact k
  | list l => and_intros; exact k
  | tuple l => and_intros; exact k
  | dict l => and_intros; exact k
theorem is_between_w {d : D} {lo hi : Int} {Y : Opd × List Mx.Slot → Prop} (k : Y (.dat (.bool (isB lo hi d)), [.dat d, .dat (.int lo), .dat (.int hi)])) : Mx.W (D_is_between [.dat d, .dat (.int lo), .dat (.int hi)]) Y := by
  unfold D_is_between ms_is_between
  and_intros
  refine is_whole_w ?_
  cases d with
  | int a =>
    simp only [isW]
    and_intros
    split
    · rename_i h
      have e : isB lo hi (.int a) = decide (a ≤ hi) := by simp [isB, h]
      rw [e] at k
      and_intros
      exact k
    · rename_i h
      have e : isB lo hi (.int a) = false := by simp [isB, h]
      rw [e] at k
      and_intros
      exact k
  | none => simp only [isW]; and_intros; exact k
  | bool b => simp only [isW]; and_intros; exact k
  | str s => simp only [isW]; and_intros; exact k
  | list l => simp only [isW]; and_intros; exact k
  | tuple l => simp only [isW]; and_intros; exact k
  | dict l => simp only [isW]; and_intros; exact k
theorem is_lane_pair_w {i j n : Int} {Y : Opd × List Mx.Slot → Prop} (h1 : 0 ≤ i) (h2 : i < n) (h3 : 0 ≤ j) (h4 : j < n) (k : Y (.dat (.bool true), [.dat (.tuple [.int i, .int j]), .dat (.int n)])) : Mx.W (D_is_lane_pair [.dat (.tuple [.int i, .int j]), .dat (.int n)]) Y := by
  have b1 : isB 0 (n - 1) (.int i) = true := by simp [isB]; omega
  have b2 : isB 0 (n - 1) (.int j) = true := by simp [isB]; omega
  unfold D_is_lane_pair ms_is_lane_pair
  and_intros
  refine comp_map (g := fun _ => .bool true) (show 2 < 16777216 by decide) (fun d m => ?_) ?_
  · have m' : d = .int i ∨ d = .int j := by simpa using m
    rcases m' with rfl | rfl
    · and_intros
      refine is_between_w ?_
      rw [b1]
      and_intros
      exact ⟨rfl, rfl⟩
    · and_intros
      refine is_between_w ?_
      rw [b2]
      and_intros
      exact ⟨rfl, rfl⟩
  · and_intros
    refine W_of (show gAll [.list (List.map (fun _ => PyData.bool true) [PyData.int i, PyData.int j])] = some (.bool true) from rfl) ?_
    and_intros
    exact k
theorem is_gate_w {d : D} {n : Int} {Y : Opd × List Mx.Slot → Prop} (h : okGate n d = true) (k : Y (.dat (.bool true), [.dat d, .dat (.int n)])) : Mx.W (D_is_gate [.dat d, .dat (.int n)]) Y := by
  unfold okGate at h
  split at h
  · rename_i i j
    have h' := of_decide_eq_true h
    obtain ⟨h1, h2, h3, h4, h5⟩ := h'
    have b1 : isB 0 (n - 1) (.int i) = true := by simp [isB]; omega
    have b2 : isB 0 (n - 1) (.int j) = true := by simp [isB]; omega
    unfold D_is_gate ms_is_gate
    and_intros
    refine is_lane_pair_w h1 h2 h3 h4 ?_
    and_intros
    rw [decide_eq_false h5]
    exact k
  · cases h
theorem check_board_w {n : Int} {gs : List D} {Y : Opd × List Mx.Slot → Prop} (k : Y (.dat .none, [.brd n gs])) : Mx.W (D_check_board [.brd n gs]) Y := by
  unfold D_check_board ms_check_board
  and_intros
  exact k
theorem of_W {α : Type} {x : Option α} {y : α} (h : Mx.W x fun a => a = y) : x = some y := by
  obtain ⟨a, e, rfl⟩ := h
  exact e
theorem biOk : BiOk := by
  intro x n gs h
  unfold okBoard at h
  rw [Bool.and_eq_true] at h
  obtain ⟨h1, h2⟩ := h
  have h1' := of_decide_eq_true h1
  obtain ⟨h3, h4, h5⟩ := h1'
  have b1 : isB 2 8 (.int n) = true := by simp [isB]; omega
  refine ⟨of_W ?_, of_W ?_, ?_⟩
  · unfold m_bi1 biEnv
    and_intros
    refine is_between_w ?_
    rw [b1]
    and_intros
    rfl
  · unfold m_bi2 biEnv
    and_intros
    rfl
  · have go : Mx.W (m_bi3 (biEnv x n gs none none)) fun p => ∃ a b, p = (.nx, biEnv x n gs a b) := by
      unfold m_bi3
      unfold biEnv
      and_intros
      refine W_mLoop (fun i e => ∃ a b, e = biEnv x n gs a b) ⟨none, none, rfl⟩ ?_ ?_
      · rintro i d e hd ⟨a, b, rfl⟩
        unfold enumD at hd
        rw [List.getElem?_mapIdx] at hd
        cases q : gs[i]? with
        | none => rw [q] at hd; cases hd
        | some g =>
          rw [q] at hd
          cases hd
          obtain ⟨hi, hg⟩ := List.getElem?_eq_some_iff.mp q
          have ok : okGate n g = true := List.all_eq_true.mp h2 g (by rw [← hg]; exact List.getElem_mem hi)
          have ne : ¬ (i : Int) = 24 := by omega
          unfold biEnv
          and_intros
          refine (if_neg ne).mpr ?_
          and_intros
          refine is_gate_w ok ?_
          and_intros
          exact ⟨_, _, rfl⟩
      · rintro e ⟨a, b, rfl⟩
        exact ⟨a, b, rfl⟩
    obtain ⟨p, e, a, b, rfl⟩ := go
    exact ⟨a, b, e⟩
/-! gates and pointers as numbers -/
theorem gates_of {n : Int} (hn : 0 ≤ n) : ∀ {gs : List D}, gs.all (okGate n) = true → ∃ G : List (Nat × Nat), gs = G.map gD ∧ Tk.GsOk n.toNat G
  | [], _ => ⟨[], rfl, fun _ m => by cases m⟩
  | d :: gs, h => by
    rw [List.all_cons, Bool.and_eq_true] at h
    obtain ⟨G, rfl, hG⟩ := gates_of hn h.2
    have h1 := h.1
    unfold okGate at h1
    split at h1
    · rename_i i j
      obtain ⟨a, b, c, d, e⟩ := of_decide_eq_true h1
      refine ⟨(i.toNat, j.toNat) :: G, ?_, fun g m => ?_⟩
      · rw [List.map_cons]
        unfold gD
        simp only
        rw [Int.toNat_of_nonneg a, Int.toNat_of_nonneg c]
      · rcases List.mem_cons.mp m with rfl | m
        · refine ⟨?_, ?_, ?_⟩ <;> simp only <;> omega
        · exact hG g m
    · cases h1
theorem gates_ok {n : Nat} : ∀ {G : List (Nat × Nat)}, Tk.GsOk n G → (G.map gD).all (okGate n) = true
  | [], _ => rfl
  | g :: G, h => by
    rw [List.map_cons, List.all_cons, gates_ok h.tail, Bool.and_true]
    obtain ⟨a, b, c⟩ := h.head
    exact decide_eq_true ⟨by omega, by omega, by omega, by omega, by omega⟩
theorem board_ok {n : Nat} {G : List (Nat × Nat)} (h : Tk.GsOk n G) (n1 : 2 ≤ n) (n2 : n ≤ 8) (hl : G.length ≤ 24) : okBoard n (G.map gD) = true := by
  unfold okBoard
  rw [gates_ok h, Bool.and_true]
  exact decide_eq_true ⟨by omega, by omega, by rw [List.length_map]; exact hl⟩
def bits (ds : List D) : Prop := ∀ d ∈ ds, d = .int 0 ∨ d = .int 1
theorem bits_of : ∀ {ds : List D}, bits ds → ∃ ps : List Int, ds = ps.map PyData.int ∧ Tk.bits ps
  | [], _ => ⟨[], rfl, fun _ m => by cases m⟩
  | d :: ds, h => by
    obtain ⟨ps, rfl, hp⟩ := bits_of (ds := ds) fun x m => h x (List.mem_cons_of_mem _ m)
    rcases h d (List.mem_cons_self ..) with rfl | rfl
    · exact ⟨0 :: ps, rfl, fun q m => (List.mem_cons.mp m).elim (fun z => .inl z) (hp q)⟩
    · exact ⟨1 :: ps, rfl, fun q m => (List.mem_cons.mp m).elim (fun z => .inr z) (hp q)⟩
theorem rep_one {x : D} : ∀ {n : Nat}, (List.replicate n [x]).flatten = List.replicate n x
  | 0 => rfl
  | n + 1 => by
    rw [List.replicate_succ, List.flatten_cons, rep_one, List.replicate_succ]
    rfl
theorem zeros_iL {n : Nat} : PyData.list (List.replicate n (.int 0)) = iL (Tk.zeros n) := by
  unfold iL Tk.zeros
  rw [List.map_replicate]

theorem range_at {n i : Nat} {d : D} (h : ((List.range n).map fun (i : Nat) => PyData.int (i : Int))[i]? = some d) : i < n ∧ d = .int i := by
  have hi := (List.getElem?_eq_some_iff.mp h).1
  rw [List.length_map, List.length_range] at hi
  rw [List.getElem?_map, List.getElem?_range hi] at h
  cases h
  exact ⟨hi, rfl⟩
theorem gate_ok {n a f : Int} (h1 : 2 ≤ n) (h2 : n ≤ 8) (a0 : 0 ≤ a) (a1 : a < n) (f0 : 1 ≤ f) (f1 : f < n) : 0 ≤ (a + f) % n ∧ (a + f) % n < n ∧ a ≠ (a + f) % n := by
  rcases (by omega : n = 2 ∨ n = 3 ∨ n = 4 ∨ n = 5 ∨ n = 6 ∨ n = 7 ∨ n = 8) with rfl | rfl | rfl | rfl | rfl | rfl | rfl <;> omega
theorem gate_of {one other : Int} {n : Nat} (a0 : 0 ≤ one) (a1 : one < n) (b0 : 0 ≤ other) (b1 : other < n) (ne : one ≠ other) : ∃ g : Nat × Nat, PyData.tuple [.int one, .int other] = gD g ∧ g.1 < n ∧ g.2 < n ∧ g.1 ≠ g.2 := by
  refine ⟨(one.toNat, other.toNat), ?_, ?_, ?_, ?_⟩
  · unfold gD
    simp only
    rw [Int.toNat_of_nonneg a0, Int.toNat_of_nonneg b0]
  all_goals simp only; omega
theorem cutD_mem {xs : List D} {lo hi : Option Int} {x : D} (h : x ∈ Mx.cutD xs lo hi) : x ∈ xs := by
  unfold Mx.cutD at h
  exact List.mem_of_mem_drop (List.mem_of_mem_take h)
theorem cutD_len (xs : List D) (lo hi : Option Int) : (Mx.cutD xs lo hi).length ≤ xs.length := by
  unfold Mx.cutD
  rw [List.length_take, List.length_drop]
  omega
theorem rep_mem {x y : D} {k : Nat} (h : y ∈ (List.replicate k [x]).flatten) : y = x := by
  rw [rep_one] at h
  exact List.eq_of_mem_replicate h
theorem all_gates {n : Nat} {ds : List D} (h : ∀ d ∈ ds, ∃ g : Nat × Nat, d = gD g ∧ g.1 < n ∧ g.2 < n ∧ g.1 ≠ g.2) : ∃ G : List (Nat × Nat), ds = G.map gD ∧ Tk.GsOk n G := by
  induction ds with
  | nil => exact ⟨[], rfl, fun _ m => by cases m⟩
  | cons d ds ih =>
    obtain ⟨G, rfl, hG⟩ := ih fun x m => h x (List.mem_cons_of_mem _ m)
    obtain ⟨g, rfl, hg⟩ := h d (List.mem_cons_self ..)
    exact ⟨g :: G, rfl, fun q m => (List.mem_cons.mp m).elim (fun z => by rw [z]; exact hg) (hG q)⟩
theorem atI_mem {xs : List D} {i : Int} {v : D} (h : atI xs i = some v) : v ∈ xs := by
  unfold atI at h
  cases q : ixN xs.length i with
  | none => rw [q] at h; cases h
  | some j => rw [q] at h; exact List.mem_of_getElem? h
def sixD : List D := [.tuple [.int 0, .int 1], .tuple [.int 2, .int 3], .tuple [.int 0, .int 3], .tuple [.int 1, .int 2], .tuple [.int 0, .int 1], .tuple [.int 2, .int 3]]
theorem six_ok : ∀ d ∈ sixD, ∃ g : Nat × Nat, d = gD g ∧ g.1 < 4 ∧ g.2 < 4 ∧ g.1 ≠ g.2 := by
  intro d m
  simp only [sixD, List.mem_cons, List.not_mem_nil, or_false] at m
  rcases m with rfl | rfl | rfl | rfl | rfl | rfl
  · exact ⟨(0, 1), rfl, by decide, by decide, by decide⟩
  · exact ⟨(2, 3), rfl, by decide, by decide, by decide⟩
  · exact ⟨(0, 3), rfl, by decide, by decide, by decide⟩
  · exact ⟨(1, 2), rfl, by decide, by decide, by decide⟩
  · exact ⟨(0, 1), rfl, by decide, by decide, by decide⟩
  · exact ⟨(2, 3), rfl, by decide, by decide, by decide⟩
def oddD : List D := [.tuple [.int 0, .int 1], .tuple [.int 1, .int 0], .tuple [.int 2, .int 3], .tuple [.int 0, .int 3], .tuple [.int 1, .int 3], .tuple [.int 2, .int 0]]
theorem odd_ok : ∀ d ∈ oddD, ∃ g : Nat × Nat, d = gD g ∧ g.1 < 4 ∧ g.2 < 4 ∧ g.1 ≠ g.2 := by
  intro d m
  simp only [oddD, List.mem_cons, List.not_mem_nil, or_false] at m
  rcases m with rfl | rfl | rfl | rfl | rfl | rfl
  · exact ⟨(0, 1), rfl, by decide, by decide, by decide⟩
  · exact ⟨(1, 0), rfl, by decide, by decide, by decide⟩
  · exact ⟨(2, 3), rfl, by decide, by decide, by decide⟩
  · exact ⟨(0, 3), rfl, by decide, by decide, by decide⟩
  · exact ⟨(1, 3), rfl, by decide, by decide, by decide⟩
  · exact ⟨(2, 0), rfl, by decide, by decide, by decide⟩
theorem law_board_w {N : Nat} {t : D} {most : Int} {Y : Opd × List Mx.Slot → Prop} (h : Tr N t) (hN : N ≤ 900000) (m0 : 0 ≤ most) (m1 : most ≤ 24)
    (k : ∀ (n : Nat) (G : List (Nat × Nat)) (t' : D), 2 ≤ n → n ≤ 8 → Tk.GsOk n G → G.length ≤ most.toNat → Tr (N + 120) t' → Y (.dat (.tuple [.int n, .list (G.map gD)]), [.own false t', .dat (.int most)])) : Mx.W (D_law_board [.own false t, .dat (.int most)]) Y := by
  unfold D_law_board ms_law_board
  and_intros
  refine take_w h (by omega) (by decide) (by decide) fun r1 t1 a1 b1 h1 => ?_
  and_intros
  refine take_w h1 (by omega) (by decide) (by decide) fun way t2 a2 b2 h2 => ?_
  and_intros
  refine take_w h2 (by omega) (by omega) (by omega) fun r3 t3 a3 b3 h3 => ?_
  obtain ⟨n, hn, n1, n2⟩ : ∃ n : Nat, 2 + r1 = (n : Int) ∧ 2 ≤ n ∧ n ≤ 8 := ⟨(2 + r1).toNat, by omega, by omega, by omega⟩
  rw [hn]
  and_intros
  refine W_mLoop (fun i e => ∃ (t : D) (G : List (Nat × Nat)) (s5 s6 s7 s8 s9 s10 : Option Mx.Slot), e = [some (.own false t), some (.dat (.int most)), some (.dat (.int n)), some (.dat (.int way)), some (.own true (.list (G.map gD))), s5, s6, s7, s8, s9, s10] ∧ G.length = i ∧ Tk.GsOk n G ∧ Tr (N + 3 + 4 * i) t)
    ⟨t3, [], _, _, _, _, _, _, rfl, rfl, (fun _ m => by cases m), h3⟩ ?_ ?_
  · rintro i d e hd ⟨t, G, s5, s6, s7, s8, s9, s10, rfl, hl, hG, ht⟩
    obtain ⟨hi, rfl⟩ := range_at hd
    and_intros
    obtain ⟨few, e1, f0, f1⟩ : ∃ few : Int, atI [PyData.int n, PyData.int (if (3 : Int) < n then 3 else n), PyData.int n, PyData.int 2, PyData.int 2] way = some (.int few) ∧ 2 ≤ few ∧ few ≤ n := by
      rcases (by omega : way = 0 ∨ way = 1 ∨ way = 2 ∨ way = 3 ∨ way = 4) with rfl | rfl | rfl | rfl | rfl
      · exact ⟨_, atI_c0, by omega, by omega⟩
      · exact ⟨_, atI_c1, by split <;> omega, by split <;> omega⟩
      · exact ⟨_, atI_c2, by omega, by omega⟩
      · exact ⟨_, atI_c3, by omega, by omega⟩
      · exact ⟨_, atI_c4, by omega, by omega⟩
    refine W_of e1 ?_
    and_intros
    have fin : ∀ (one other : Int) (t5 : D) (s5 s6 s7 s8 s9 s10 : Option Mx.Slot), 0 ≤ one → one < n → 0 ≤ other → other < n → one ≠ other → Tr (N + 3 + 4 * i + 3) t5 → ∀ (r : Int), 0 ≤ r → r < 2 → ∃ x, atI [PyData.tuple [.int one, .int other], PyData.tuple [.int other, .int one]] r = some x ∧ G.length < 16777216 ∧
        ∃ (t : D) (G' : List (Nat × Nat)) (s5' s6' s7' s8' s9' s10' : Option Mx.Slot), [some (.own false t5), some (.dat (.int most)), some (.dat (.int n)), some (.dat (.int way)), some (.own true (.list (G.map gD ++ [x]))), s5, s6, s7, s8, s9, s10] = [some (.own false t), some (.dat (.int most)), some (.dat (.int n)), some (.dat (.int way)), some (.own true (.list (G'.map gD))), s5', s6', s7', s8', s9', s10'] ∧ G'.length = i + 1 ∧ Tk.GsOk n G' ∧ Tr (N + 3 + 4 * (i + 1)) t := by
      intro one other t5 s5 s6 s7 s8 s9 s10 a0 a1 b0 b1 ne h5 r r0 r1
      have mk : ∀ x : D, (∃ g : Nat × Nat, x = gD g ∧ g.1 < n ∧ g.2 < n ∧ g.1 ≠ g.2) → G.length < 16777216 ∧
        ∃ (t : D) (G' : List (Nat × Nat)) (s5' s6' s7' s8' s9' s10' : Option Mx.Slot), [some (.own false t5), some (.dat (.int most)), some (.dat (.int n)), some (.dat (.int way)), some (.own true (.list (G.map gD ++ [x]))), s5, s6, s7, s8, s9, s10] = [some (.own false t), some (.dat (.int most)), some (.dat (.int n)), some (.dat (.int way)), some (.own true (.list (G'.map gD))), s5', s6', s7', s8', s9', s10'] ∧ G'.length = i + 1 ∧ Tk.GsOk n G' ∧ Tr (N + 3 + 4 * (i + 1)) t := by
        rintro x ⟨g, rfl, hg⟩
        refine ⟨by omega, t5, G ++ [g], _, _, _, _, _, _, by rw [List.map_append]; rfl, by rw [List.length_append, hl]; rfl, fun q m => ?_, h5.mono (by omega)⟩
        rcases List.mem_append.mp m with m | m
        · exact hG q m
        · rw [List.mem_singleton.mp m]; exact hg
      rcases (by omega : r = 0 ∨ r = 1) with rfl | rfl
      · exact ⟨_, atI_c0, mk _ (gate_of a0 a1 b0 b1 ne)⟩
      · exact ⟨_, atI_c1, mk _ (gate_of b0 b1 a0 a1 (Ne.symm ne))⟩
    by_cases hw : way = 2
    · subst hw
      have j0 := Int.emod_nonneg (i : Int) (show (n : Int) - 1 ≠ 0 by omega)
      have j1 := Int.emod_lt_of_pos (i : Int) (show 0 < (n : Int) - 1 by omega)
      refine (if_pos rfl).mpr ?_
      and_intros
      refine take_w ht (by omega) (by decide) (by decide) fun r t5 r0 r1 h5 => ?_
      and_intros
      obtain ⟨x, ex, q1, q2⟩ := fin ((i : Int) % ((n : Int) - 1)) ((i : Int) % ((n : Int) - 1) + 1) t5 (some (.dat (.int i))) (some (.dat (.int few))) (some (.dat (.int ((i : Int) % ((n : Int) - 1))))) (some (.dat (.int ((i : Int) % ((n : Int) - 1) + 1)))) s9 s10 j0 (by omega) (by omega) (by omega) (by omega) (h5.mono (by omega)) r r0 r1
      refine W_of ex ?_
      and_intros
      refine ⟨by rw [List.length_map]; exact q1, q2⟩
    · refine (if_neg hw).mpr ?_
      and_intros
      refine take_w ht (by omega) (by omega) (by omega) fun one t5 o0 o1 h5 => ?_
      and_intros
      refine (if_neg hw).mpr ?_
      and_intros
      refine take_w h5 (by omega) (by omega) (by omega) fun r6 t6 p0 p1 h6 => ?_
      and_intros
      obtain ⟨g0, g1, g2⟩ := gate_ok (n := few) (a := one) (f := 1 + r6) f0 (by omega) o0 o1 (by omega) (by omega)
      rw [← Int.add_assoc] at g0 g1 g2
      refine take_w h6 (by omega) (by decide) (by decide) fun r t7 r0 r1 h7 => ?_
      and_intros
      obtain ⟨x, ex, q1, q2⟩ := fin one ((one + 1 + r6) % few) t7 (some (.dat (.int i))) (some (.dat (.int few))) (some (.dat (.int one))) (some (.dat (.int ((one + 1 + r6) % few)))) s9 s10 o0 (by omega) g0 (by omega) g2 (h7.mono (by omega)) r r0 r1
      refine W_of ex ?_
      and_intros
      refine ⟨by rw [List.length_map]; exact q1, q2⟩
  · rintro e ⟨t, G, s5, s6, s7, s8, s9, s10, rfl, hl, hG, ht⟩
    rw [List.length_map, List.length_range] at hl ht
    and_intros
    split
    · rename_i hw
      and_intros
      split
      · rename_i hm
        and_intros
        refine take_w ht (by omega) (by decide) (by decide) fun spot t5 p0 p1 h5 => ?_
        and_intros
        refine take_w h5 (by omega) (by decide) (by decide) fun r6 t6 r0 r1 h6 => ?_
        and_intros
        obtain ⟨x, ex, hx⟩ := atI_some (xs := oddD) (i := r6) r0 r1
        refine W_of ex ?_
        and_intros
        refine take_w h6 (by omega) (by decide) (by decide) fun r7 t7 c0 c1 h7 => ?_
        have L1 := cutD_len sixD none (some spot)
        have L2 := cutD_len sixD (some spot) none
        have L3 : sixD.length = 6 := rfl
        have L4 : (List.replicate r7.toNat [x]).flatten.length ≤ 3 := by rw [rep_one, List.length_replicate]; omega
        obtain ⟨G2, e2, hG2⟩ := all_gates (n := 4) (ds := Mx.cutD sixD none (some spot) ++ (List.replicate r7.toNat [x]).flatten ++ Mx.cutD sixD (some spot) none) (fun d m => by
          rcases List.mem_append.mp m with m | m
          · rcases List.mem_append.mp m with m | m
            · exact six_ok d (cutD_mem m)
            · rw [rep_mem m]; exact odd_ok x hx
          · exact six_ok d (cutD_mem m))
        have L5 : (Mx.cutD sixD none (some spot)).length + (Mx.cutD sixD (some spot) none).length = 6 := by
          rcases (by omega : spot = 0 ∨ spot = 1 ∨ spot = 2 ∨ spot = 3 ∨ spot = 4 ∨ spot = 5 ∨ spot = 6 ∨ spot = 7) with rfl | rfl | rfl | rfl | rfl | rfl | rfl | rfl <;> decide +kernel
        have L6 : (List.replicate r7.toNat [x]).flatten.length ≤ 2 := by rw [rep_one, List.length_replicate]; omega
        have l2 : G2.length ≤ most.toNat := by
          have := congrArg List.length e2
          rw [List.length_map, List.length_append, List.length_append] at this
          omega
        unfold sixD at L1 L2 L3 e2
        and_intros
        rw [e2]
        exact k 4 G2 t7 (by decide) (by decide) hG2 l2 (h7.mono (by omega))
      · and_intros
        exact k n G t n1 n2 hG (by omega) (ht.mono (by omega))
    · and_intros
      exact k n G t n1 n2 hG (by omega) (ht.mono (by omega))
theorem law_start_w {N : Nat} {t : D} {gs : List D} {Y : Opd × List Mx.Slot → Prop} (h : Tr N t) (hN : N ≤ 900000) (hl : gs.length ≤ 24)
    (k : ∀ (ps : List Int) (t' : D), ps.length = gs.length → Tk.bits ps → Tr (N + 24) t' → Y (.new (iL ps), [.own false t', .dat (.list gs)])) : Mx.W (D_law_start [.own false t, .dat (.list gs)]) Y := by
  unfold D_law_start ms_law_start
  and_intros
  refine W_mComp (fun i acc e => ∃ (t : D) (ps : List Int), e = [some (.own false t), some (.dat (.list gs)), none] ∧ acc = ps.map PyData.int ∧ ps.length = i ∧ Tk.bits ps ∧ Tr (N + i) t) ⟨t, [], rfl, rfl, rfl, (fun _ z => by cases z), h⟩ ?_ ?_
  · rintro i d acc e hd ⟨t, ps, rfl, rfl, pl, pb, ht⟩
    have hi := (List.getElem?_eq_some_iff.mp hd).1
    and_intros
    refine take_w ht (by omega) (by decide) (by decide) fun r t1 a1 b1 h1 => ?_
    and_intros
    refine ⟨by rw [List.length_map]; omega, t1, ps ++ [r], rfl, by rw [List.map_append]; rfl, by rw [List.length_append, pl]; rfl, fun q m => ?_, h1⟩
    rcases List.mem_append.mp m with m | m
    · exact pb q m
    · rw [List.mem_singleton.mp m]
      unfold Tk.bit
      omega
  · rintro acc e ⟨t, ps, rfl, rfl, pl, pb, ht⟩
    and_intros
    exact k ps t pl pb (ht.mono (by omega))
theorem enum_at {G : List (Nat × Nat)} {i : Nat} {d : D} (h : (enumD (G.map gD))[i]? = some d) : i < G.length ∧ d = .tuple [.int i, .tuple [.int (G.getD i (0, 0)).1, .int (G.getD i (0, 0)).2]] := by
  unfold enumD at h
  rw [List.getElem?_mapIdx, List.getElem?_map] at h
  cases q : G[i]? with
  | none => rw [q] at h; cases h
  | some g =>
    rw [q] at h
    cases h
    refine ⟨(List.getElem?_eq_some_iff.mp q).1, ?_⟩
    rw [List.getD_eq_getElem?_getD, q]
    rfl
theorem drop_cons {G : List (Nat × Nat)} {i : Nat} (h : i < G.length) : G.drop i = G.getD i (0, 0) :: G.drop (i + 1) := by
  rw [List.drop_eq_getElem_cons h, List.getD_eq_getElem?_getD, List.getElem?_eq_getElem h]
  rfl
/-! the first odd gate -/
def fo : List (Nat × Nat) → List Int → Option Nat
  | [], _ => none
  | g :: G, xs => if (xs.getD g.1 0 + xs.getD g.2 0) % 2 = 0 then (fo G ((xs.set g.1 ((xs.getD g.1 0 + xs.getD g.2 0) / 2)).set g.2 ((xs.getD g.1 0 + xs.getD g.2 0) / 2))).map (· + 1) else some 0
theorem fo_cons {g : Nat × Nat} {G : List (Nat × Nat)} {xs : List Int} : fo (g :: G) xs = if (xs.getD g.1 0 + xs.getD g.2 0) % 2 = 0 then (fo G ((xs.set g.1 ((xs.getD g.1 0 + xs.getD g.2 0) / 2)).set g.2 ((xs.getD g.1 0 + xs.getD g.2 0) / 2))).map (· + 1) else some 0 := rfl
theorem fo_none : ∀ {G : List (Nat × Nat)} {xs : List Int}, fo G xs = none ↔ Tk.evens G xs
  | [], _ => ⟨fun _ => trivial, fun _ => rfl⟩
  | g :: G, xs => by
    show _ ↔ (xs.getD g.1 0 + xs.getD g.2 0) % 2 = 0 ∧ Tk.evens G ((xs.set g.1 ((xs.getD g.1 0 + xs.getD g.2 0) / 2)).set g.2 ((xs.getD g.1 0 + xs.getD g.2 0) / 2))
    unfold fo
    split
    · rename_i h
      rw [Option.map_eq_none_iff, fo_none]
      exact ⟨fun z => ⟨h, z⟩, fun z => z.2⟩
    · rename_i h
      exact ⟨fun z => (nomatch z), fun z => absurd z.1 h⟩
theorem fo_app : ∀ {G G' : List (Nat × Nat)} {xs : List Int} {i : Nat}, i < G.length → (fo (G ++ G') xs = some i ↔ fo G xs = some i)
  | g :: G, G', xs, i, h => by
    rw [List.cons_append]
    unfold fo
    split
    · cases i with
      | zero =>
        constructor
        · intro z
          obtain ⟨a, _, e⟩ := Option.map_eq_some_iff.mp z
          cases e
        · intro z
          obtain ⟨a, _, e⟩ := Option.map_eq_some_iff.mp z
          cases e
      | succ i =>
        have ih := fo_app (G := G) (G' := G') (xs := (xs.set g.1 ((xs.getD g.1 0 + xs.getD g.2 0) / 2)).set g.2 ((xs.getD g.1 0 + xs.getD g.2 0) / 2)) (i := i) (by simpa using h)
        constructor
        · intro z
          obtain ⟨a, b, e⟩ := Option.map_eq_some_iff.mp z
          have : a = i := by omega
          subst this
          rw [ih.mp b]
          rfl
        · intro z
          obtain ⟨a, b, e⟩ := Option.map_eq_some_iff.mp z
          have : a = i := by omega
          subst this
          rw [ih.mpr b]
          rfl
    · exact Iff.rfl
theorem fo_lt : ∀ {G : List (Nat × Nat)} {xs : List Int} {i : Nat}, fo G xs = some i → i < G.length
  | [], _, _, h => by cases h
  | g :: G, xs, i, h => by
    unfold fo at h
    split at h
    · obtain ⟨a, b, e⟩ := Option.map_eq_some_iff.mp h
      have := fo_lt b
      simp only [List.length_cons]
      omega
    · cases h
      simp
def foD : Option Nat → D
  | none => .none
  | some i => .int i
theorem foD_none {o : Option Nat} : isNone (foD o) = true ↔ o = none := by
  cases o with
  | none => exact ⟨fun _ => rfl, fun _ => rfl⟩
  | some i => exact ⟨fun z => (nomatch z), fun z => (nomatch z)⟩
theorem first_odd_w {n : Nat} {G : List (Nat × Nat)} {xs : List Int} {Y : Opd × List Mx.Slot → Prop} (hG : Tk.GsOk n G) (hx : xs.length = n) (hn : n ≤ 8)
    (k : Y (.dat (foD (fo G xs)), [.dat (.list (G.map gD)), .dat (iL xs)])) : Mx.W (D_first_odd [.dat (.list (G.map gD)), .dat (iL xs)]) Y := by
  have l2 : (2 : Int).natAbs.log2 < 40 := lg (by decide) (by decide) (by decide)
  unfold D_first_odd ms_first_odd
  and_intros
  refine W_mLoop (fun i e => ∃ (ys : List Int) (s3 s4 s5 s6 : Option Mx.Slot), e = [some (.dat (.list (G.map gD))), some (.dat (iL xs)), some (.own true (iL ys)), s3, s4, s5, s6] ∧ ys.length = n ∧ fo G xs = (fo (G.drop i) ys).map (· + i)) ⟨xs, _, _, _, _, rfl, hx, by rw [List.drop_zero]; simp⟩ ?_ ?_
  · rintro i d e hd ⟨ys, s3, s4, s5, s6, rfl, yl, ev⟩
    obtain ⟨hi, rfl⟩ := enum_at hd
    obtain ⟨g1, g2, gn⟩ := hG.at hi
    rw [drop_cons hi] at ev
    generalize G.getD i (0, 0) = g at *
    obtain ⟨f, s⟩ := g
    simp only at g1 g2 gn
    have e1 : ∀ j, j < n → atI (ys.map PyData.int) (j : Int) = some (.int (ys.getD j 0)) := fun j h => atI_ints (by omega)
    have e3 : ∀ j, j < n → ixN (ys.map PyData.int).length (j : Int) = some j := fun j h => ixN_nat (by rw [List.length_map]; omega)
    rw [fo_cons] at ev
    simp only at ev
    and_intros
    refine W_of (e1 f g1) ?_
    and_intros
    refine W_of (e1 s g2) ?_
    and_intros
    split
    · rename_i hodd
      rw [if_neg (by omega)] at ev
      have ev' : fo G xs = some i := by rw [ev]; simp
      rw [ev'] at k
      and_intros
      exact k
    · rename_i hodd
      have he : (ys.getD f 0 + ys.getD s 0) % 2 = 0 := by omega
      rw [if_pos he] at ev
      and_intros
      refine W_of (e3 f g1) ?_
      and_intros
      refine W_of (e3 s g2) ?_
      and_intros
      simp only [set_ints, List.set_cons_succ, List.set_cons_zero]
      refine ⟨(ys.set f ((ys.getD f 0 + ys.getD s 0) / 2)).set s ((ys.getD f 0 + ys.getD s 0) / 2), _, _, _, _, rfl, by rw [List.length_set, List.length_set]; exact yl, ?_⟩
      rw [ev, Option.map_map]
      congr 1
      funext z
      simp only [Function.comp]
      omega
  · rintro e ⟨ys, s3, s4, s5, s6, rfl, yl, ev⟩
    have ln : (enumD (G.map gD)).length = G.length := by unfold enumD; rw [List.length_mapIdx, List.length_map]
    rw [ln, List.drop_length] at ev
    have ev' : fo G xs = none := ev
    rw [ev'] at k
    and_intros
    exact k
def subD : D → D
  | .tuple [.int a, .int b] => .int (a - b)
  | d => d
def sub (xs ys : List Int) : List Int := List.zipWith (· - ·) xs ys
theorem subD_ints : ∀ {xs ys : List Int}, (zipD (xs.map PyData.int) (ys.map PyData.int)).map subD = (sub xs ys).map PyData.int
  | [], _ => rfl
  | _ :: _, [] => rfl
  | x :: xs, y :: ys => by
    show PyData.int (x - y) :: (zipD (xs.map PyData.int) (ys.map PyData.int)).map subD = PyData.int (x - y) :: (sub xs ys).map PyData.int
    rw [subD_ints]
theorem zip_mem {xs ys : List Int} {d : D} (h : d ∈ zipD (xs.map PyData.int) (ys.map PyData.int)) : ∃ a b : Int, d = .tuple [.int a, .int b] := by
  unfold zipD at h
  obtain ⟨i, hi⟩ := List.getElem?_of_mem h
  rw [List.getElem?_zipWith, List.getElem?_map, List.getElem?_map] at hi
  cases a : xs[i]? with
  | none => rw [a] at hi; cases hi
  | some x =>
    cases b : ys[i]? with
    | none => rw [a, b] at hi; cases hi
    | some y =>
      rw [a, b] at hi
      cases hi
      exact ⟨x, y, rfl⟩
theorem difference_w {xs ys : List Int} {Y : Opd × List Mx.Slot → Prop} (hx : xs.length ≤ 100) (k : Y (.new (iL (sub xs ys)), [.dat (iL xs), .dat (iL ys)])) : Mx.W (D_difference [.dat (iL xs), .dat (iL ys)]) Y := by
  unfold D_difference ms_difference
  and_intros
  refine comp_map (g := subD) (by unfold zipD; rw [List.length_zipWith, List.length_map, List.length_map]; omega) (fun d m => ?_) ?_
  · obtain ⟨a, b, rfl⟩ := zip_mem m
    and_intros
    exact ⟨rfl, rfl⟩
  rw [subD_ints]
  and_intros
  exact k
def B30 (xs : List Int) : Prop := ∀ x ∈ xs, -1000000000000000000000000000000 ≤ x ∧ x ≤ 1000000000000000000000000000000
theorem zeros_map {m : Nat} : (Tk.zeros m).map PyData.int = List.replicate m (PyData.int 0) := by
  unfold Tk.zeros
  rw [List.map_replicate]
abbrev nL (es : List Nat) : D := iL (es.map fun (x : Nat) => (x : Int))
theorem nL_snoc {es : List Nat} {l : Nat} : nL (es ++ [l]) = .list ((es.map fun (x : Nat) => (x : Int)).map PyData.int ++ [.int (l : Int)]) := by
  show PyData.list _ = PyData.list _
  rw [List.map_append, List.map_append]
  rfl
theorem nat_at {es : List Nat} {i : Nat} {d : D} (h : ((es.map fun (x : Nat) => (x : Int)).map PyData.int)[i]? = some d) : i < es.length ∧ d = .int ((es.getD i 0 : Nat) : Int) := by
  rw [List.map_map, List.getElem?_map] at h
  cases q : es[i]? with
  | none => rw [q] at h; cases h
  | some g =>
    rw [q] at h
    cases h
    refine ⟨(List.getElem?_eq_some_iff.mp q).1, ?_⟩
    rw [List.getD_eq_getElem?_getD, q]
    rfl
theorem lay_ints : ∀ {xs : List Int}, PyData.canLayAll0 (xs.map PyData.int) = true
  | [] => by simp only [List.map_nil, PyData.canLayAll0]
  | x :: xs => by
    simp only [List.map_cons, PyData.canLayAll0, PyData.canLay0, lay_ints, Bool.and_self]
theorem dep_ints : ∀ {xs : List Int}, PyData.depthAll (xs.map PyData.int) = 0
  | [] => by simp only [List.map_nil, PyData.depthAll]
  | x :: xs => by
    simp only [List.map_cons, PyData.depthAll, PyData.depth, dep_ints]
    rfl
theorem shaped1 {xs : List Int} : SeqAt.shaped (iL xs) = true := by
  unfold SeqAt.shaped
  rw [Bool.and_eq_true]
  refine ⟨by simp only [PyData.canLay0, lay_ints], ?_⟩
  simp only [PyData.depth, dep_ints]
  decide

/-! lists of rows -/
abbrev bL (bs : List (List Int)) : D := .list (bs.map fun (r : List Int) => iL r)
def evn (bs : List (List Int)) (odd : List Nat) : List (List Int) :=
  (bs.mapIdx fun (r : Nat) (a : List Int) => if r ∈ odd then sub a (bs.getD (odd.getD 0 0) []) else a).set (odd.getD 0 0) ((bs.getD (odd.getD 0 0) []).map fun x => 2 * x)
theorem in_nL {r : Nat} {odd : List Nat} : gInU [.int (r : Int), nL odd] = some (.bool (decide (r ∈ odd))) := by
  have sl : SeqAt.shaped (nL odd) = true := shaped1
  show (if (SeqAt.shaped (.int (r : Int)) && SeqAt.shaped (nL odd)) = true then some (PyData.bool (((odd.map fun (x : Nat) => (x : Int)).map PyData.int).any fun z => PyData.eqv z (.int (r : Int)))) else none) = _
  rw [sl, if_pos (by rfl)]
  congr 2
  rw [Bool.eq_iff_iff, List.any_eq_true, decide_eq_true_iff]
  constructor
  · rintro ⟨z, m, e⟩
    obtain ⟨x, mx, rfl⟩ := List.mem_map.mp m
    obtain ⟨y, my, rfl⟩ := List.mem_map.mp mx
    rw [eqv_int] at e
    have := of_decide_eq_true e
    have : y = r := by omega
    rw [← this]
    exact my
  · intro m
    refine ⟨.int (r : Int), List.mem_map.mpr ⟨_, List.mem_map.mpr ⟨r, m, rfl⟩, rfl⟩, ?_⟩
    rw [eqv_int]
    exact decide_eq_true rfl
def intD : D → Int
  | .int x => x
  | _ => 0
def intsD (ds : List D) : List Int := ds.map intD
theorem intsD_map {xs : List Int} : intsD (xs.map PyData.int) = xs := by
  unfold intsD
  rw [List.map_map]
  exact List.map_id xs
def evG (odd : List Nat) (ch : List Int) : D → D
  | .tuple [.int r, .list ds] => if r.toNat ∈ odd then iL (sub (intsD ds) ch) else .list ds
  | d => d
theorem evG_row {odd : List Nat} {ch row : List Int} {r : Nat} : evG odd ch (.tuple [.int (r : Int), iL row]) = if r ∈ odd then iL (sub row ch) else iL row := by
  show (if ((r : Int)).toNat ∈ odd then iL (sub (intsD (row.map PyData.int)) ch) else iL row) = _
  rw [intsD_map, Int.toNat_natCast]
theorem evG_map {odd : List Nat} {ch : List Int} {bs : List (List Int)} : (enumD (bs.map fun (r : List Int) => iL r)).map (evG odd ch) = (bs.mapIdx fun (r : Nat) (a : List Int) => if r ∈ odd then sub a ch else a).map fun (r : List Int) => iL r := by
  apply List.ext_getElem?
  intro i
  unfold enumD
  rw [List.getElem?_map, List.getElem?_mapIdx, List.getElem?_map, List.getElem?_map, List.getElem?_mapIdx]
  cases bs[i]? with
  | none => rfl
  | some a =>
    show some (evG odd ch (.tuple [.int (i : Int), iL a])) = some (iL (if i ∈ odd then sub a ch else a))
    rw [evG_row]
    split <;> rfl
theorem row_mem {bs : List (List Int)} {d : D} (h : d ∈ enumD (bs.map fun (r : List Int) => iL r)) : ∃ (r : Nat) (row : List Int), d = .tuple [.int (r : Int), iL row] ∧ bs[r]? = some row := by
  obtain ⟨i, hi⟩ := List.getElem?_of_mem h
  unfold enumD at hi
  rw [List.getElem?_mapIdx, List.getElem?_map] at hi
  cases a : bs[i]? with
  | none => rw [a] at hi; cases hi
  | some x =>
    rw [a] at hi
    cases hi
    exact ⟨i, x, rfl, a⟩
/-- n rows of n numbers, none greater than 2 ^ m -/
def BsOk (n m : Nat) (bs : List (List Int)) : Prop := bs.length = n ∧ ∀ row ∈ bs, row.length = n ∧ ∀ x ∈ row, -((2 ^ m : Nat) : Int) ≤ x ∧ x ≤ ((2 ^ m : Nat) : Int)
theorem BsOk.at {n m : Nat} {bs : List (List Int)} (h : BsOk n m bs) {i : Nat} (hi : i < n) : bs[i]? = some (bs.getD i []) ∧ (bs.getD i []).length = n ∧ ∀ x ∈ bs.getD i [], -((2 ^ m : Nat) : Int) ≤ x ∧ x ≤ ((2 ^ m : Nat) : Int) := by
  have hi' : i < bs.length := by rw [h.1]; exact hi
  have e : bs[i]? = some bs[i] := List.getElem?_eq_getElem hi'
  have e2 : bs.getD i [] = bs[i] := by rw [List.getD_eq_getElem?_getD, e]; rfl
  rw [e2]
  exact ⟨e, h.2 _ (List.getElem_mem _)⟩
theorem evn_ok {n m : Nat} {bs : List (List Int)} {odd : List Nat} (h : BsOk n m bs) (h0 : odd.getD 0 0 < n) : BsOk n (m + 1) (evn bs odd) := by
  obtain ⟨_, c1, c2⟩ := h.at h0
  have pw : ((2 ^ (m + 1) : Nat) : Int) = 2 * ((2 ^ m : Nat) : Int) := by rw [Nat.pow_succ]; omega
  have p0 : (0 : Int) ≤ ((2 ^ m : Nat) : Int) := Int.natCast_nonneg _
  refine ⟨by unfold evn; rw [List.length_set, List.length_mapIdx, h.1], fun row hr => ?_⟩
  unfold evn at hr
  generalize bs.getD (odd.getD 0 0) [] = ch at *
  rcases List.mem_or_eq_of_mem_set hr with hr | rfl
  · obtain ⟨i, hi⟩ := List.getElem?_of_mem hr
    rw [List.getElem?_mapIdx] at hi
    cases a : bs[i]? with
    | none => rw [a] at hi; cases hi
    | some x =>
      rw [a] at hi
      obtain ⟨l1, l2⟩ := h.2 x (List.mem_of_getElem? a)
      have hi' : (if i ∈ odd then sub x ch else x) = row := Option.some.inj hi
      subst hi'
      split
      · refine ⟨by unfold sub; rw [List.length_zipWith]; omega, fun y hy => ?_⟩
        unfold sub at hy
        obtain ⟨j, hj⟩ := List.getElem?_of_mem hy
        rw [List.getElem?_zipWith] at hj
        cases q1 : x[j]? with
        | none => rw [q1] at hj; cases hj
        | some u =>
          cases q2 : ch[j]? with
          | none => rw [q1, q2] at hj; cases hj
          | some v =>
            rw [q1, q2] at hj
            have hj' : u - v = y := Option.some.inj hj
            have a1 := l2 u (List.mem_of_getElem? q1)
            have a2 := c2 v (List.mem_of_getElem? q2)
            omega
      · refine ⟨l1, fun y hy => ?_⟩
        have a1 := l2 y hy
        omega
  · refine ⟨by rw [List.length_map]; exact c1, fun y hy => ?_⟩
    obtain ⟨u, mu, rfl⟩ := List.mem_map.mp hy
    have a2 := c2 u mu
    omega
def dblG : D → D
  | .int x => .int (2 * x)
  | d => d
theorem dblG_map {xs : List Int} : (xs.map PyData.int).map dblG = (xs.map fun x => 2 * x).map PyData.int := by
  rw [List.map_map, List.map_map]
  rfl
theorem evened_w {n m : Nat} {bs : List (List Int)} {odd : List Nat} {Y : Opd × List Mx.Slot → Prop} (h : BsOk n m bs) (hn : n ≤ 8) (hm : m ≤ 30) (ho : odd ≠ []) (h0 : odd.getD 0 0 < n) (hol : odd.length ≤ 8)
    (k : Y (.new (bL (evn bs odd)), [.dat (bL bs), .dat (nL odd)])) : Mx.W (D_evened [.dat (bL bs), .dat (nL odd)]) Y := by
  have kl2 : (2 : Int).natAbs.log2 < 40 := lg (by decide) (by decide) (by decide)
  have ol : 0 < odd.length := List.length_pos_iff.mpr ho
  have at0 : atI ((odd.map fun (x : Nat) => (x : Int)).map PyData.int) 0 = some (.int ((odd.getD 0 0 : Nat) : Int)) := by
    rw [show (0 : Int) = ((0 : Nat) : Int) from rfl, atI_ints (by rw [List.length_map]; exact ol)]
    congr 2
    cases odd with
    | nil => cases ol
    | cons a l => rfl
  obtain ⟨b1, b2, b3⟩ := h.at h0
  have bl := h.1
  unfold evn at k
  generalize odd.getD 0 0 = o at *
  have at1 : atI (bs.map fun (r : List Int) => iL r) (o : Int) = some (iL (bs.getD o [])) := atI_nat (by rw [List.getElem?_map, b1]; rfl)
  generalize bs.getD o [] = ch at *
  unfold D_evened ms_evened
  and_intros
  refine W_of at0 ?_
  and_intros
  refine W_of at1 ?_
  and_intros
  refine comp_map (g := evG odd ch) (by unfold enumD; rw [List.length_mapIdx, List.length_map]; omega) (fun d md => ?_) ?_
  · obtain ⟨r, row, rfl, hr⟩ := row_mem md
    have lr := (h.2 row (List.mem_of_getElem? hr)).1
    rw [evG_row]
    and_intros
    refine W_of in_nL ?_
    by_cases q : r ∈ odd
    · rw [if_pos q, decide_eq_true q]
      and_intros
      refine difference_w (by omega) ?_
      and_intros
      exact ⟨rfl, rfl⟩
    · rw [if_neg q, decide_eq_false q]
      and_intros
      exact ⟨rfl, rfl⟩
  rw [evG_map]
  and_intros
  refine comp_map (g := dblG) (by rw [List.length_map]; omega) (fun d md => ?_) ?_
  · obtain ⟨x, mx, rfl⟩ := List.mem_map.mp md
    have bx := b3 x mx
    have p24 : (2 : Nat) ^ m ≤ 2 ^ 30 := Nat.pow_le_pow_right (by decide) hm
    have lx := lg (k := 60) (i := x) (by decide) (by omega) (by omega)
    and_intros
    exact ⟨rfl, rfl⟩
  rw [dblG_map]
  and_intros
  refine W_of at0 ?_
  and_intros
  refine W_of (ixN_nat (by rw [List.length_map, List.length_mapIdx]; omega)) ?_
  and_intros
  simp only [bL, List.map_set] at k
  exact k
/-! free gates -/
def oddR (G : List (Nat × Nat)) (bs : List (List Int)) (i : Nat) : List Nat := (List.range bs.length).filter fun r => decide (fo G (bs.getD r []) = some i)
def fbS (G : List (Nat × Nat)) (p : List Nat × List (List Int)) (i : Nat) : List Nat × List (List Int) := if oddR G p.2 i = [] then p else (p.1 ++ [i], evn p.2 (oddR G p.2 i))
def fb (G : List (Nat × Nat)) (b : List (List Int)) : Nat → List Nat × List (List Int)
  | 0 => ([], b)
  | i + 1 => fbS G (fb G b i) i
def bs0 (n : Nat) : List (List Int) := (List.range n).map fun l => Tk.zeros l ++ [1] ++ Tk.zeros (n - 1 - l)
theorem BsOk.up {n m : Nat} {bs : List (List Int)} (h : BsOk n m bs) : BsOk n (m + 1) bs := ⟨h.1, fun row hr => ⟨(h.2 row hr).1, fun x hx => by
  have a := (h.2 row hr).2 x hx
  have p0 : (0 : Int) ≤ ((2 ^ m : Nat) : Int) := Int.natCast_nonneg _
  have pw : ((2 ^ (m + 1) : Nat) : Int) = 2 * ((2 ^ m : Nat) : Int) := by rw [Nat.pow_succ]; omega
  omega⟩⟩
theorem bs0_ok {n : Nat} : BsOk n 0 (bs0 n) := by
  refine ⟨by unfold bs0; rw [List.length_map, List.length_range], fun row hr => ?_⟩
  unfold bs0 at hr
  obtain ⟨l, ml, rfl⟩ := List.mem_map.mp hr
  have hl := List.mem_range.mp ml
  refine ⟨by rw [List.length_append, List.length_append, Tk.zeros_len, Tk.zeros_len, List.length_singleton]; omega, fun x hx => ?_⟩
  have hx' : x = 0 ∨ x = 1 := by
    rcases List.mem_append.mp hx with hx | hx
    · rcases List.mem_append.mp hx with hx | hx
      · exact .inl (List.eq_of_mem_replicate hx)
      · exact .inr (List.mem_singleton.mp hx)
    · exact .inl (List.eq_of_mem_replicate hx)
  rcases hx' with rfl | rfl <;> decide
theorem oddR_mem {G : List (Nat × Nat)} {bs : List (List Int)} {i r : Nat} (h : r ∈ oddR G bs i) : r < bs.length := List.mem_range.mp (List.mem_filter.mp h).1
theorem oddR_head {G : List (Nat × Nat)} {bs : List (List Int)} {i : Nat} (h : oddR G bs i ≠ []) : (oddR G bs i).getD 0 0 < bs.length := by
  cases q : oddR G bs i with
  | nil => exact absurd q h
  | cons a l => exact oddR_mem (by rw [q]; exact List.mem_cons_self ..)
theorem oddR_len {G : List (Nat × Nat)} {bs : List (List Int)} {i : Nat} : (oddR G bs i).length ≤ bs.length := by
  have := List.length_filter_le (fun r => decide (fo G (bs.getD r []) = some i)) (List.range bs.length)
  rw [List.length_range] at this
  exact this
theorem fb_ok {n : Nat} {G : List (Nat × Nat)} : ∀ (i : Nat), BsOk n i (fb G (bs0 n) i).2 ∧ (fb G (bs0 n) i).1.length ≤ i
  | 0 => ⟨bs0_ok, Nat.le_refl _⟩
  | i + 1 => by
    obtain ⟨a, b⟩ := fb_ok (n := n) (G := G) i
    show BsOk n (i + 1) (fbS G (fb G (bs0 n) i) i).2 ∧ (fbS G (fb G (bs0 n) i) i).1.length ≤ i + 1
    unfold fbS
    split
    · exact ⟨a.up, by omega⟩
    · rename_i q
      refine ⟨evn_ok a (by have := oddR_head q; rw [a.1] at this; exact this), ?_⟩
      simp only [List.length_append, List.length_singleton]
      omega
theorem filt1 {r : Nat} (p : Nat → Prop) [DecidablePred p] : List.filter (fun r => decide (p r)) [r] = if p r then [r] else [] := by
  by_cases q : p r <;> simp [q]
theorem eqv_ni {i : Int} : PyData.eqv .none (.int i) = false := by simp [PyData.eqv]
theorem rng_at {n i : Nat} {d : D} (h : ((List.range n).map fun (i : Nat) => PyData.int (i : Int))[i]? = some d) : i < n ∧ d = .int i := by
  have hi := (List.getElem?_eq_some_iff.mp h).1
  rw [List.length_map, List.length_range] at hi
  rw [List.getElem?_map, List.getElem?_range hi] at h
  cases h
  exact ⟨hi, rfl⟩
def uniG (n : Nat) : D → D
  | .int l => iL (Tk.zeros l.toNat ++ [1] ++ Tk.zeros (n - 1 - l.toNat))
  | d => d
theorem uniG_map {n : Nat} : ((List.range n).map fun (i : Nat) => PyData.int (i : Int)).map (uniG n) = (bs0 n).map fun (r : List Int) => iL r := by
  unfold bs0
  rw [List.map_map, List.map_map]
  apply List.map_congr_left
  intro a _
  show iL (Tk.zeros (a : Int).toNat ++ [1] ++ Tk.zeros (n - 1 - (a : Int).toNat)) = _
  rw [Int.toNat_natCast]
  rfl
theorem row_at {bs : List (List Int)} {i : Nat} {d : D} (hi : (enumD (bs.map fun (r : List Int) => iL r))[i]? = some d) : i < bs.length ∧ d = .tuple [.int (i : Int), iL (bs.getD i [])] := by
  unfold enumD at hi
  rw [List.getElem?_mapIdx, List.getElem?_map] at hi
  cases a : bs[i]? with
  | none => rw [a] at hi; cases hi
  | some x =>
    rw [a] at hi
    cases hi
    refine ⟨(List.getElem?_eq_some_iff.mp a).1, ?_⟩
    rw [List.getD_eq_getElem?_getD, a]
    rfl
theorem free_and_basis_w {n : Nat} {G : List (Nat × Nat)} {Y : Opd × List Mx.Slot → Prop} (hG : Tk.GsOk n G) (hlen : G.length ≤ 24) (n1 : 1 ≤ n) (hn : n ≤ 8)
    (k : Y (.dat (.tuple [nL (fb G (bs0 n) G.length).1, bL (fb G (bs0 n) G.length).2]), [.brd n (G.map gD)])) : Mx.W (D_free_and_basis [.brd n (G.map gD)]) Y := by
  unfold D_free_and_basis ms_free_and_basis
  and_intros
  rw [Int.toNat_natCast]
  refine comp_map (g := uniG n) (by rw [List.length_map, List.length_range]; omega) (fun d md => ?_) ?_
  · obtain ⟨l, ml, rfl⟩ := List.mem_map.mp md
    have hl := List.mem_range.mp ml
    have z1 : (List.replicate ((l : Int)).toNat [PyData.int 0]).flatten.length = l := by rw [rep_one, List.length_replicate, Int.toNat_natCast]
    have z2 : (List.replicate ((n : Int) - 1 - (l : Int)).toNat [PyData.int 0]).flatten.length = n - 1 - l := by rw [rep_one, List.length_replicate]; omega
    and_intros
    refine ⟨?_, rfl⟩
    show _ = iL (Tk.zeros (l : Int).toNat ++ [1] ++ Tk.zeros (n - 1 - (l : Int).toNat))
    rw [Int.toNat_natCast]
    unfold Tk.zeros iL
    rw [rep_one, rep_one, List.map_append, List.map_append, List.map_replicate, List.map_replicate, show ((n : Int) - 1 - (l : Int)).toNat = n - 1 - l by omega]
    rfl
  rw [uniG_map]
  have hgl : (G.map gD).length ≤ 24 := by rw [List.length_map]; exact hlen
  and_intros
  refine W_mLoop (fun i e => ∃ s5 s6, e = [some (.brd n (G.map gD)), some (.dat (.int n)), some (.dat (.list (G.map gD))), some (.dat (bL (fb G (bs0 n) i).2)), some (.own true (nL (fb G (bs0 n) i).1)), s5, s6, none, none, none]) ⟨_, _, rfl⟩ ?_ ?_
  · rintro i d e hd ⟨s5, s6, rfl⟩
    obtain ⟨hi, rfl⟩ := rng_at hd
    rw [List.length_map] at hi
    obtain ⟨bo, fl⟩ := fb_ok (n := n) (G := G) i
    have st : fb G (bs0 n) (i + 1) = fbS G (fb G (bs0 n) i) i := rfl
    rw [st]
    unfold fbS
    generalize fb G (bs0 n) i = pr at *
    obtain ⟨fr, bs⟩ := pr
    simp only at bo fl ⊢
    have bl := bo.1
    and_intros
    refine W_mCompE (fun r acc => acc = (((List.range r).filter fun r => decide (fo G (bs.getD r []) = some i)).map fun (x : Nat) => (x : Int)).map PyData.int) rfl ?_ ?_
    · rintro r d ac hr rfl
      obtain ⟨hrl, rfl⟩ := row_at hr
      obtain ⟨_, rl, _⟩ := bo.at (i := r) (by omega)
      have fll := List.length_filter_le (fun r => decide (fo G (bs.getD r []) = some i)) (List.range r)
      rw [List.length_range] at fll
      have step : (List.range (r + 1)).filter (fun r => decide (fo G (bs.getD r []) = some i)) = (List.range r).filter (fun r => decide (fo G (bs.getD r []) = some i)) ++ (if fo G (bs.getD r []) = some i then [r] else []) := by
        rw [List.range_succ, List.filter_append]
        congr 1
        exact filt1 fun r => fo G (bs.getD r []) = some i
      rw [step]
      generalize bs.getD r [] = row at *
      and_intros
      refine first_odd_w hG rl hn ?_
      cases q : fo G row with
      | none =>
        rw [if_neg (by exact fun z => nomatch z), List.append_nil]
        simp only [foD]
        and_intros
        rw [eqv_ni]
        and_intros
        exact ⟨trivial, rfl⟩
      | some j =>
        simp only [foD]
        by_cases hj : j = i
        · subst hj
          rw [if_pos rfl]
          and_intros
          refine ⟨by rw [List.length_map, List.length_map]; omega, ?_, rfl⟩
          rw [List.map_append, List.map_append]
          rfl
        · rw [if_neg (by exact fun z => hj (Option.some.inj z)), List.append_nil]
          and_intros
          refine (if_neg (by omega)).mpr ?_
          exact ⟨trivial, rfl⟩
    · rintro ac rfl
      have lb : (enumD (bs.map fun (r : List Int) => iL r)).length = bs.length := by unfold enumD; rw [List.length_mapIdx, List.length_map]
      rw [lb]
      have hod : (List.range bs.length).filter (fun r => decide (fo G (bs.getD r []) = some i)) = oddR G bs i := rfl
      rw [hod]
      clear hod
      have ol := oddR_len (G := G) (bs := bs) (i := i)
      have oh := oddR_head (G := G) (bs := bs) (i := i)
      generalize oddR G bs i = od at *
      and_intros
      by_cases q : od = []
      · subst q
        refine (if_pos rfl).mpr ?_
        exact ⟨_, _, rfl⟩
      · have em : ¬ ((od.map fun (x : Nat) => (x : Int)).map PyData.int).isEmpty = true := by
          cases od with
          | nil => exact absurd rfl q
          | cons a l => exact fun z => (nomatch z)
        refine (if_neg em).mpr ?_
        and_intros
        refine ⟨by rw [List.length_map, List.length_map]; omega, ?_⟩
        and_intros
        refine evened_w bo hn (by omega) q (by rw [← bl]; exact oh q) (by omega) ?_
        and_intros
        rw [if_neg q]
        refine ⟨some (.dat (.int (i : Int))), some (.dat (nL od)), ?_⟩
        simp only [nL_snoc]
  · rintro e ⟨s5, s6, rfl⟩
    rw [List.length_map, List.length_range, List.length_map]
    and_intros
    exact k
def FR (n : Nat) (G : List (Nat × Nat)) : List Nat := (fb G (bs0 n) G.length).1
theorem fb_app {G G' : List (Nat × Nat)} {b : List (List Int)} : ∀ {i : Nat}, i ≤ G.length → fb (G ++ G') b i = fb G b i
  | 0, _ => rfl
  | i + 1, h => by
    show fbS (G ++ G') (fb (G ++ G') b i) i = fbS G (fb G b i) i
    rw [fb_app (by omega)]
    have e : ∀ bs : List (List Int), oddR (G ++ G') bs i = oddR G bs i := fun bs => by
      unfold oddR
      apply List.filter_congr
      intro r _
      have := fo_app (G := G) (G' := G') (xs := bs.getD r []) (i := i) (by omega)
      exact decide_eq_decide.mpr this
    unfold fbS
    rw [e]
theorem fb_pre {G : List (Nat × Nat)} {b : List (List Int)} {a : Nat} : ∀ (j : Nat), ∃ rest, (fb G b (a + j)).1 = (fb G b a).1 ++ rest ∧ ∀ x ∈ rest, a ≤ x
  | 0 => ⟨[], by rw [Nat.add_zero, List.append_nil], fun _ m => by cases m⟩
  | j + 1 => by
    obtain ⟨rest, e, h⟩ := fb_pre (G := G) (b := b) (a := a) j
    show ∃ rest, (fbS G (fb G b (a + j)) (a + j)).1 = _ ∧ _
    unfold fbS
    split
    · exact ⟨rest, e, h⟩
    · refine ⟨rest ++ [a + j], by rw [← List.append_assoc, ← e], fun x m => ?_⟩
      rcases List.mem_append.mp m with m | m
      · exact h x m
      · rw [List.mem_singleton.mp m]; omega
theorem fb_lt {G : List (Nat × Nat)} {b : List (List Int)} : ∀ {i : Nat}, ∀ x ∈ (fb G b i).1, x < i
  | 0, x, m => by cases m
  | i + 1, x, m => by
    have m' : x ∈ (fbS G (fb G b i) i).1 := m
    unfold fbS at m'
    split at m'
    · have := fb_lt x m'; omega
    · rcases List.mem_append.mp m' with m' | m'
      · have := fb_lt x m'; omega
      · rw [List.mem_singleton.mp m']; omega
/-- the free gates of two boards behind one another -/
theorem FR_app {n : Nat} {G G' : List (Nat × Nat)} : ∃ rest, FR n (G ++ G') = FR n G ++ rest ∧ (∀ x ∈ rest, G.length ≤ x) ∧ (∀ x ∈ FR n G, x < G.length) := by
  unfold FR
  rw [List.length_append]
  obtain ⟨rest, e, h⟩ := fb_pre (G := G ++ G') (b := bs0 n) (a := G.length) G'.length
  rw [fb_app (Nat.le_refl _)] at e
  exact ⟨rest, e, h, fb_lt⟩
theorem FR_len {n : Nat} {G : List (Nat × Nat)} : (FR n G).length ≤ G.length := (fb_ok (n := n) (G := G) G.length).2
theorem free_gates_w {n : Nat} {G : List (Nat × Nat)} {Y : Opd × List Mx.Slot → Prop} (hG : Tk.GsOk n G) (hlen : G.length ≤ 24) (n1 : 1 ≤ n) (hn : n ≤ 8)
    (k : Y (.dat (nL (FR n G)), [.brd n (G.map gD)])) : Mx.W (D_free_gates [.brd n (G.map gD)]) Y := by
  unfold D_free_gates ms_free_gates
  and_intros
  refine check_board_w ?_
  and_intros
  refine free_and_basis_w hG hlen n1 hn ?_
  and_intros
  exact k
theorem count_reachable_w {n : Nat} {G : List (Nat × Nat)} {Y : Opd × List Mx.Slot → Prop} (hG : Tk.GsOk n G) (hlen : G.length ≤ 24) (n1 : 1 ≤ n) (hn : n ≤ 8)
    (k : Y (.dat (.int ((2 ^ (FR n G).length : Nat) : Int)), [.brd n (G.map gD)])) : Mx.W (D_count_reachable [.brd n (G.map gD)]) Y := by
  have kl2 : (2 : Int).natAbs.log2 < 40 := lg (by decide) (by decide) (by decide)
  unfold D_count_reachable ms_count_reachable
  and_intros
  refine free_gates_w hG hlen n1 hn ?_
  have fl := FR_len (n := n) (G := G)
  generalize FR n G = F at *
  and_intros
  refine W_mLoop (fun i e => ∃ s2, e = [some (.brd n (G.map gD)), some (.dat (.int ((2 ^ i : Nat) : Int))), s2]) ⟨_, rfl⟩ ?_ ?_
  · rintro i d e hd ⟨s2, rfl⟩
    obtain ⟨hi, rfl⟩ := nat_at hd
    have p24 : (2 : Nat) ^ i ≤ 2 ^ 24 := Nat.pow_le_pow_right (by decide) (by omega)
    have p1 : 1 ≤ (2 : Nat) ^ i := Nat.one_le_two_pow
    have lj := lg (k := 30) (i := ((2 ^ i : Nat) : Int)) (by decide) (by omega) (by omega)
    rw [show ((2 ^ (i + 1) : Nat) : Int) = (2 : Int) * ((2 ^ i : Nat) : Int) by rw [Nat.pow_succ]; omega]
    and_intros
    exact ⟨_, rfl⟩
  · rintro e ⟨s2, rfl⟩
    rw [List.length_map, List.length_map]
    and_intros
    exact k
/-! what the basis spans, which gates are free -/
theorem ev_app : ∀ {G G' : List (Nat × Nat)} {xs : List Int}, Tk.evens (G ++ G') xs ↔ Tk.evens G xs ∧ Tk.evens G' (Tk.half G xs)
  | [], _, _ => ⟨fun h => ⟨trivial, h⟩, fun h => h.2⟩
  | g :: G, G', xs => by
    show (_ ∧ Tk.evens (G ++ G') _) ↔ (_ ∧ _) ∧ Tk.evens G' (Tk.half G _)
    rw [ev_app, and_assoc]
theorem fo_at : ∀ {G : List (Nat × Nat)} {xs : List Int} {i : Nat}, i < G.length → (fo G xs = some i ↔ Tk.evens (G.take i) xs ∧ ¬ Tk.evens (G.take (i + 1)) xs)
  | g :: G, xs, 0, _ => by
    rw [fo_cons]
    show _ ↔ True ∧ ¬ ((xs.getD g.1 0 + xs.getD g.2 0) % 2 = 0 ∧ True)
    split
    · rename_i h
      refine ⟨fun z => ?_, fun z => absurd ⟨h, trivial⟩ z.2⟩
      obtain ⟨a, _, e⟩ := Option.map_eq_some_iff.mp z
      cases e
    · rename_i h
      exact ⟨fun _ => ⟨trivial, fun z => h z.1⟩, fun _ => rfl⟩
  | g :: G, xs, i + 1, hi => by
    rw [fo_cons]
    show _ ↔ ((xs.getD g.1 0 + xs.getD g.2 0) % 2 = 0 ∧ Tk.evens (G.take i) _) ∧ ¬ ((xs.getD g.1 0 + xs.getD g.2 0) % 2 = 0 ∧ Tk.evens (G.take (i + 1)) _)
    have ih := fo_at (G := G) (xs := (xs.set g.1 ((xs.getD g.1 0 + xs.getD g.2 0) / 2)).set g.2 ((xs.getD g.1 0 + xs.getD g.2 0) / 2)) (i := i) (by simpa using hi)
    split
    · rename_i h
      rw [Option.map_eq_some_iff]
      constructor
      · rintro ⟨a, b, e⟩
        have : a = i := by omega
        subst this
        obtain ⟨c, d⟩ := ih.mp b
        exact ⟨⟨h, c⟩, fun z => d z.2⟩
      · rintro ⟨⟨_, c⟩, d⟩
        exact ⟨i, ih.mpr ⟨c, fun z => d ⟨h, z⟩⟩, rfl⟩
    · rename_i h
      exact ⟨fun z => by simp at z, fun z => absurd z.1.1 h⟩
theorem take_snocG {G : List (Nat × Nat)} {i : Nat} (h : i < G.length) : G.take (i + 1) = G.take i ++ [G.getD i (0, 0)] := Tk.take_snoc h
theorem takeOk {n i : Nat} {G : List (Nat × Nat)} (h : Tk.GsOk n G) : Tk.GsOk n (G.take i) := fun g m => h g (List.mem_of_mem_take m)
theorem unit_gen {n : Nat} : ∀ x : List Int, x.length = n → Tk.Gen n (bs0 n) x := by
  have um : ∀ l, l < n → Tk.unit n l ∈ bs0 n := fun l hl => by
    refine List.mem_map.mpr ⟨l, List.mem_range.mpr hl, ?_⟩
    unfold Tk.unit Tk.zeros
    have e : List.replicate n (0 : Int) = List.replicate l 0 ++ 0 :: List.replicate (n - 1 - l) 0 := by
      rw [← List.replicate_succ, List.replicate_append_replicate]
      congr 1
      omega
    rw [e, Tk.set_app (by simp)]
    simp
  have on : ∀ l, l < n → ∀ k : Nat, Tk.Gen n (bs0 n) (Tk.one n l (k : Int)) := fun l hl k => by
    induction k with
    | zero => rw [show ((0 : Nat) : Int) = 0 from rfl, Tk.one_zero hl]; exact .zero
    | succ k ih =>
      rw [show ((k + 1 : Nat) : Int) = (k : Int) + 1 from rfl, ← Tk.one_add hl]
      exact .add ih (.row (um l hl))
  have oz : ∀ l, l < n → ∀ k : Int, Tk.Gen n (bs0 n) (Tk.one n l k) := fun l hl k => by
    rcases Int.eq_nat_or_neg k with ⟨m, rfl | rfl⟩
    · exact on l hl m
    · rw [← Tk.one_neg hl]
      exact .neg (on l hl m)
  have key : ∀ m, m ≤ n → ∀ x : List Int, x.length = n → (∀ i, m ≤ i → x.getD i 0 = 0) → Tk.Gen n (bs0 n) x := by
    intro m
    induction m with
    | zero =>
      intro _ x hx h0
      rw [show x = Tk.zeros n from Tk.eq_get hx Tk.zeros_len fun i => by rw [h0 i (Nat.zero_le i), Tk.zeros_get]]
      exact .zero
    | succ m ih =>
      intro hm x hx h0
      have e : x = Tk.add (Tk.one n m (x.getD m 0)) (x.set m 0) := Tk.eq_get hx (Tk.add_ln Tk.one_len (by rw [List.length_set, hx])) fun i => by
        rw [Tk.add_gt Tk.one_len (by rw [List.length_set, hx]), Tk.one_get (by omega)]
        by_cases c : i = m
        · subst c
          rw [if_pos rfl, List.getD_eq_getElem?_getD (l := x.set i 0), List.getElem?_set_self (by omega)]
          simp
        · rw [if_neg c, List.getD_eq_getElem?_getD (l := x.set m 0), List.getElem?_set_ne (fun z => c z.symm), ← List.getD_eq_getElem?_getD]
          omega
      rw [e]
      refine .add (oz m (by omega) _) (ih (by omega) _ (by rw [List.length_set, hx]) fun i hi => ?_)
      by_cases c : i = m
      · subst c
        rw [List.getD_eq_getElem?_getD, List.getElem?_set_self (by omega)]
        rfl
      · rw [List.getD_eq_getElem?_getD, List.getElem?_set_ne (fun z => c z.symm), ← List.getD_eq_getElem?_getD]
        exact h0 i (by omega)
  exact fun x hx => key n (Nat.le_refl n) x hx fun i hi => by rw [List.getD_eq_getElem?_getD, List.getElem?_eq_none (by omega)]; rfl
theorem sub_add_neg {x y : List Int} {n : Nat} (hx : x.length = n) (hy : y.length = n) : sub x y = Tk.add x (Tk.neg y) := by
  unfold sub Tk.add Tk.neg
  rw [List.zipWith_map_right]
  congr 1
  funext a b
  omega
theorem dbl_add {x : List Int} : (x.map fun a => 2 * a) = Tk.add x x := by
  unfold Tk.add
  rw [List.zipWith_self]
  congr 1
  funext a
  omega
/-- rows of a basis: neutral for the gates before, and they span all that is so -/
structure Bas (n : Nat) (G : List (Nat × Nat)) (bs : List (List Int)) : Prop where
  len : ∀ b ∈ bs, b.length = n
  ev : ∀ b ∈ bs, Tk.evens G b
  gen : ∀ x : List Int, x.length = n → Tk.evens G x → Tk.Gen n bs x
theorem evn_mem {bs : List (List Int)} {odd : List Nat} {x : List Int} (h : x ∈ evn bs odd) : x = ((bs.getD (odd.getD 0 0) []).map fun x => 2 * x) ∨ ∃ r, r < bs.length ∧ r ≠ odd.getD 0 0 ∧ x = if r ∈ odd then sub (bs.getD r []) (bs.getD (odd.getD 0 0) []) else bs.getD r [] := by
  unfold evn at h
  obtain ⟨i, hi⟩ := List.getElem?_of_mem h
  by_cases c : odd.getD 0 0 = i
  · rw [List.getElem?_set, if_pos c] at hi
    split at hi
    · exact .inl (Option.some.inj hi).symm
    · cases hi
  · rw [List.getElem?_set_ne c, List.getElem?_mapIdx] at hi
    obtain ⟨a, ha, e⟩ := Option.map_eq_some_iff.mp hi
    have hl := (List.getElem?_eq_some_iff.mp ha).1
    have e2 : bs.getD i [] = a := by rw [List.getD_eq_getElem?_getD, ha]; rfl
    refine .inr ⟨i, hl, fun z => c z.symm, ?_⟩
    rw [e2]
    exact e.symm
theorem mem_evn {bs : List (List Int)} {odd : List Nat} {r : Nat} (h : r < bs.length) (c : r ≠ odd.getD 0 0) : (if r ∈ odd then sub (bs.getD r []) (bs.getD (odd.getD 0 0) []) else bs.getD r []) ∈ evn bs odd := by
  unfold evn
  refine List.mem_of_getElem? (i := r) ?_
  have e : bs.getD r [] = bs[r] := by
    rw [List.getD_eq_getElem?_getD, List.getElem?_eq_getElem h]
    rfl
  rw [List.getElem?_set_ne (fun z => c z.symm), List.getElem?_mapIdx, List.getElem?_eq_getElem h, e]
  rfl
theorem dbl_evn {bs : List (List Int)} {odd : List Nat} (h : odd.getD 0 0 < bs.length) : ((bs.getD (odd.getD 0 0) []).map fun x => 2 * x) ∈ evn bs odd := by
  unfold evn
  refine List.mem_of_getElem? (i := odd.getD 0 0) ?_
  rw [List.getElem?_set_self (by rw [List.length_mapIdx]; exact h)]
theorem at_mem {bs : List (List Int)} {r : Nat} (h : r < bs.length) : bs.getD r [] ∈ bs := by
  rw [List.getD_eq_getElem?_getD, List.getElem?_eq_getElem h]
  exact List.getElem_mem _
theorem bas_step {n i : Nat} {G : List (Nat × Nat)} {bs : List (List Int)} (hG : Tk.GsOk n G) (hi : i < G.length) (B : Bas n (G.take i) bs) :
    (oddR G bs i ≠ [] ↔ Tk.Free n (G.take i) (G.getD i (0, 0))) ∧ (oddR G bs i = [] → Bas n (G.take (i + 1)) bs) ∧ (oddR G bs i ≠ [] → Bas n (G.take (i + 1)) (evn bs (oddR G bs i))) := by
  have hT := takeOk (i := i) hG
  have mem : ∀ r, r ∈ oddR G bs i ↔ r < bs.length ∧ ¬ Tk.evens (G.take (i + 1)) (bs.getD r []) := fun r => by
    unfold oddR
    rw [List.mem_filter, List.mem_range, decide_eq_true_iff, fo_at hi]
    exact ⟨fun h => ⟨h.1, h.2.2⟩, fun h => ⟨h.1, B.ev _ (at_mem h.1), h.2⟩⟩
  rw [take_snocG hi] at mem ⊢
  have par : ∀ b ∈ bs, (¬ Tk.evens (G.take i ++ [G.getD i (0, 0)]) b ↔ Tk.mny (G.take i) (G.getD i (0, 0)) b % 2 = 1) := fun b hb => by
    rw [Tk.ev_snoc]
    constructor
    · intro h
      rcases Int.emod_two_eq (Tk.mny (G.take i) (G.getD i (0, 0)) b) with z | z
      · exact absurd ⟨B.ev b hb, z⟩ h
      · exact z
    · intro h z
      rw [z.2] at h
      cases h
  have none : oddR G bs i = [] → ∀ b ∈ bs, Tk.evens (G.take i ++ [G.getD i (0, 0)]) b := fun e b hb => by
    obtain ⟨r, hr⟩ := List.getElem?_of_mem hb
    have hl := (List.getElem?_eq_some_iff.mp hr).1
    have e2 : bs.getD r [] = b := by rw [List.getD_eq_getElem?_getD, hr]; rfl
    refine Classical.byContradiction fun z => ?_
    have : r ∈ oddR G bs i := (mem r).mpr ⟨hl, by rw [e2]; exact z⟩
    rw [e] at this
    cases this
  have hT2 : Tk.GsOk n (G.take i ++ [G.getD i (0, 0)]) := by rw [← take_snocG hi]; exact takeOk hG
  refine ⟨⟨fun h => ?_, fun ⟨a, la, ea, oa⟩ z => ?_⟩, fun e => ⟨B.len, none e, fun x lx ex => B.gen x lx (Tk.ev_snoc.mp ex).1⟩, fun h => ?_⟩
  · have h0 := oddR_head h
    have hm : (oddR G bs i).getD 0 0 ∈ oddR G bs i := by
      cases q : oddR G bs i with
      | nil => exact absurd q h
      | cons a l => exact List.mem_cons_self ..
    exact ⟨bs.getD ((oddR G bs i).getD 0 0) [], B.len _ (at_mem h0), B.ev _ (at_mem h0), ((mem _).mp hm).2⟩
  · exact oa ((B.gen a la ea).ev hT2 B.len (none z))
  · have h0 := oddR_head h
    have hm : (oddR G bs i).getD 0 0 ∈ oddR G bs i := by
      cases q : oddR G bs i with
      | nil => exact absurd q h
      | cons a l => exact List.mem_cons_self ..
    obtain ⟨ch, hch⟩ : ∃ ch, ch = bs.getD ((oddR G bs i).getD 0 0) [] := ⟨_, rfl⟩
    have cm : ch ∈ bs := by rw [hch]; exact at_mem h0
    have lc := B.len ch cm
    have ec := B.ev ch cm
    have oc : Tk.mny (G.take i) (G.getD i (0, 0)) ch % 2 = 1 := (par ch cm).mp (by rw [hch]; exact ((mem _).mp hm).2)
    have d2 : Tk.add ch ch ∈ evn bs (oddR G bs i) := by rw [← dbl_add, hch]; exact dbl_evn h0
    have rowm : ∀ b ∈ bs, b = ch ∨ (if Tk.mny (G.take i) (G.getD i (0, 0)) b % 2 = 1 then Tk.add b (Tk.neg ch) else b) ∈ evn bs (oddR G bs i) := fun b hb => by
      obtain ⟨r, hr⟩ := List.getElem?_of_mem hb
      have hl := (List.getElem?_eq_some_iff.mp hr).1
      have e2 : bs.getD r [] = b := by rw [List.getD_eq_getElem?_getD, hr]; rfl
      by_cases c : r = (oddR G bs i).getD 0 0
      · left
        rw [hch, ← c, e2]
      · right
        have := mem_evn (odd := oddR G bs i) hl c
        rw [e2, ← hch, sub_add_neg (B.len b hb) lc] at this
        have q : r ∈ oddR G bs i ↔ Tk.mny (G.take i) (G.getD i (0, 0)) b % 2 = 1 := by
          rw [mem r, e2, ← par b hb]
          exact ⟨fun z => z.2, fun z => ⟨hl, z⟩⟩
        by_cases w : r ∈ oddR G bs i
        · rw [if_pos w] at this
          rw [if_pos (q.mp w)]
          exact this
        · rw [if_neg w] at this
          rw [if_neg fun z => w (q.mpr z)]
          exact this
    refine ⟨fun x hx => ?_, fun x hx => ?_, fun x lx ex => ?_⟩
    · rcases evn_mem hx with rfl | ⟨r, hl, _, rfl⟩
      · rw [← hch, List.length_map, lc]
      · have lr := B.len _ (at_mem hl)
        split
        · rw [← hch, sub_add_neg lr lc]
          exact Tk.add_ln lr (Tk.neg_ln lc)
        · exact lr
    · rw [Tk.ev_snoc]
      rcases evn_mem hx with rfl | ⟨r, hl, _, rfl⟩
      · rw [← hch, dbl_add]
        refine ⟨Tk.ev_add hT lc lc ec ec, ?_⟩
        rw [Tk.mny_add hT lc lc ec]
        omega
      · have bm := at_mem hl
        have lr := B.len _ bm
        have er := B.ev _ bm
        split
        · rename_i w
          rw [← hch, sub_add_neg lr lc]
          refine ⟨Tk.ev_add hT lr (Tk.neg_ln lc) er (Tk.ev_neg hT lc ec), ?_⟩
          have := (par _ bm).mp ((mem r).mp w).2
          rw [Tk.mny_add hT lr (Tk.neg_ln lc) er, Tk.mny_neg hT lc ec]
          omega
        · rename_i w
          exact Tk.ev_snoc.mp (Classical.byContradiction fun z => w ((mem r).mpr ⟨hl, z⟩))
    · obtain ⟨ex1, ex2⟩ := Tk.ev_snoc.mp ex
      refine (Tk.Gen.step (bs := bs) (cs := evn bs (oddR G bs i)) hT B.len B.ev lc ec oc (.row d2) (fun b hb z => ?_) (fun b hb z => ?_) (B.gen x lx ex1)).1 ex2
      · rcases rowm b hb with rfl | m
        · omega
        · rw [if_neg (by omega)] at m
          exact .row m
      · rcases rowm b hb with rfl | m
        · rw [Tk.add_neg lc]
          exact .zero
        · rw [if_pos z] at m
          exact .row m
theorem fb_bas {n : Nat} {G : List (Nat × Nat)} (hG : Tk.GsOk n G) : ∀ i, i ≤ G.length → Bas n (G.take i) (fb G (bs0 n) i).2
  | 0, _ => ⟨fun b hb => (bs0_ok.2 b hb).1, fun _ _ => trivial, fun x lx _ => unit_gen x lx⟩
  | i + 1, hi => by
    have B := fb_bas hG i (by omega)
    obtain ⟨_, h1, h2⟩ := bas_step hG (by omega) B
    show Bas n _ (fbS G (fb G (bs0 n) i) i).2
    unfold fbS
    split
    · rename_i q
      exact h1 q
    · rename_i q
      exact h2 q
theorem fb_free {n i : Nat} {G : List (Nat × Nat)} (hG : Tk.GsOk n G) (hi : i < G.length) :
    (Tk.Free n (G.take i) (G.getD i (0, 0)) → (fb G (bs0 n) (i + 1)).1 = (fb G (bs0 n) i).1 ++ [i]) ∧ (¬ Tk.Free n (G.take i) (G.getD i (0, 0)) → (fb G (bs0 n) (i + 1)).1 = (fb G (bs0 n) i).1) := by
  obtain ⟨h0, _, _⟩ := bas_step hG hi (fb_bas hG i (by omega))
  refine ⟨fun f => ?_, fun f => ?_⟩
  · show (fbS G (fb G (bs0 n) i) i).1 = _
    unfold fbS
    rw [if_neg (h0.mpr f)]
  · show (fbS G (fb G (bs0 n) i) i).1 = _
    unfold fbS
    rw [if_pos (Classical.byContradiction fun z => f (h0.mp z))]
/-- how many settings can be reached with the first gates -/
theorem rs_fb {n : Nat} {G : List (Nat × Nat)} (hG : Tk.GsOk n G) : ∀ i, i ≤ G.length → ∀ (s : List Int) (K : List (List Int)), Tk.bits s → s.length = i → Tk.Rs n (G.take i) s K → K.length = 2 ^ (fb G (bs0 n) i).1.length
  | 0, _, s, K, hb, hl, hK => by
    have e : s = [] := List.eq_nil_of_length_eq_zero hl
    subst e
    have pm := (List.perm_ext_iff_of_nodup hK.1 (show ([([] : List Int)]).Nodup by simp)).mpr fun t => by
      rw [hK.2, List.mem_singleton]
      constructor
      · rintro ⟨xs, _, rfl⟩; rfl
      · rintro rfl; exact ⟨Tk.zeros n, Tk.zeros_len, rfl⟩
    exact pm.length_eq
  | i + 1, hi, s, K, hb, hl, hK => by
    have ne : s ≠ [] := fun z => by rw [z] at hl; cases hl
    obtain ⟨u, b, rfl⟩ : ∃ u b, s = u ++ [b] := ⟨_, _, (List.dropLast_concat_getLast ne).symm⟩
    have lu : u.length = i := by simpa using hl
    have lt : u.length = (G.take i).length := by rw [List.length_take]; omega
    have bu : Tk.bits u := fun p m => hb p (List.mem_append_left _ m)
    have bb : Tk.bit b := hb b (List.mem_append_right _ (List.mem_singleton.mpr rfl))
    rw [take_snocG (by omega)] at hK
    obtain ⟨K0, h0⟩ := Tk.rs_exists (n := n) lt
    have ih := rs_fb hG i (by omega) u K0 bu lu h0
    have hT2 : Tk.GsOk n (G.take i ++ [G.getD i (0, 0)]) := by rw [← take_snocG (by omega)]; exact takeOk hG
    obtain ⟨s1, s2⟩ := Tk.rs_step hT2 bu lt bb h0 hK
    obtain ⟨f1, f2⟩ := fb_free (n := n) hG (show i < G.length by omega)
    by_cases f : Tk.Free n (G.take i) (G.getD i (0, 0))
    · rw [s1 f, f1 f, ih, List.length_append, List.length_singleton, Nat.pow_succ]
      omega
    · rw [s2 f, f2 f, ih]
theorem enum_at2 {G : List (Nat × Nat)} {i : Nat} {d : D} (h : (enumD (G.map gD))[i]? = some d) : i < G.length ∧ d = .tuple [.int i, .tuple [.int (G.getD i (0, 0)).1, .int (G.getD i (0, 0)).2]] := enum_at h
theorem law_token_w {n l : Nat} {G : List (Nat × Nat)} {ps : List Int} {Y : Opd × List Mx.Slot → Prop} (hG : Tk.GsOk n G) (hlen : G.length ≤ 24) (hl : l < n) (hn : n ≤ 8) (pb : Tk.bits ps) (pl : ps.length = G.length)
    (k : Y (.dat (.tuple [.int (Tk.passL G ps l), iL (Tk.passP G ps l)]), [.dat (.list (G.map gD)), .dat (iL ps), .dat (.int l)])) : Mx.W (D_law_token [.dat (.list (G.map gD)), .dat (iL ps), .dat (.int l)]) Y := by
  unfold D_law_token ms_law_token
  and_intros
  refine W_mLoop (fun i e => ∃ s4 s5, e = [some (.dat (.list (G.map gD))), some (.dat (iL ps)), some (.dat (.int (Tk.paL G ps l i))), some (.own true (iL (Tk.paP G ps l i))), s4, s5]) ⟨_, _, rfl⟩ ?_ ?_
  · rintro i d e hd ⟨s4, s5, rfl⟩
    obtain ⟨hi, rfl⟩ := enum_at hd
    obtain ⟨g1, g2, gn⟩ := hG.at hi
    have sL := Tk.paL_succ (l := l) pl hi
    have sP := Tk.paP_succ (l := l) pl hi
    have pg := Tk.paP_get (l := l) pl hi
    have pL := Tk.paP_len (l := l) pl (Nat.le_of_lt hi)
    have bt := pb.at (show i < ps.length by omega)
    generalize Tk.paL G ps l (i + 1) = L' at *
    generalize Tk.paP G ps l (i + 1) = P' at *
    generalize Tk.paL G ps l i = L at *
    generalize Tk.paP G ps l i = P at *
    generalize G.getD i (0, 0) = g at *
    obtain ⟨f, s⟩ := g
    simp only at g1 g2 gn
    have e2 : atI (P.map PyData.int) (i : Int) = some (.int (ps.getD i 0)) := by rw [← pg]; exact atI_ints (by omega)
    have e5 : ixN (P.map PyData.int).length (i : Int) = some i := ixN_nat (by rw [List.length_map]; omega)
    and_intros
    by_cases a : L = f
    · refine (if_pos (by omega)).mpr ?_
      have on : L = f ∨ L = s := by omega
      rw [Tk.goL_on on] at sL
      rw [Tk.goP_on on] at sP
      rcases bt with b | b
      all_goals
        rw [b] at e2 sL sP
        and_intros
        refine W_of e2 ?_
        and_intros
        refine W_of e2 ?_
        and_intros
        refine W_of e5 ?_
        simp only [set_ints]
        and_intros
        subst sL
        subst sP
        exact ⟨_, _, rfl⟩
    · refine (if_neg (by omega)).mpr ?_
      and_intros
      by_cases c : L = s
      · refine (if_pos (by omega)).mpr ?_
        have on : L = f ∨ L = s := by omega
        rw [Tk.goL_on on] at sL
        rw [Tk.goP_on on] at sP
        rcases bt with b | b
        all_goals
          rw [b] at e2 sL sP
          and_intros
          refine W_of e2 ?_
          and_intros
          refine W_of e2 ?_
          and_intros
          refine W_of e5 ?_
          simp only [set_ints]
          and_intros
          subst sL
          subst sP
          exact ⟨_, _, rfl⟩
      · refine (if_neg (by omega)).mpr ?_
        have off : ¬ (L = f ∨ L = s) := by omega
        rw [Tk.goL_off off] at sL
        rw [Tk.goP_off off, ← pg, Tk.set_same (by omega)] at sP
        and_intros
        subst sL
        subst sP
        exact ⟨_, _, rfl⟩
  · rintro e ⟨s4, s5, rfl⟩
    have ln : (enumD (G.map gD)).length = G.length := by unfold enumD; rw [List.length_mapIdx, List.length_map]
    rw [ln, Tk.paL_all pl, Tk.paP_all pl]
    and_intros
    exact k
/-! the search over settings -/
abbrev tB (K : List (List Int)) : D := .dict (tD (K.map fun t => (t, PyData.bool true)))
abbrev wL (Wt : List (List Int)) : D := .list (Wt.map fun t => iL t)
theorem lk_tB : ∀ {K : List (List Int)} {t : List Int}, (lkx (K.map fun t => (t, PyData.bool true)) t).isSome = decide (t ∈ K) := by
  intro K t
  rw [lkx_isSome]
  induction K with
  | nil => simp
  | cons a K ih =>
    rw [List.map_cons, List.any_cons, ih]
    by_cases e : a = t
    · subst e; simp
    · have : decide (a = t) = false := decide_eq_false e
      show (decide (a = t) || _) = _
      rw [this, Bool.false_or]
      exact decide_eq_decide.mpr ⟨fun m => List.mem_cons_of_mem _ m, fun m => (List.mem_cons.mp m).resolve_left fun z => e z.symm⟩
theorem keys_tB {K : List (List Int)} : (K.map fun t => (t, PyData.bool true)).map (·.1) = K := by
  rw [List.map_map]
  exact List.map_id _
theorem lay_rows : ∀ {Wt : List (List Int)}, PyData.canLayAll0 (Wt.map fun t => iL t) = true
  | [] => by simp only [List.map_nil, PyData.canLayAll0]
  | x :: xs => by simp only [List.map_cons, PyData.canLayAll0, PyData.canLay0, lay_ints, lay_rows (Wt := xs), Bool.and_self]
theorem dep_rows : ∀ {Wt : List (List Int)}, PyData.depthAll (Wt.map fun t => iL t) ≤ 1
  | [] => by simp only [List.map_nil, PyData.depthAll]; omega
  | x :: xs => by
    have := dep_rows (Wt := xs)
    simp only [List.map_cons, PyData.depthAll, PyData.depth, dep_ints]
    omega
theorem shapedW {Wt : List (List Int)} : SeqAt.shaped (wL Wt) = true := by
  unfold SeqAt.shaped
  rw [Bool.and_eq_true]
  refine ⟨by simp only [PyData.canLay0, lay_rows], ?_⟩
  have := dep_rows (Wt := Wt)
  simp only [PyData.depth]
  exact decide_eq_true (by omega)
theorem shaped0 : SeqAt.shaped (.list []) = true := shapedW (Wt := [])
theorem eqv_wnil {Wt : List (List Int)} : PyData.eqv (wL Wt) (.list []) = Wt.isEmpty := by
  cases Wt with
  | nil => simp [PyData.eqv, PyData.eqvAll]
  | cons a l => simp [PyData.eqv, PyData.eqvAll]
theorem tup_ints {t : List Int} : kdOf (.tuple (t.map PyData.int)) = some (.t t) := kdOf_ints
def lstG : D → D
  | .tuple ds => .list ds
  | d => d
theorem lstG_map {L : List (List Int)} : (L.map tuI).map lstG = L.map fun t => iL t := by
  rw [List.map_map]
  rfl
theorem law_found_w {n : Nat} {G : List (Nat × Nat)} {s : List Int} {Y : Opd × List Mx.Slot → Prop} (hG : Tk.GsOk n G) (hlen : G.length ≤ 8) (hn : n ≤ 8) (pb : Tk.bits s) (pl : s.length = G.length)
    (k : ∀ K, Tk.Rs n G s K → K.length ≤ 256 → Y (.new (wL (sortT K)), [.dat (.int n), .dat (.list (G.map gD)), .dat (iL s)])) : Mx.W (D_law_found [.dat (.int n), .dat (.list (G.map gD)), .dat (iL s)]) Y := by
  unfold D_law_found ms_law_found
  have p8 : 2 ^ G.length ≤ 256 := Nat.le_trans (Nat.pow_le_pow_right (by decide) hlen) (by decide)
  and_intros
  refine W_mWhile (fun m e => ∃ K Wt s5 s6 s7 s8, e = [some (.dat (.int n)), some (.dat (.list (G.map gD))), some (.dat (iL s)), some (.own true (tB K)), some (.own true (wL Wt)), s5, s6, s7, s8] ∧ Tk.Dfs n G s K Wt ∧ m = 2 * (256 - K.length) + Wt.length ∧ m ≤ 511) (m := 2 * (256 - 1) + 1) (by decide) ⟨[s], [s], _, _, _, _, rfl, Tk.Dfs.start hG pb pl, rfl, by decide⟩ ?_
  rintro m e ⟨K, Wt, s5, s6, s7, s8, rfl, hD, rfl, hm0⟩
  have hK := Tk.reach_le pl hD.nd hD.re
  and_intros
  refine ⟨by rw [shapedW, shaped0]; rfl, ?_⟩
  rw [eqv_wnil]
  rcases List.eq_nil_or_concat Wt with rfl | ⟨W0, t, rfl⟩
  · have hR := hD.fin hG pb pl
    have okK : okT ((K.map fun t => (t, PyData.bool true)).map (·.1)) = true := by
      rw [keys_tB]
      refine okT_of (n := G.length) (fun u m => ((hD.re u m).ok pl).2) fun z => ?_
      rw [z] at hK
      exact hK
    have neK : K.map (fun t => (t, PyData.bool true)) ≠ [] := fun z => by
      have := hD.st
      rw [List.map_eq_nil_iff.mp z] at this
      cases this
    and_intros
    refine (if_pos rfl).mpr ?_
    and_intros
    refine W_of (fSortKT_t rfl okK neK) ?_
    rw [keys_tB]
    and_intros
    refine comp_map (g := lstG) (by rw [List.length_map, (sortT_perm K).length_eq]; omega) (fun d hd => ?_) ?_
    · obtain ⟨u, _, rfl⟩ := List.mem_map.mp hd
      and_intros
      exact ⟨rfl, rfl⟩
    · rw [lstG_map]
      and_intros
      exact k K hR (by omega)
  · rw [List.concat_eq_append] at *
    have ne : (W0 ++ [t]).isEmpty = false := by simp
    rw [ne]
    have hP := hD.pop
    have ht := (hD.re t (hD.wt t (List.mem_append_right _ (List.mem_singleton.mpr rfl)))).ok pl
    have e1 : (List.map (fun t => iL t) (W0 ++ [t]))[(List.map (fun t => iL t) (W0 ++ [t])).length - 1]? = some (iL t) := by simp
    have e2 : (List.map (fun t => iL t) (W0 ++ [t])).dropLast = W0.map (fun t => iL t) := by simp
    and_intros
    refine W_of e1 ?_
    rw [e2]
    and_intros
    refine W_mLoop (fun i e => ∃ K' W' s6 s7 s8, e = [some (.dat (.int n)), some (.dat (.list (G.map gD))), some (.dat (iL s)), some (.own true (tB K')), some (.own true (wL W')), some (.dat (iL t)), s6, s7, s8] ∧ Tk.DfsI n G s t i K' W' ∧ 2 * (256 - K'.length) + W'.length < 2 * (256 - K.length) + (W0 ++ [t]).length) ⟨K, W0, _, _, _, rfl, hP, by simp⟩ ?_ ?_
    · rintro i d e hd ⟨K', W', s6, s7, s8, rfl, hI, hm⟩
      obtain ⟨hi, rfl⟩ := rng_at hd
      have hK' := Tk.reach_le pl hI.nd hI.re
      obtain ⟨P, hPd⟩ : ∃ P, P = Tk.passP G t i := ⟨_, rfl⟩
      have neK : K'.map (fun t => (t, PyData.bool true)) ≠ [] := fun z => by
        have := hI.st
        rw [List.map_eq_nil_iff.mp z] at this
        cases this
      have lW : W'.length < 2000 := by omega
      and_intros
      refine ⟨by simp, ?_⟩
      and_intros
      refine law_token_w hG (by omega) hi hn ht.1 ht.2 ?_
      rw [← hPd]
      and_intros
      have gi := gInG_t (neg := true) (l := P) neK
      have sn := lk_tB (K := K') (t := P)
      by_cases m : P ∈ K'
      · rw [sn, decide_eq_true m] at gi
        refine W_of gi ?_
        and_intros
        exact ⟨K', W', _, _, _, rfl, hI.old (hPd ▸ m), hm⟩
      · rw [sn, decide_eq_false m] at gi
        have kO := kOk_tD (l := P) neK
        refine W_of gi ?_
        and_intros
        refine ⟨⟨kO, by rw [eD_len, List.length_map]; omega⟩, ?_⟩
        and_intros
        have gpe : gp (tD (K'.map fun t => (t, PyData.bool true))) (KD.t P) (.bool true) = tD ((K' ++ [P]).map fun t => (t, PyData.bool true)) := by
          rw [gp_eD encT_inj, pkx_new (by
            cases q : lkx (K'.map fun t => (t, PyData.bool true)) P with
            | none => rfl
            | some v =>
              rw [q, decide_eq_false m] at sn
              cases sn), List.map_append]
          rfl
        refine ⟨by show (List.map _ _).length < _; rw [List.length_map]; omega, K' ++ [P], W' ++ [P], some (.dat (.int i)), some (.dat (iL P)), s8, ?_, by rw [hPd]; exact hI.new hG pb pl hi (hPd ▸ m), ?_⟩
        · have ew : W'.map (fun t => iL t) ++ [iL P] = (W' ++ [P]).map (fun t => iL t) := by rw [List.map_append]; rfl
          simp only [List.set_cons_succ, List.set_cons_zero]
          rw [gpe, ew]
        · have := Tk.reach_le pl (hI.new hG pb pl hi (hPd ▸ m)).nd (hI.new hG pb pl hi (hPd ▸ m)).re
          simp only [List.length_append, List.length_singleton] at this ⊢
          simp only [List.length_append, List.length_singleton] at hm
          omega
    · rintro e ⟨K', W', s6, s7, s8, rfl, hI, hm⟩
      have hI' : Tk.DfsI n G s t n K' W' := by simpa using hI
      and_intros
      exact ⟨_, hm, K', W', _, _, _, _, rfl, hI'.done, rfl, by omega⟩
theorem gd_int {i : Int} (h1 : -1000000000000000000000000000000000 < i) (h2 : i < 1000000000000000000000000000000000) : Gd 0 200 (.int i) := by
  have l := lg (k := 200) (i := i) (by decide) (by omega) (by omega)
  refine ⟨?_, ?_, ?_, ?_, ?_⟩
  · simp only [PyData.showable]
    exact decide_eq_true (by omega)
  · simp only [PyData.depth]
    omega
  · simp only [okD]
  · simp only [PyData.leavesShort]
    refine decide_eq_true ?_
    rw [PyData.shown_int]
    have := PySem.int_text_length_le10 (a := i) (k := 33) (by decide) (by omega)
    rw [PySem.ofString_length]
    omega
  · simp only [PyData.weight]
    split <;> omega
theorem gd_ints {xs : List Int} {m : Nat} (h : ∀ x ∈ xs, -1000000000000000000000000000000000 < x ∧ x < 1000000000000000000000000000000000) (hl : xs.length ≤ m) : Gd 1 (m * 201) (iL xs) := by
  refine Gd.list (k := 0) (w := 200) (fun d hd => ?_) (by rw [List.length_map]; exact hl)
  obtain ⟨x, hx, rfl⟩ := List.mem_map.mp hd
  exact gd_int (h x hx).1 (h x hx).2
theorem shown_eq {d : D} (h : okD d = true) : (SeqAt.shaped (.str d.shown) && SeqAt.shaped (.str d.shown)) = true := by
  rw [shaped_str (shown_ok d h)]
  rfl
theorem eqs {x : Str} : PyData.eqv (.str x) (.str x) = true := by rw [eqv_str]; simp
theorem cutD_lo {ds : List D} {k : Nat} : Mx.cutD ds (some (k : Int)) none = ds.drop k := by
  unfold Mx.cutD
  rw [HT.sIx_nat, show HT.sIx ds.length ds.length none = ds.length from rfl]
  by_cases h : k ≤ ds.length
  · rw [Nat.min_eq_left h, List.take_of_length_le (by rw [List.length_drop]; exact Nat.le_refl _)]
  · rw [Nat.min_eq_right (by omega), List.drop_length, List.take_nil, List.drop_of_length_le (by omega)]
theorem cutD_hi {ds : List D} {k : Nat} : Mx.cutD ds none (some (k : Int)) = ds.take k := by
  unfold Mx.cutD
  rw [HT.sIx_nat, show HT.sIx ds.length 0 none = 0 from rfl, List.drop_zero, Nat.sub_zero]
  by_cases h : k ≤ ds.length
  · rw [Nat.min_eq_left h]
  · rw [Nat.min_eq_right (by omega), List.take_of_length_le (Nat.le_refl _), List.take_of_length_le (by omega)]
def szI (n : Nat) (G : List (Nat × Nat)) (i : Nat) : Int := ((2 ^ (fb G (bs0 n) i).1.length : Nat) : Int)
theorem fb_take {n i : Nat} {G : List (Nat × Nat)} (hi : i ≤ G.length) : fb (G.take i) (bs0 n) i = fb G (bs0 n) i := by
  have := fb_app (G := G.take i) (G' := G.drop i) (b := bs0 n) (i := i) (by rw [List.length_take]; omega)
  rw [List.take_append_drop] at this
  exact this.symm
theorem sz_at {n L k : Nat} {G : List (Nat × Nat)} (h : k ≤ L) : atI (((List.range (L + 1)).map (szI n G)).map PyData.int) (k : Int) = some (.int (szI n G k)) := by
  rw [atI_ints (by rw [List.length_map, List.length_range]; omega)]
  congr 2
  rw [List.getD_eq_getElem?_getD, List.getElem?_map, List.getElem?_range (by omega)]
  rfl
theorem last_at {n L : Nat} {G : List (Nat × Nat)} : atI (((List.range (L + 1)).map (szI n G)).map PyData.int) (-1) = some (.int (szI n G L)) := by
  have h := sz_at (n := n) (G := G) (Nat.le_refl L)
  unfold atI at h ⊢
  have e : (((List.range (L + 1)).map (szI n G)).map PyData.int).length = L + 1 := by simp
  rw [e] at h ⊢
  have e1 : ixN (L + 1) (-1) = ixN (L + 1) (L : Int) := by
    unfold ixN
    rw [if_neg (by decide), if_pos (by omega), if_pos (by omega), if_pos (by omega)]
    congr 1
    omega
  rw [e1]
  exact h
theorem fb_len {n : Nat} {G : List (Nat × Nat)} (i : Nat) : (fb G (bs0 n) i).1.length ≤ i := (fb_ok (n := n) (G := G) i).2
theorem szI_bd {n i : Nat} {G : List (Nat × Nat)} (hi : i ≤ 8) : 1 ≤ szI n G i ∧ szI n G i ≤ 256 := by
  unfold szI
  have h1 := fb_len (n := n) (G := G) i
  have h2 : 2 ^ (fb G (bs0 n) i).1.length ≤ 2 ^ 8 := Nat.pow_le_pow_right (by decide) (by omega)
  have h3 : 1 ≤ 2 ^ (fb G (bs0 n) i).1.length := Nat.one_le_two_pow
  omega
theorem lawTrue : LawTrue D_law 63 := by
  intro ns hns
  have go : Mx.W (D_law [.scr ns]) fun p => p.1 = .dat (.bool true) := by
    unfold D_law ms_law
    and_intros
    refine W_mLoop (fun i e => ∃ s1 s2 s3 s4 s5 s6 s7 s8 s9, e = [some (.scr ns), s1, s2, s3, s4, s5, s6, s7, s8, s9]) ⟨_, _, _, _, _, _, _, _, _, rfl⟩ ?_ ?_
    · rintro i d e hd ⟨s1, s2, s3, s4, s5, s6, s7, s8, s9, rfl⟩
      obtain ⟨c, rfl, c0, c1⟩ : ∃ c : Int, d = .int c ∧ 0 ≤ c ∧ c < 100 := by
        obtain ⟨a, rfl⟩ := range_at hd
        refine ⟨_, rfl, by omega, ?_⟩
        split at a <;> split at a <;> omega
      and_intros
      refine pot_w c0 c1 fun t ht => ?_
      and_intros
      refine W_mLoop (fun i e => ∃ t s3 s4 s5 s6 s7 s8 s9, e = [some (.scr ns), some (.dat (.int c)), some (.own true t), s3, s4, s5, s6, s7, s8, s9] ∧ Tr (i * 200) t) ⟨_, _, _, _, _, _, _, _, rfl, ht⟩ ?_ ?_
      · rintro i d e hd ⟨t, s3, s4, s5, s6, s7, s8, s9, rfl, ht⟩
        have hi : i < 3 := by
          have := (List.getElem?_eq_some_iff.mp hd).1
          simpa using this
        and_intros
        refine law_board_w ht (by omega) (by decide) (by decide) fun n G t1 n1 n2 hG hl h1 => ?_
        have hl8 : G.length ≤ 8 := hl
        have hl24 : G.length ≤ 24 := by omega
        have ll : (G.map gD).length ≤ 8 := by rw [List.length_map]; exact hl8
        and_intros
        refine ⟨board_ok hG n1 n2 hl24, ?_⟩
        and_intros
        refine W_mLoop (fun j e => ∃ s8, e = [some (.scr ns), some (.dat (.int c)), some (.own true t1), some (.dat d), some (.dat (.int n)), some (.dat (.list (G.map gD))), some (.brd n (G.map gD)), some (.own true (iL ((List.range j).map (szI n G)))), s8, s9]) ⟨_, rfl⟩ ?_ ?_
        · rintro j d8 e hd ⟨s8, rfl⟩
          obtain ⟨hj0, rfl⟩ := rng_at hd
          have hj : j ≤ G.length := by rw [List.length_map] at hj0; omega
          and_intros
          rw [cutD_hi, ← List.map_take, Int.toNat_natCast, rep_one, zeros_iL]
          have ltk : (G.take j).length = j := by rw [List.length_take]; omega
          refine law_found_w (takeOk hG) (by omega) n2 (fun p hp => .inl (List.eq_of_mem_replicate hp)) (by rw [Tk.zeros_len, ltk]) fun K hK hK2 => ?_
          have hsz : ((K.length : Nat) : Int) = szI n G j := by
            unfold szI
            rw [rs_fb hG j hj (Tk.zeros j) K (fun p hp => .inl (List.eq_of_mem_replicate hp)) Tk.zeros_len hK]
          have lsz : (List.map (fun t => iL t) (sortT K)).length = K.length := by rw [List.length_map, (sortT_perm K).length_eq]
          and_intros
          rw [lsz, hsz]
          refine ⟨by rw [List.length_map, List.length_map, List.length_range]; omega, ?_⟩
          refine ⟨some (.dat (.int (j : Int))), ?_⟩
          have e1 : List.map PyData.int (List.map (szI n G) (List.range j)) ++ [PyData.int (szI n G j)] = List.map PyData.int (List.map (szI n G) (List.range (j + 1))) := by
            rw [List.range_succ, List.map_append, List.map_append]
            rfl
          simp only [List.set_cons_succ, List.set_cons_zero]
          rw [e1]
        · rintro e ⟨s8, rfl⟩
          have lr : (List.map (fun (i : Nat) => PyData.int (i : Int)) (List.range (((List.map gD G).length : Int) + 1).toNat)).length = G.length + 1 := by simp
          rw [lr]
          and_intros
          refine W_mCompE (fun m acc => acc = ((fb G (bs0 n) m).1.map fun (x : Nat) => (x : Int)).map PyData.int ∧ m ≤ G.length) ⟨rfl, by omega⟩ ?_ ?_
          · rintro m dm ac hr ⟨rfl, _⟩
            obtain ⟨hm0, rfl⟩ := rng_at hr
            have hm : m < G.length := by simpa using hm0
            have a1 : atI (List.map PyData.int (List.map (szI n G) (List.range (G.length + 1)))) ((m : Int) + 1) = some (.int (szI n G (m + 1))) := sz_at (show m + 1 ≤ G.length by omega)
            have a2 := sz_at (n := n) (G := G) (show m ≤ G.length by omega)
            have b2 := szI_bd (n := n) (i := m) (G := G) (by omega)
            have lgm := lg (k := 20) (i := szI n G m) (by decide) (by omega) (by omega)
            have kl2 : (2 : Int).natAbs.log2 < 40 := lg (by decide) (by decide) (by decide)
            have fl := fb_len (n := n) (G := G) m
            obtain ⟨f1, f2⟩ := fb_free (n := n) hG hm
            and_intros
            refine W_of a1 ?_
            and_intros
            refine W_of a2 ?_
            and_intros
            by_cases f : Tk.Free n (G.take m) (G.getD m (0, 0))
            · have e1 : szI n G (m + 1) = 2 * szI n G m := by
                unfold szI
                rw [f1 f, List.length_append, List.length_singleton, Nat.pow_succ]
                omega
              refine (if_pos e1).mpr ?_
              and_intros
              refine ⟨by rw [List.length_map, List.length_map]; omega, ⟨?_, by omega⟩, rfl⟩
              rw [f1 f, List.map_append, List.map_append]
              rfl
            · have e1 : szI n G (m + 1) = szI n G m := by
                unfold szI
                rw [f2 f]
              refine (if_neg (by omega)).mpr ?_
              exact ⟨⟨by rw [f2 f], by omega⟩, rfl⟩
          · rintro ac ⟨rfl, _⟩
            have lr2 : (List.map (fun (i : Nat) => PyData.int (i : Int)) (List.range (((List.map gD G).length : Int)).toNat)).length = G.length := by simp
            rw [lr2]
            have hFR : (fb G (bs0 n) G.length).1 = FR n G := rfl
            rw [hFR]
            have bF := szI_bd (n := n) (i := G.length) (G := G) hl8
            have eF : ((2 ^ (FR n G).length : Nat) : Int) = szI n G G.length := rfl
            have lF := FR_len (n := n) (G := G)
            have bnd : ∀ x ∈ FR n G, x < G.length := fun x m => (FR_app (n := n) (G := G) (G' := [])).choose_spec.2.2 x m
            and_intros
            refine free_gates_w hG hl24 (by omega) n2 ?_
            and_intros
            refine count_reachable_w hG hl24 (by omega) n2 ?_
            rw [eF]
            have gd : Gd 2 (2 * (8 * 201 + 1)) (.list [nL (FR n G), .int (szI n G G.length)]) := Gd.list (k := 1) (w := 8 * 201) (fun x m => by
              rcases List.mem_cons.mp m with rfl | m
              · refine gd_ints (fun x m => ?_) (by rw [List.length_map]; omega)
                obtain ⟨y, my, rfl⟩ := List.mem_map.mp m
                have := bnd y my
                omega
              · rw [List.mem_singleton.mp m]
                exact (gd_int (by omega) (by omega)).mono (by decide) (by decide)) (by simp)
            have shs := shown_eq gd.ok
            have al : atI (List.map PyData.int (List.map (szI n G) (List.range (G.length + 1)))) (-1) = some (.int (szI n G G.length)) := last_at
            and_intros
            refine W_of (gRepr_gd gd (by decide) (by decide) (.inl rfl)) ?_
            and_intros
            refine W_of al ?_
            and_intros
            refine W_of (gRepr_gd gd (by decide) (by decide) (.inl rfl)) ?_
            and_intros
            refine ifT eqs ?_
            and_intros
            refine law_start_w h1 (by omega) (by omega) fun ps t2 pl pb h2 => ?_
            rw [List.length_map] at pl
            and_intros
            refine law_found_w hG hl8 n2 pb pl fun K hK hK2 => ?_
            have lsz : (List.map (fun t => iL t) (sortT K)).length = K.length := by rw [List.length_map, (sortT_perm K).length_eq]
            have hsz : ((K.length : Nat) : Int) = szI n G G.length := by
              unfold szI
              rw [rs_fb hG G.length (Nat.le_refl _) ps K pb pl (by rw [List.take_length]; exact hK)]
            and_intros
            rw [lsz, hsz]
            and_intros
            refine W_of al ?_
            and_intros
            exact ⟨_, _, _, _, _, _, _, _, rfl, h2.mono (by omega)⟩
      · rintro e ⟨t, s3, s4, s5, s6, s7, s8, s9, rfl, ht⟩
        and_intros
        exact ⟨_, _, _, _, _, _, _, _, _, rfl⟩
    · rintro e ⟨s1, s2, s3, s4, s5, s6, s7, s8, s9, rfl⟩
      have nil_ok : ∀ n, Tk.GsOk n [] := fun n g m => nomatch m
      and_intros
      refine count_reachable_w (n := 2) (G := []) (nil_ok 2) (by decide) (by decide) (by decide) ?_
      and_intros
      refine (if_pos (by rfl)).mpr ?_
      and_intros
      refine free_gates_w (n := 8) (G := []) (nil_ok 8) (by decide) (by decide) (by decide) ?_
      rw [show FR 8 [] = [] from rfl]
      and_intros
      rw [show PyData.eqv (nL []) (.list []) = true from eqv_wnil (Wt := [])]
  obtain ⟨⟨o, as⟩, e, q⟩ := go
  cases (show o = _ from q)
  exact ⟨as, e⟩
theorem ok_is_whole {P : Program} {w : World} {K : PySem.W.Frag} {mg : Str → Option Value} {base : Heap} {B : Addr} (T : Txt K mg B) : Kn P w K mg base 1 "is_whole" P_is_whole (spF K B 1 D_is_whole) := by
  refine T.d_is_whole.kn (N := N_is_whole) (n := 1) (m := 0) (ms := ms_is_whole) sc_is_whole rfl rfl fun f cdv A outer s H E hr => ?_
  have nd := sc_is_whole.nd
  have hu := hr.units
  have hu5 := Mx.room65 hr
  exact (pmb_one (pms_ret (pm_and (pm_isi rfl T.isinstance rfl (pm_var 0 (pv 0)) (pe_bltn rfl T.int rfl rfl)) (pm_one (pm_not (pm_isi rfl T.isinstance rfl (pm_var 0 (pv 0)) (pe_bltn rfl T.bool rfl rfl)))))))
theorem ok_is_between {P : Program} {w : World} {K : PySem.W.Frag} {mg : Str → Option Value} {base : Heap} {B : Addr} (T : Txt K mg B) : Kn P w K mg base 2 "is_between" P_is_between (spF K B 3 D_is_between) := by
  refine T.d_is_between.kn (N := N_is_between) (n := 3) (m := 0) (ms := ms_is_between) sc_is_between rfl rfl fun f cdv A outer s H E hr => ?_
  have nd := sc_is_between.nd
  have hu := hr.units
  have hu5 := Mx.room65 hr
  exact (pmb_one (pms_ret (pm_and (pm_kn (io := [false]) (ok_is_whole T) (hr.mono (by decide)) rfl (pma_cons (pm_var 0 (pv 0)) pma_nil)) (pm_one (pm_chain (pm_var 1 (pv 1)) (pm_var 0 (pv 0)) (pm_var 2 (pv 2)))))))
theorem ok_is_lane_pair {P : Program} {w : World} {K : PySem.W.Frag} {mg : Str → Option Value} {base : Heap} {B : Addr} (T : Txt K mg B) : Kn P w K mg base 3 "is_lane_pair" P_is_lane_pair (spF K B 2 D_is_lane_pair) := by
  refine T.d_is_lane_pair.kn (N := N_is_lane_pair) (n := 2) (m := 1) (ms := ms_is_lane_pair) sc_is_lane_pair rfl rfl fun f cdv A outer s H E hr => ?_
  have nd := sc_is_lane_pair.nd
  have hu := hr.units
  have hu5 := Mx.room65 hr
  exact (pmb_cons (pms_if (pmt_w (pmw_or (pmt_not (pmt_val (pm_isi rfl T.isinstance rfl (pm_var 0 (pv 0)) (pe_bltn rfl T.tuple rfl rfl)))) (pmw_or1 (pmt_cmp (op_neD hu) (fun _ => prim_ne) (pm_callB call_len_seq (fun _ => prim_len) rfl T.len PySem.boot_len (pma_cons (pm_var 0 (pv 0)) pma_nil)) pm_int (nomark _)))))
    (pmb_one (pms_ret pm_bl))
    pmb_nil)
    (pmb_one (pms_ret (pm_callB (cr_all rfl) (fun _ => prim_all) rfl T.all rfl (pma_cons (pm_lc (own := [(("lane" : Str), 2)]) rfl nd (pmi_tup (pm_var 0 (pv 0))) (blkOk_by (N := N_is_lane_pair) (sc := defScope s_is_lane_pair) (by decide +kernel)) (tg_name 2) (by decide) (fun _ _ _ _ _ => (pg_name (i := 2) nd rfl (by first | exact Or.inl rfl | exact Or.inr rfl))) (fun _ _ _ _ _ => pmts_nil) (fun _ _ _ _ _ => (pm_kn (io := [false, false, false]) (ok_is_between T) (hr.mono (by decide)) rfl (pma_cons (pm_var 2 (pv 2)) (pma_cons pm_int (pma_cons (pm_sub (pm_var 1 (pv 1)) pm_int) pma_nil)))))) pma_nil)))))
theorem ok_is_gate {P : Program} {w : World} {K : PySem.W.Frag} {mg : Str → Option Value} {base : Heap} {B : Addr} (T : Txt K mg B) : Kn P w K mg base 4 "is_gate" P_is_gate (spF K B 2 D_is_gate) := by
  refine T.d_is_gate.kn (N := N_is_gate) (n := 2) (m := 0) (ms := ms_is_gate) sc_is_gate rfl rfl fun f cdv A outer s H E hr => ?_
  have nd := sc_is_gate.nd
  have hu := hr.units
  have hu5 := Mx.room65 hr
  exact (pmb_one (pms_ret (pm_and (pm_kn (io := [false, false]) (ok_is_lane_pair T) (hr.mono (by decide)) rfl (pma_cons (pm_var 0 (pv 0)) (pma_cons (pm_var 1 (pv 1)) pma_nil))) (pm_one (pm_ne hu (pm_idx (pm_var 0 (pv 0)) pm_int) (pm_idx (pm_var 0 (pv 0)) pm_int))))))
theorem ok_lane_count {P : Program} {w : World} {K : PySem.W.Frag} {mg : Str → Option Value} {base : Heap} {B f : Addr} {fd : FuncData} (F : Fun K "lane_count" "Board.lane_count" s_lane_count f fd) (T : Txt K mg B) : FnOk P w K mg base CX0 1 f fd ["self"] (getSp B "_lanes") := by
  refine F.ok sc_lane_count (fun vs H Q E h => ?_) (fun cdv A outer s H vs Q E hr h => ?_)
  · obtain ⟨a, dx, fs, v, rfl, _⟩ := h
    rfl
  · obtain ⟨a, dx, fs, v, rfl, ea, l, k⟩ := h
    exact ⟨_, pss_one (ps_ret (pe_fld (pv 0) rfl)), _, rfl, a, B, dx, fs, v, rfl, ea, T.bc.cl, T.nL, l, k⟩
theorem ok_gate_list {P : Program} {w : World} {K : PySem.W.Frag} {mg : Str → Option Value} {base : Heap} {B f : Addr} {fd : FuncData} (F : Fun K "gate_list" "Board.gate_list" s_gate_list f fd) (T : Txt K mg B) : FnOk P w K mg base CX0 1 f fd ["self"] (spGateList B) := by
  refine F.ok sc_gate_list (fun vs H Q E h => ?_) (fun cdv A outer s H vs Q E hr h => ?_)
  · obtain ⟨a, dx, g, n, xs, rfl, _⟩ := h
    rfl
  · obtain ⟨a, dx, g, n, xs, rfl, h1, h2, k⟩ := h
    refine ⟨_, pss_one (ps_ret (pe_callTy call_list_of rfl T.list rfl (pa_cons (pe_fld (pv 0) rfl) pa_nil))), ?_⟩
    refine ⟨_, rfl, a, B, dx, _, _, rfl, h1, T.bc.cl, T.nG, rfl, ?_⟩
    exact ⟨g, xs, rfl, .inl (SqL.of h2), k⟩
theorem ok_binit {P : Program} {w : World} {K : PySem.W.Frag} {mg : Str → Option Value} {base : Heap} {B f : Addr} {fd : FuncData} (bo : BiOk) (F : Fun K "__init__" "Board.__init__" s_bi f fd) (T : Txt K mg B) : FnOk P w K mg base CX0 5 f fd P_bi (spInit B) := by
  refine F.ok sc_bi (fun vs H Q E h => ?_) (fun cdv A outer s H vs Q E hr h => ?_)
  · obtain ⟨x, dx, p, n, xs, gs, T1, rfl, _⟩ := h
    rfl
  · obtain ⟨x, dx, p, n, xs, gs, T1, rfl, hx, hok, ntp, hp, hl, hT, k⟩ := h
    have nd := sc_bi.nd
    have hu := hr.units
    have hu5 := Mx.room65 hr
    obtain ⟨e1, e2, a, b, e3⟩ := bo x n gs hok
    have t1 : PMS ⟨K, B, AS.emp⟩ (cxOf CX0 P w K mg base N_bi "Board.__init__" (defScope s_bi) f cdv A outer s H E).nox (stAt s_bi 0) m_bi1 := (pms_if (pmt_not (pmt_val (pm_kn (io := [false, false, false]) (ok_is_between T) (hr.mono (by decide)) rfl (pma_cons (pm_var 1 (pv 1)) (pma_cons pm_int (pma_cons (pm_glC rfl T.c_MAX_LANES rfl) pma_nil))))))
    (pmb_one pms_never)
    pmb_nil)
    have t2 : PMS ⟨K, B, AS.emp⟩ (cxOf CX0 P w K mg base N_bi "Board.__init__" (defScope s_bi) f cdv A outer s H E).nox (stAt s_bi 1) m_bi2 := (pms_if (pmt_not (pmt_val (pm_isi rfl T.isinstance rfl (pm_var 2 (pv 2)) (pe_bltn rfl T.list rfl rfl))))
    (pmb_one pms_never)
    pmb_nil)
    have t3 : PMS ⟨K, B, AS.emp⟩ (cxOf CX0 P w K mg base N_bi "Board.__init__" (defScope s_bi) f cdv A outer s H E).nox (stAt s_bi 2) m_bi3 := (pms_for PassesOwn.never rfl (pmi_enum rfl T.enumerate (pm_var 2 (pv 2))) (tg_tup _ [3, 4]) (pg_tup rfl (pgs_cons (pg_name (i := 3) nd rfl (by first | exact Or.inl rfl | exact Or.inr rfl)) (pgs_cons (pg_name (i := 4) nd rfl (by first | exact Or.inl rfl | exact Or.inr rfl)) pgs_nil)))
    (pmb_one (pms_if (pmt_w (pmw_or (pmt_cmp (op_eqU hu) (fun _ => prim_eqU) (pm_var 3 (pv 3)) (pm_glC rfl T.c_MAX_GATES rfl) (nomark _)) (pmw_or1 (pmt_not (pmt_val (pm_kn (io := [false, false]) (ok_is_gate T) (hr.mono (by decide)) rfl (pma_cons (pm_var 4 (pv 4)) (pma_cons (pm_var 1 (pv 1)) pma_nil))))))))
    (pmb_one pms_never)
    pmb_nil)))
    refine ⟨_, pss_cons (t1.ps (domOf H)) (pss_cons (t2.ps (domOf H)) (pss_cons (t3.ps (domOf H))
      (pss_cons (ps_fld (pv 0) (pv 1) rfl) (pss_one (ps_fld (pv 0) (pe_callTy call_list_of rfl T.list rfl (pa_cons (pv 2) pa_nil)) rfl))))), ?_⟩
    have d1 : ∀ i, (biEnv x n gs none none)[i]? = some (some (.raw (.ref x))) → i = 0 := fun i e => by
      match i, e with
      | 0, _ => rfl
      | 1, e => cases e
      | 2, e => cases e
      | 3, e => cases e
      | 4, e => cases e
    have R0 : Rel (Wd.at ⟨K, B, AS.emp⟩ (domOf H)) T1 (L2.start N_bi [.ref x, .int n, .ref p]) H (biEnv x n gs none none) := by
      refine ⟨rfl, hT, fun a z => z, fun i s e => ?_, fun i j a ⟨⟨l, d, e⟩, _⟩ => ?_⟩
      · match i, e with
        | 0, e => cases e; exact ⟨_, rfl, rfl⟩
        | 1, e => cases e; exact ⟨_, rfl, .int n⟩
        | 2, e =>
          cases e
          refine ⟨_, rfl, At.lst ?_ hp ?_⟩
          · rintro (z | ⟨i, ⟨l, d, e⟩, _⟩)
            · exact ntp z
            · match i, e with
              | 0, e => cases e
              | 1, e => cases e
              | 2, e => cases e
              | 3, e => cases e
              | 4, e => cases e
          · refine AtL.move (Move.sub ?_) gs xs hl
            rintro a (z | ⟨i, ⟨l, d, e⟩, _⟩)
            · exact z
            · match i, e with
              | 0, e => cases e
              | 1, e => cases e
              | 2, e => cases e
              | 3, e => cases e
              | 4, e => cases e
        | 3, e => cases e
        | 4, e => cases e
      · match i, e with
        | 0, e => cases e
        | 1, e => cases e
        | 2, e => cases e
        | 3, e => cases e
        | 4, e => cases e
    have no : ∀ {σ : L2.St} {a b : Option Slot} {y : Addr}, a = none → b = none → ¬ Own σ (biEnv x n gs a b) y := by
      rintro σ a b y rfl rfl ⟨i, ⟨l, d, e⟩, _⟩
      match i, e with
      | 0, e => cases e
      | 1, e => cases e
      | 2, e => cases e
      | 3, e => cases e
      | 4, e => cases e
    refine ⟨T1, _, _, _, R0, e1, fun σ1 H1 S1 R1 => ⟨T1, _, _, _, R1, e2, fun σ2 H2 S2 R2 => ⟨T1, _, _, _, R2, e3, fun σ3 H3 S3 R3 => ?_⟩⟩⟩
    have kp : ∀ c o, H c = some o → H3 c = some o := fun c o e =>
      have dm : domOf H c := by show H c ≠ none; rw [e]; exact fun z => (nomatch z)
      S3.prot c o dm (no rfl rfl) (S2.prot c o dm (no rfl rfl) (S1.prot c o dm (no rfl rfl) e))
    obtain ⟨v0, s0, z0⟩ := R3.ok 0 (.raw (.ref x)) rfl
    obtain ⟨v1, s1, z1⟩ := R3.ok 1 (.dat (.int n)) rfl
    obtain ⟨v2, s2, z2⟩ := R3.ok 2 (.dat (.list gs)) rfl
    have z0' : v0 = .ref x := z0
    subst z0'
    have z1' : v1 = .int n := by
      cases (show At _ _ _ (.int n) from z1)
      rfl
    subst z1'
    refine ⟨_, s1, _, s0, x, B, dx, [], rfl, kp _ _ hx, T.bc.cl, T.nL, (by show 0 < 1000; decide), ?_⟩
    cases (show At _ _ _ (.list gs) from z2) with
    | @lst q ys _ n2 e2' l2 =>
      have nqx : q ≠ x := fun z => by
        rw [z, kp _ _ hx] at e2'
        cases e2'
      refine ⟨_, s2, q, ys, rfl, .inl (SqL.of ((upd_ne nqx).trans e2')), fun g hg => ?_⟩
      have ngx : g ≠ x := fun z => by
        rw [z, upd_same] at hg
        cases hg
      have hg3 : H3 g = none := (upd_ne ngx).symm.trans hg
      refine ⟨_, s0, x, B, dx, [("_lanes", .int n)], rfl, ?_, T.bc.cl, T.nG, (by show 1 < 1000; decide), ?_⟩
      · rw [upd_ne (Ne.symm ngx), upd_same]
        rfl
      refine k g ys _ ?_ (fun a o na e => ?_) ?_ ?_ ?_
      · cases q' : H g with
        | none => rfl
        | some o => rw [kp _ _ q'] at hg3; cases hg3
      · rw [upd_ne na, upd_ne (ne_of_none (kp _ _ e) hg3), upd_ne na]
        exact kp _ _ e
      · rw [upd_same]
        rfl
      · rw [upd_ne ngx, upd_same]
      · refine gates_move (okBoard_lay hok) l2 fun a zs na e => ⟨?_, fun t => na (.inl t)⟩
        have nax : a ≠ x := fun z => by
          rw [z, kp _ _ hx] at e
          cases e
        rw [upd_ne nax, upd_ne (ne_of_none e hg3), upd_ne nax]
        exact e
theorem ok_blen {P : Program} {w : World} {K : PySem.W.Frag} {mg : Str → Option Value} {base : Heap} {B f : Addr} {fd : FuncData} (F : Fun K "__len__" "Board.__len__" s_bl f fd) (T : Txt K mg B) : FnOk P w K mg base CX0 5 f fd ["self"] (spLen B) := by
  refine F.ok sc_bl (fun vs H Q E h => ?_) (fun cdv A outer s H vs Q E hr h => ?_)
  · obtain ⟨a, dx, g, n, xs, rfl, _⟩ := h
    rfl
  · obtain ⟨a, dx, g, n, xs, rfl, h1, h2, h3, k⟩ := h
    refine ⟨_, pss_one (ps_ret (pe_callB call_len_seq rfl T.len PySem.boot_len (pa_cons (pe_fld (pv 0) rfl) pa_nil))), ?_⟩
    refine ⟨_, rfl, a, B, dx, _, _, rfl, h1, T.bc.cl, T.nG, rfl, ?_⟩
    exact ⟨g, xs, rfl, .inl (SqL.of h2), k⟩
theorem ok_Board {P : Program} {w : World} {K : PySem.W.Frag} {mg : Str → Option Value} {base : Heap} {B : Addr} (T : Txt K mg B) : KnB P w K mg base 5 B := by
  obtain ⟨f, fd, F, M, b⟩ := T.bi
  obtain ⟨f2, fd2, F2, b2, h1, h2⟩ := T.bl
  exact ⟨T.bc, T.mgB, ⟨f, fd, M, ok_binit biOk F T, b⟩, ⟨f2, fd2, ok_blen F2 T, b2, h1, h2⟩⟩
theorem ok_law_pot {P : Program} {w : World} {K : PySem.W.Frag} {mg : Str → Option Value} {base : Heap} {B : Addr} (T : Txt K mg B) : Kn P w K mg base 1 "_law_pot" P_law_pot (spF K B 2 D_law_pot) := by
  refine T.d_law_pot.kn (N := N_law_pot) (n := 2) (m := 1) (ms := ms_law_pot) sc_law_pot rfl rfl fun f cdv A outer s H E hr => ?_
  have nd := sc_law_pot.nd
  have hu := hr.units
  have hu5 := Mx.room65 hr
  exact (pmb_cons (pms_set (i := 2) (b := false) nd rfl (by first | exact Or.inl rfl | exact Or.inr rfl) pm_int)
    (pmb_cons (pms_if (pmt_cmp op_lt (fun _ => prim_i0 fun _ _ => rfl) (pm_var 1 (pv 1)) (pm_callB call_len_seq (fun _ => prim_lenS) rfl T.len PySem.boot_len (pma_cons (pm_var 0 (pv 0)) pma_nil)) (nomark _))
    (pmb_one (pms_set (i := 2) (b := false) nd rfl (by first | exact Or.inl rfl | exact Or.inr rfl) (pm_ix ix_seq (fun _ => prim_ixS) (pm_var 0 (pv 0)) (pm_var 1 (pv 1)) (fun _ _ => rfl))))
    pmb_nil)
    (pmb_one (pms_ret (pm_list (pma_cons (pm_callB (call_max2 rfl) (fun _ => prim_max) rfl T.max rfl (pma_cons pm_int (pma_cons (pm_sub (pm_var 2 (pv 2)) (pm_pow pm_int pm_int)) pma_nil))) (pma_cons (pm_addU (pm_mod (pm_var 2 (pv 2)) (pm_addU (pm_pow pm_int pm_int) pm_int)) (pm_mulU pm_int (pm_var 1 (pv 1)))) (pma_cons pm_int pma_nil))))))))
theorem ok_law_take {P : Program} {w : World} {K : PySem.W.Frag} {mg : Str → Option Value} {base : Heap} {B : Addr} (T : Txt K mg B) : Kn P w K mg base 1 "_law_take" P_law_take (spF K B 2 D_law_take) := by
  refine T.d_law_take.kn (N := N_law_take) (n := 2) (m := 2) (ms := ms_law_take) sc_law_take rfl rfl fun f cdv A outer s H E hr => ?_
  have nd := sc_law_take.nd
  have hu := hr.units
  have hu5 := Mx.room65 hr
  exact (pmb_cons (pms_if (pmt_cmp op_gt (fun _ => prim_i0 fun _ _ => rfl) (pm_idx (pm_var 0 (pv 0)) pm_int) pm_int (nomark _))
    (pmb_cons (pms_set (i := 2) (b := false) nd rfl (by first | exact Or.inl rfl | exact Or.inr rfl) (pm_mod (pm_idx (pm_var 0 (pv 0)) pm_int) (pm_var 1 (pv 1))))
    (pmb_cons (pms_sub (pm_var 0 (pv 0)) pm_int (pm_div (pm_idx (pm_var 0 (pv 0)) pm_int) (pm_var 1 (pv 1))))
    (pmb_one (pms_ret (pm_var 2 (pv 2))))))
    pmb_nil)
    (pmb_cons (pms_sub (pm_var 0 (pv 0)) pm_int (pm_addU (pm_idx (pm_var 0 (pv 0)) pm_int) pm_int))
    (pmb_cons (pms_set (i := 3) (b := false) nd rfl (by first | exact Or.inl rfl | exact Or.inr rfl) (pm_mod (pm_pow (pm_addU (pm_idx (pm_var 0 (pv 0)) pm_int) (pm_mulU pm_int (pm_idx (pm_var 0 (pv 0)) pm_int))) pm_int) (pm_addU (pm_pow pm_int pm_int) pm_int)))
    (pmb_cons (pms_set (i := 3) (b := false) nd rfl (by first | exact Or.inl rfl | exact Or.inr rfl) (pm_mod (pm_pow (pm_addU (pm_var 3 (pv 3)) (pm_mulU pm_int (pm_idx (pm_var 0 (pv 0)) pm_int))) pm_int) (pm_addU (pm_pow pm_int pm_int) pm_int)))
    (pmb_one (pms_ret (pm_mod (pm_div (pm_var 3 (pv 3)) pm_int) (pm_var 1 (pv 1)))))))))
theorem ok_law_board {P : Program} {w : World} {K : PySem.W.Frag} {mg : Str → Option Value} {base : Heap} {B : Addr} (T : Txt K mg B) : Kn P w K mg base 2 "_law_board" P_law_board (spF K B 2 D_law_board) := by
  refine T.d_law_board.kn (N := N_law_board) (n := 2) (m := 9) (ms := ms_law_board) sc_law_board rfl rfl fun f cdv A outer s H E hr => ?_
  have nd := sc_law_board.nd
  have hu := hr.units
  have hu5 := Mx.room65 hr
  exact (pmb_cons (pms_par3 (i := 2) (j := 3) (l := 4) (bi := false) (bj := false) (bl := true) rfl nd rfl rfl rfl (by decide) (by decide) (by decide) rfl rfl rfl (pma_cons (pm_addU pm_int (pm_kn (io := [true, false]) (ok_law_take T) (hr.mono (by decide)) rfl (pma_cons (pm_var 0 (pv 0)) (pma_cons pm_int pma_nil)))) (pma_cons (pm_kn (io := [true, false]) (ok_law_take T) (hr.mono (by decide)) rfl (pma_cons (pm_var 0 (pv 0)) (pma_cons pm_int pma_nil))) (pma_cons (pm_list pma_nil) pma_nil))) rfl)
    (pmb_cons (pms_for PassesOwn.never rfl (pmi_range1 rfl T.range (pm_kn (io := [true, false]) (ok_law_take T) (hr.mono (by decide)) rfl (pma_cons (pm_var 0 (pv 0)) (pma_cons (pm_addU (pm_var 1 (pv 1)) pm_int) pma_nil)))) (tg_name 5) (pg_name (i := 5) nd rfl (by first | exact Or.inl rfl | exact Or.inr rfl))
    (pmb_cons (pms_set (i := 6) (b := false) nd rfl (by first | exact Or.inl rfl | exact Or.inr rfl) (pm_idx (pm_list (pma_cons (pm_var 2 (pv 2)) (pma_cons (pm_callB (call_min2 rfl) (fun _ => prim_min) rfl T.min rfl (pma_cons (pm_var 2 (pv 2)) (pma_cons pm_int pma_nil))) (pma_cons (pm_var 2 (pv 2)) (pma_cons pm_int (pma_cons pm_int pma_nil)))))) (pm_var 3 (pv 3))))
    (pmb_cons (pms_set (i := 7) (b := false) nd rfl (by first | exact Or.inl rfl | exact Or.inr rfl) (pm_if (pmt_cmp (op_eqU hu) (fun _ => prim_eqU) (pm_var 3 (pv 3)) pm_int (nomark _)) (pm_mod (pm_var 5 (pv 5)) (pm_sub (pm_var 2 (pv 2)) pm_int)) (pm_kn (io := [true, false]) (ok_law_take T) (hr.mono (by decide)) rfl (pma_cons (pm_var 0 (pv 0)) (pma_cons (pm_var 6 (pv 6)) pma_nil)))))
    (pmb_cons (pms_set (i := 8) (b := false) nd rfl (by first | exact Or.inl rfl | exact Or.inr rfl) (pm_if (pmt_cmp (op_eqU hu) (fun _ => prim_eqU) (pm_var 3 (pv 3)) pm_int (nomark _)) (pm_addU (pm_var 7 (pv 7)) pm_int) (pm_mod (pm_addU (pm_addU (pm_var 7 (pv 7)) pm_int) (pm_kn (io := [true, false]) (ok_law_take T) (hr.mono (by decide)) rfl (pma_cons (pm_var 0 (pv 0)) (pma_cons (pm_sub (pm_var 6 (pv 6)) pm_int) pma_nil)))) (pm_var 6 (pv 6)))))
    (pmb_one (pms_app (pm_var 4 (pv 4)) (pm_idx (pm_list (pma_cons (pm_tup (pma_cons (pm_var 7 (pv 7)) (pma_cons (pm_var 8 (pv 8)) pma_nil))) (pma_cons (pm_tup (pma_cons (pm_var 8 (pv 8)) (pma_cons (pm_var 7 (pv 7)) pma_nil))) pma_nil))) (pm_kn (io := [true, false]) (ok_law_take T) (hr.mono (by decide)) rfl (pma_cons (pm_var 0 (pv 0)) (pma_cons pm_int pma_nil)))) (fun p r => pe_bm PySem.F.plainAttrs_list PySem.F.slot_list_append PySem.F.type_list_append mt_append p r)))))))
    (pmb_cons (pms_if (pmt_w (pmw_and (pmt_cmp (op_eqU hu) (fun _ => prim_eqU) (pm_var 3 (pv 3)) pm_int (nomark _)) (pmw_and1 (pmt_cmp op_gt (fun _ => prim_i0 fun _ _ => rfl) (pm_var 1 (pv 1)) pm_int (nomark _)))))
    (pmb_cons (pms_par2 (i := 2) (j := 4) (bi := false) (bj := true) rfl nd rfl rfl (by decide) rfl rfl (pma_cons pm_int (pma_cons (pm_list (pma_cons (pm_tup (pma_cons pm_int (pma_cons pm_int pma_nil))) (pma_cons (pm_tup (pma_cons pm_int (pma_cons pm_int pma_nil))) (pma_cons (pm_tup (pma_cons pm_int (pma_cons pm_int pma_nil))) (pma_cons (pm_tup (pma_cons pm_int (pma_cons pm_int pma_nil))) (pma_cons (pm_tup (pma_cons pm_int (pma_cons pm_int pma_nil))) (pma_cons (pm_tup (pma_cons pm_int (pma_cons pm_int pma_nil))) pma_nil))))))) pma_nil)) rfl)
    (pmb_cons (pms_set (i := 9) (b := false) nd rfl (by first | exact Or.inl rfl | exact Or.inr rfl) (pm_kn (io := [true, false]) (ok_law_take T) (hr.mono (by decide)) rfl (pma_cons (pm_var 0 (pv 0)) (pma_cons pm_int pma_nil))))
    (pmb_cons (pms_set (i := 10) (b := false) nd rfl (by first | exact Or.inl rfl | exact Or.inr rfl) (pm_idx (pm_list (pma_cons (pm_tup (pma_cons pm_int (pma_cons pm_int pma_nil))) (pma_cons (pm_tup (pma_cons pm_int (pma_cons pm_int pma_nil))) (pma_cons (pm_tup (pma_cons pm_int (pma_cons pm_int pma_nil))) (pma_cons (pm_tup (pma_cons pm_int (pma_cons pm_int pma_nil))) (pma_cons (pm_tup (pma_cons pm_int (pma_cons pm_int pma_nil))) (pma_cons (pm_tup (pma_cons pm_int (pma_cons pm_int pma_nil))) pma_nil))))))) (pm_kn (io := [true, false]) (ok_law_take T) (hr.mono (by decide)) rfl (pma_cons (pm_var 0 (pv 0)) (pma_cons pm_int pma_nil)))))
    (pmb_one (pms_set (i := 4) (b := true) nd rfl (by first | exact Or.inl rfl | exact Or.inr rfl) (pm_addU (pm_addU (pm_slHi (pm_var 4 (pv 4)) (pm_var 9 (pv 9))) (pm_mulU (pm_list (pma_cons (pm_var 10 (pv 10)) pma_nil)) (pm_kn (io := [true, false]) (ok_law_take T) (hr.mono (by decide)) rfl (pma_cons (pm_var 0 (pv 0)) (pma_cons pm_int pma_nil))))) (pm_slLo (pm_var 4 (pv 4)) (pm_var 9 (pv 9)))))))))
    pmb_nil)
    (pmb_one (pms_ret (pm_tup (pma_cons (pm_var 2 (pv 2)) (pma_cons (pm_var 4 (pv 4)) pma_nil))))))))
theorem ok_check_board {P : Program} {w : World} {K : PySem.W.Frag} {mg : Str → Option Value} {base : Heap} {B : Addr} (T : Txt K mg B) : Kn P w K mg base 1 "check_board" P_check_board (spF K B 1 D_check_board) := by
  refine T.d_check_board.kn (N := N_check_board) (n := 1) (m := 0) (ms := ms_check_board) sc_check_board rfl rfl fun f cdv A outer s H E hr => ?_
  have nd := sc_check_board.nd
  have hu := hr.units
  have hu5 := Mx.room65 hr
  exact (pmb_one (pms_if (pmt_not (pmt_val (pm_isBrd rfl T.bc rfl T.isinstance rfl (pm_var 0 (pv 0)) rfl T.mgB)))
    (pmb_one pms_never)
    pmb_nil))
theorem ok_difference {P : Program} {w : World} {K : PySem.W.Frag} {mg : Str → Option Value} {base : Heap} {B : Addr} (T : Txt K mg B) : Kn P w K mg base 1 "difference" P_difference (spF K B 2 D_difference) := by
  refine T.d_difference.kn (N := N_difference) (n := 2) (m := 2) (ms := ms_difference) sc_difference rfl rfl fun f cdv A outer s H E hr => ?_
  have nd := sc_difference.nd
  have hu := hr.units
  have hu5 := Mx.room65 hr
  exact (pmb_one (pms_ret (pm_lc (own := [(("one" : Str), 2), (("other" : Str), 3)]) rfl nd (pmi_zip rfl T.zip (pma_cons (pm_var 0 (pv 0)) (pma_cons (pm_var 1 (pv 1)) pma_nil))) (blkOk_by (N := N_difference) (sc := defScope s_difference) (by decide +kernel)) (tg_tup _ [2, 3]) (by decide) (fun _ _ _ _ _ => (pg_tup rfl (pgs_cons (pg_name (i := 2) nd rfl (by first | exact Or.inl rfl | exact Or.inr rfl)) (pgs_cons (pg_name (i := 3) nd rfl (by first | exact Or.inl rfl | exact Or.inr rfl)) pgs_nil)))) (fun _ _ _ _ _ => pmts_nil) (fun _ _ _ _ _ => (pm_sub (pm_var 2 (pv 2)) (pm_var 3 (pv 3)))))))
theorem ok_evened {P : Program} {w : World} {K : PySem.W.Frag} {mg : Str → Option Value} {base : Heap} {B : Addr} (T : Txt K mg B) : Kn P w K mg base 2 "evened" P_evened (spF K B 2 D_evened) := by
  refine T.d_evened.kn (N := N_evened) (n := 2) (m := 5) (ms := ms_evened) sc_evened rfl rfl fun f cdv A outer s H E hr => ?_
  have nd := sc_evened.nd
  have hu := hr.units
  have hu5 := Mx.room65 hr
  exact (pmb_cons (pms_set (i := 2) (b := false) nd rfl (by first | exact Or.inl rfl | exact Or.inr rfl) (pm_idx (pm_var 0 (pv 0)) (pm_idx (pm_var 1 (pv 1)) pm_int)))
    (pmb_cons (pms_setLc (i := 3) (b := true) (own := [(("row" : Str), 4), (("amounts" : Str), 5)]) rfl nd rfl rfl (sw_true rfl rfl rfl (by decide +kernel)) (pmi_enum rfl T.enumerate (pm_var 0 (pv 0))) (blkOk_by (N := N_evened) (sc := defScope s_evened) (by decide +kernel)) (tg_tup _ [4, 5]) (by decide) (fun _ _ _ _ _ => (pg_tup rfl (pgs_cons (pg_name (i := 4) nd rfl (by first | exact Or.inl rfl | exact Or.inr rfl)) (pgs_cons (pg_name (i := 5) nd rfl (by first | exact Or.inl rfl | exact Or.inr rfl)) pgs_nil)))) (fun _ _ _ _ _ => pmts_nil) (fun _ _ _ _ _ => (pm_if (pmt_cmp ((op_inD hu5).or op_in_seq) (fun _ => prim_inU) (pm_var 4 (pv 4)) (pm_var 1 (pv 1)) rfl) (pm_kn (io := [false, false]) (ok_difference T) (hr.mono (by decide)) rfl (pma_cons (pm_var 5 (pv 5)) (pma_cons (pm_var 2 (pv 2)) pma_nil))) (pm_var 5 (pv 5)))))
    (pmb_cons (pms_sub (pm_var 3 (pv 3)) (pm_idx (pm_var 1 (pv 1)) pm_int) (pm_lc (own := [(("amount" : Str), 6)]) rfl nd (pmi_list (pm_var 2 (pv 2))) (blkOk_by (N := N_evened) (sc := defScope s_evened) (by decide +kernel)) (tg_name 6) (by decide) (fun _ _ _ _ _ => (pg_name (i := 6) nd rfl (by first | exact Or.inl rfl | exact Or.inr rfl))) (fun _ _ _ _ _ => pmts_nil) (fun _ _ _ _ _ => (pm_mulU pm_int (pm_var 6 (pv 6))))))
    (pmb_one (pms_ret (pm_var 3 (pv 3)))))))
theorem ok_first_odd {P : Program} {w : World} {K : PySem.W.Frag} {mg : Str → Option Value} {base : Heap} {B : Addr} (T : Txt K mg B) : Kn P w K mg base 1 "first_odd" P_first_odd (spF K B 2 D_first_odd) := by
  refine T.d_first_odd.kn (N := N_first_odd) (n := 2) (m := 5) (ms := ms_first_odd) sc_first_odd rfl rfl fun f cdv A outer s H E hr => ?_
  have nd := sc_first_odd.nd
  have hu := hr.units
  have hu5 := Mx.room65 hr
  exact (pmb_cons (pms_set (i := 2) (b := true) nd rfl (by first | exact Or.inl rfl | exact Or.inr rfl) (pm_callTy call_list_of (fun _ => prim_toList) rfl T.list rfl (pma_cons (pm_var 1 (pv 1)) pma_nil)))
    (pmb_cons (pms_for PassesOwn.never rfl (pmi_enum rfl T.enumerate (pm_var 0 (pv 0))) (tg_en _ 3 4 5) (pg_tup rfl (pgs_cons (pg_name (i := 3) nd rfl (by first | exact Or.inl rfl | exact Or.inr rfl)) (pgs_cons (pg_tup rfl (pgs_cons (pg_name (i := 4) nd rfl (by first | exact Or.inl rfl | exact Or.inr rfl)) (pgs_cons (pg_name (i := 5) nd rfl (by first | exact Or.inl rfl | exact Or.inr rfl)) pgs_nil))) pgs_nil)))
    (pmb_cons (pms_set (i := 6) (b := false) nd rfl (by first | exact Or.inl rfl | exact Or.inr rfl) (pm_addU (pm_idx (pm_var 2 (pv 2)) (pm_var 4 (pv 4))) (pm_idx (pm_var 2 (pv 2)) (pm_var 5 (pv 5)))))
    (pmb_cons (pms_if (pmt_cmp (op_eqU hu) (fun _ => prim_eqU) (pm_mod (pm_var 6 (pv 6)) pm_int) pm_int (nomark _))
    (pmb_one (pms_ret (pm_var 3 (pv 3))))
    pmb_nil)
    (pmb_cons (pms_sub (pm_var 2 (pv 2)) (pm_var 4 (pv 4)) (pm_div (pm_var 6 (pv 6)) pm_int))
    (pmb_one (pms_sub (pm_var 2 (pv 2)) (pm_var 5 (pv 5)) (pm_div (pm_var 6 (pv 6)) pm_int)))))))
    (pmb_one (pms_ret pm_non))))
theorem ok_free_and_basis {P : Program} {w : World} {K : PySem.W.Frag} {mg : Str → Option Value} {base : Heap} {B : Addr} (T : Txt K mg B) : Kn P w K mg base 3 "free_and_basis" P_free_and_basis (spF K B 1 D_free_and_basis) := by
  refine T.d_free_and_basis.kn (N := N_free_and_basis) (n := 1) (m := 9) (ms := ms_free_and_basis) sc_free_and_basis rfl rfl fun f cdv A outer s H E hr => ?_
  have nd := sc_free_and_basis.nd
  have hu := hr.units
  have hu5 := Mx.room65 hr
  exact (pmb_cons (pms_set (i := 1) (b := false) nd rfl (by first | exact Or.inl rfl | exact Or.inr rfl) (T.pLanes.elim fun _ h => h.elim fun _ h => h.elim fun _ h => pm_propLanes rfl T.bc.cl h.1 (ok_lane_count h.2.1 T) h.2.2 (hr.mono (by decide)) (pm_var 0 (pv 0))))
    (pmb_cons (pms_set (i := 2) (b := false) nd rfl (by first | exact Or.inl rfl | exact Or.inr rfl) (T.pGates.elim fun _ h => h.elim fun _ h => h.elim fun _ h => pm_propGates rfl T.bc.cl h.1 (ok_gate_list h.2.1 T) h.2.2 (hr.mono (by decide)) (pm_var 0 (pv 0))))
    (pmb_cons (pms_setLc (i := 3) (b := false) (own := [(("lane" : Str), 7)]) rfl nd rfl rfl (sw_true rfl rfl rfl (by decide +kernel)) (pmi_range1 rfl T.range (pm_var 1 (pv 1))) (blkOk_by (N := N_free_and_basis) (sc := defScope s_free_and_basis) (by decide +kernel)) (tg_name 7) (by decide) (fun _ _ _ _ _ => (pg_name (i := 7) nd rfl (by first | exact Or.inl rfl | exact Or.inr rfl))) (fun _ _ _ _ _ => pmts_nil) (fun _ _ _ _ _ => (pm_addU (pm_addU (pm_mulU (pm_list (pma_cons pm_int pma_nil)) (pm_var 7 (pv 7))) (pm_list (pma_cons pm_int pma_nil))) (pm_mulU (pm_list (pma_cons pm_int pma_nil)) (pm_sub (pm_sub (pm_var 1 (pv 1)) pm_int) (pm_var 7 (pv 7)))))))
    (pmb_cons (pms_set (i := 4) (b := true) nd rfl (by first | exact Or.inl rfl | exact Or.inr rfl) (pm_list pma_nil))
    (pmb_cons (pms_for PassesOwn.never rfl (pmi_range1 rfl T.range (pm_callB call_len_seq (fun _ => prim_len) rfl T.len PySem.boot_len (pma_cons (pm_var 2 (pv 2)) pma_nil))) (tg_name 5) (pg_name (i := 5) nd rfl (by first | exact Or.inl rfl | exact Or.inr rfl))
    (pmb_cons (pms_setLc (i := 6) (b := false) (own := [(("row" : Str), 8), (("amounts" : Str), 9)]) rfl nd rfl rfl (sw_true rfl rfl rfl (by decide +kernel)) (pmi_enum rfl T.enumerate (pm_var 3 (pv 3))) (blkOk_by (N := N_free_and_basis) (sc := defScope s_free_and_basis) (by decide +kernel)) (tg_tup _ [8, 9]) (by decide) (fun _ _ _ _ _ => (pg_tup rfl (pgs_cons (pg_name (i := 8) nd rfl (by first | exact Or.inl rfl | exact Or.inr rfl)) (pgs_cons (pg_name (i := 9) nd rfl (by first | exact Or.inl rfl | exact Or.inr rfl)) pgs_nil)))) (fun _ _ _ _ _ => (pmts_one (pmt_cmp (op_eqU hu) (fun _ => prim_eqU) (pm_kn (io := [false, false]) (ok_first_odd T) (hr.mono (by decide)) rfl (pma_cons (pm_var 2 (pv 2)) (pma_cons (pm_var 9 (pv 9)) pma_nil))) (pm_var 5 (pv 5)) (nomark _)))) (fun _ _ _ _ _ => (pm_var 8 (pv 8))))
    (pmb_one (pms_if (pmt_valL (pm_var 6 (pv 6)))
    (pmb_cons (pms_app (pm_var 4 (pv 4)) (pm_var 5 (pv 5)) (fun p r => pe_bm PySem.F.plainAttrs_list PySem.F.slot_list_append PySem.F.type_list_append mt_append p r))
    (pmb_one (pms_set (i := 3) (b := false) nd rfl (by first | exact Or.inl rfl | exact Or.inr rfl) (pm_kn (io := [false, false]) (ok_evened T) (hr.mono (by decide)) rfl (pma_cons (pm_var 3 (pv 3)) (pma_cons (pm_var 6 (pv 6)) pma_nil))))))
    pmb_nil))))
    (pmb_one (pms_ret (pm_tup (pma_cons (pm_var 4 (pv 4)) (pma_cons (pm_var 3 (pv 3)) pma_nil))))))))))
theorem ok_free_gates {P : Program} {w : World} {K : PySem.W.Frag} {mg : Str → Option Value} {base : Heap} {B : Addr} (T : Txt K mg B) : Kn P w K mg base 4 "free_gates" P_free_gates (spF K B 1 D_free_gates) := by
  refine T.d_free_gates.kn (N := N_free_gates) (n := 1) (m := 2) (ms := ms_free_gates) sc_free_gates rfl rfl fun f cdv A outer s H E hr => ?_
  have nd := sc_free_gates.nd
  have hu := hr.units
  have hu5 := Mx.room65 hr
  exact (pmb_cons (pms_expr (pm_kn (io := [false]) (ok_check_board T) (hr.mono (by decide)) rfl (pma_cons (pm_var 0 (pv 0)) pma_nil)))
    (pmb_cons (pms_unp (pm_kn (io := [false]) (ok_free_and_basis T) (hr.mono (by decide)) rfl (pma_cons (pm_var 0 (pv 0)) pma_nil)) (tg_tup _ [1, 2]) (pg_tup rfl (pgs_cons (pg_name (i := 1) nd rfl (by first | exact Or.inl rfl | exact Or.inr rfl)) (pgs_cons (pg_name (i := 2) nd rfl (by first | exact Or.inl rfl | exact Or.inr rfl)) pgs_nil))))
    (pmb_one (pms_ret (pm_var 1 (pv 1))))))
theorem ok_count_reachable {P : Program} {w : World} {K : PySem.W.Frag} {mg : Str → Option Value} {base : Heap} {B : Addr} (T : Txt K mg B) : Kn P w K mg base 5 "count_reachable" P_count_reachable (spF K B 1 D_count_reachable) := by
  refine T.d_count_reachable.kn (N := N_count_reachable) (n := 1) (m := 2) (ms := ms_count_reachable) sc_count_reachable rfl rfl fun f cdv A outer s H E hr => ?_
  have nd := sc_count_reachable.nd
  have hu := hr.units
  have hu5 := Mx.room65 hr
  exact (pmb_cons (pms_set (i := 1) (b := false) nd rfl (by first | exact Or.inl rfl | exact Or.inr rfl) pm_int)
    (pmb_cons (pms_for PassesOwn.never rfl (pmi_list (pm_kn (io := [false]) (ok_free_gates T) (hr.mono (by decide)) rfl (pma_cons (pm_var 0 (pv 0)) pma_nil))) (tg_name 2) (pg_name (i := 2) nd rfl (by first | exact Or.inl rfl | exact Or.inr rfl))
    (pmb_one (pms_set (i := 1) (b := false) nd rfl (by first | exact Or.inl rfl | exact Or.inr rfl) (pm_mulU pm_int (pm_var 1 (pv 1))))))
    (pmb_one (pms_ret (pm_var 1 (pv 1))))))
theorem ok_law_token {P : Program} {w : World} {K : PySem.W.Frag} {mg : Str → Option Value} {base : Heap} {B : Addr} (T : Txt K mg B) : Kn P w K mg base 1 "_law_token" P_law_token (spF K B 3 D_law_token) := by
  refine T.d_law_token.kn (N := N_law_token) (n := 3) (m := 3) (ms := ms_law_token) sc_law_token rfl rfl fun f cdv A outer s H E hr => ?_
  have nd := sc_law_token.nd
  have hu := hr.units
  have hu5 := Mx.room65 hr
  exact (pmb_cons (pms_set (i := 3) (b := true) nd rfl (by first | exact Or.inl rfl | exact Or.inr rfl) (pm_callTy call_list_of (fun _ => prim_toList) rfl T.list rfl (pma_cons (pm_var 1 (pv 1)) pma_nil)))
    (pmb_cons (pms_for PassesOwn.never rfl (pmi_enum rfl T.enumerate (pm_var 0 (pv 0))) (tg_tup _ [4, 5]) (pg_tup rfl (pgs_cons (pg_name (i := 4) nd rfl (by first | exact Or.inl rfl | exact Or.inr rfl)) (pgs_cons (pg_name (i := 5) nd rfl (by first | exact Or.inl rfl | exact Or.inr rfl)) pgs_nil)))
    (pmb_one (pms_if (pmt_w (pmw_or (pmt_cmp (op_eqU hu) (fun _ => prim_eqU) (pm_var 2 (pv 2)) (pm_idx (pm_var 5 (pv 5)) pm_int) (nomark _)) (pmw_or1 (pmt_cmp (op_eqU hu) (fun _ => prim_eqU) (pm_var 2 (pv 2)) (pm_idx (pm_var 5 (pv 5)) pm_int) (nomark _)))))
    (pmb_cons (pms_set (i := 2) (b := false) nd rfl (by first | exact Or.inl rfl | exact Or.inr rfl) (pm_idx (pm_var 5 (pv 5)) (pm_idx (pm_var 3 (pv 3)) (pm_var 4 (pv 4)))))
    (pmb_one (pms_sub (pm_var 3 (pv 3)) (pm_var 4 (pv 4)) (pm_sub pm_int (pm_idx (pm_var 3 (pv 3)) (pm_var 4 (pv 4)))))))
    pmb_nil)))
    (pmb_one (pms_ret (pm_tup (pma_cons (pm_var 2 (pv 2)) (pma_cons (pm_var 3 (pv 3)) pma_nil)))))))
theorem ok_law_found {P : Program} {w : World} {K : PySem.W.Frag} {mg : Str → Option Value} {base : Heap} {B : Addr} (T : Txt K mg B) : Kn P w K mg base 2 "_law_found" P_law_found (spF K B 3 D_law_found) := by
  refine T.d_law_found.kn (N := N_law_found) (n := 3) (m := 6) (ms := ms_law_found) sc_law_found rfl rfl fun f cdv A outer s H E hr => ?_
  have nd := sc_law_found.nd
  have hu := hr.units
  have hu5 := Mx.room65 hr
  exact (pmb_cons (pms_par2 (i := 3) (j := 4) (bi := true) (bj := true) rfl nd rfl rfl (by decide) rfl rfl (pma_cons (pm_dispT (hu0 hu5) (pm_callTy call_tuple_of (fun _ => prim_toTup) rfl T.tuple rfl (pma_cons (pm_var 2 (pv 2)) pma_nil)) pm_bl) (pma_cons (pm_list (pma_cons (pm_var 2 (pv 2)) pma_nil)) pma_nil)) rfl)
    (pmb_cons (pms_while 1000000 PassesOwn.never (pmt_cmp (op_neD hu) (fun _ => prim_ne) (pm_var 4 (pv 4)) (pm_list pma_nil) (nomark _))
    (pmb_cons (pms_set (i := 5) (b := false) nd rfl (by first | exact Or.inl rfl | exact Or.inr rfl) (pm_popL (pm_var 4 (pv 4)) (fun p => pe_bm0 PySem.F.plainAttrs_list PySem.F.slot_list_pop PySem.F.type_list_pop mt_pop p)))
    (pmb_one (pms_for PassesOwn.never rfl (pmi_range1 rfl T.range (pm_var 0 (pv 0))) (tg_name 6) (pg_name (i := 6) nd rfl (by first | exact Or.inl rfl | exact Or.inr rfl))
    (pmb_cons (pms_set (i := 7) (b := false) nd rfl (by first | exact Or.inl rfl | exact Or.inr rfl) (pm_idx (pm_kn (io := [false, false, false]) (ok_law_token T) (hr.mono (by decide)) rfl (pma_cons (pm_var 1 (pv 1)) (pma_cons (pm_var 5 (pv 5)) (pma_cons (pm_var 6 (pv 6)) pma_nil)))) pm_int))
    (pmb_one (pms_if (pmt_notInG (hu1 hu5) (pm_callTy call_tuple_of (fun _ => prim_toTup) rfl T.tuple rfl (pma_cons (pm_var 7 (pv 7)) pma_nil)) (pm_var 3 (pv 3)))
    (pmb_cons (pms_gsub (hu1 hu5) (pm_var 3 (pv 3)) (pm_callTy call_tuple_of (fun _ => prim_toTup) rfl T.tuple rfl (pma_cons (pm_var 7 (pv 7)) pma_nil)) pm_bl)
    (pmb_one (pms_app (pm_var 4 (pv 4)) (pm_var 7 (pv 7)) (fun p r => pe_bm PySem.F.plainAttrs_list PySem.F.slot_list_append PySem.F.type_list_append mt_append p r))))
    pmb_nil)))))))
    (pmb_one (pms_ret (pm_lc (own := [(("one" : Str), 8)]) rfl nd (pmi_list (pm_callB (call_sortedDT rfl) (fun _ => prim_sortKT) rfl T.sorted rfl (pma_cons (pm_var 3 (pv 3)) pma_nil))) (blkOk_by (N := N_law_found) (sc := defScope s_law_found) (by decide +kernel)) (tg_name 8) (by decide) (fun _ _ _ _ _ => (pg_name (i := 8) nd rfl (by first | exact Or.inl rfl | exact Or.inr rfl))) (fun _ _ _ _ _ => pmts_nil) (fun _ _ _ _ _ => (pm_callTy call_list_of (fun _ => prim_toList) rfl T.list rfl (pma_cons (pm_var 8 (pv 8)) pma_nil))))))))
theorem ok_law_start {P : Program} {w : World} {K : PySem.W.Frag} {mg : Str → Option Value} {base : Heap} {B : Addr} (T : Txt K mg B) : Kn P w K mg base 2 "_law_start" P_law_start (spF K B 2 D_law_start) := by
  refine T.d_law_start.kn (N := N_law_start) (n := 2) (m := 1) (ms := ms_law_start) sc_law_start rfl rfl fun f cdv A outer s H E hr => ?_
  have nd := sc_law_start.nd
  have hu := hr.units
  have hu5 := Mx.room65 hr
  exact (pmb_one (pms_ret (pm_lc (own := [(("gate" : Str), 2)]) rfl nd (pmi_list (pm_var 1 (pv 1))) (blkOk_by (N := N_law_start) (sc := defScope s_law_start) (by decide +kernel)) (tg_name 2) (by decide) (fun _ _ _ _ _ => (pg_name (i := 2) nd rfl (by first | exact Or.inl rfl | exact Or.inr rfl))) (fun _ _ _ _ _ => pmts_nil) (fun _ _ _ _ _ => (pm_kn (io := [true, false]) (ok_law_take T) (hr.mono (by decide)) rfl (pma_cons (pm_var 0 (pv 0)) (pma_cons pm_int pma_nil)))))))
theorem ok_law {P : Program} {w : World} {K : PySem.W.Frag} {mg : Str → Option Value} {base : Heap} {B f : Addr} {fd : FuncData} (F : Fun K "law" "law" s_law f fd) (T : Txt K mg B) : FnG P w K mg base 7 f fd P_law (spF K B 1 D_law) := by
  refine fn_mkG (N := N_law) (n := 1) (m := 9) (ms := ms_law) F sc_law rfl rfl fun cdv A outer s H hr qt => ?_
  have nd := sc_law.nd
  have hu := hr.units
  have hu5 := Mx.room65 hr
  exact (pmb_cons (pms_for PassesOwn.never rfl (pmi_range1 rfl T.range (pm_callB (call_max2 rfl) (fun _ => prim_max) rfl T.max rfl (pma_cons pm_int (pma_cons (pm_callB (call_min2 rfl) (fun _ => prim_min) rfl T.min rfl (pma_cons pm_int (pma_cons (pm_callB call_len_seq (fun _ => prim_lenS) rfl T.len PySem.boot_len (pma_cons (pm_var 0 (pv 0)) pma_nil)) pma_nil))) pma_nil)))) (tg_name 1) (pg_name (i := 1) nd rfl (by first | exact Or.inl rfl | exact Or.inr rfl))
    (pmb_cons (pms_set (i := 2) (b := true) nd rfl (by first | exact Or.inl rfl | exact Or.inr rfl) (pm_kn (io := [false, false]) (ok_law_pot T) (hr.mono (by decide)) rfl (pma_cons (pm_var 0 (pv 0)) (pma_cons (pm_var 1 (pv 1)) pma_nil))))
    (pmb_one (pms_for PassesOwn.never rfl (pmi_range1 rfl T.range pm_int) (tg_name 3) (pg_name (i := 3) nd rfl (by first | exact Or.inl rfl | exact Or.inr rfl))
    (pmb_cons (pms_unp (pm_kn (io := [true, false]) (ok_law_board T) (hr.mono (by decide)) rfl (pma_cons (pm_var 2 (pv 2)) (pma_cons pm_int pma_nil))) (tg_tup _ [4, 5]) (pg_tup rfl (pgs_cons (pg_name (i := 4) nd rfl (by first | exact Or.inl rfl | exact Or.inr rfl)) (pgs_cons (pg_name (i := 5) nd rfl (by first | exact Or.inl rfl | exact Or.inr rfl)) pgs_nil))))
    (pmb_cons (pms_parC (ts := [(6, false), (7, true)]) rfl (pma_cons (pm_board (ok_Board T) (hr.mono (by decide)) rfl (pma_cons (pm_var 4 (pv 4)) (pma_cons (pm_var 5 (pv 5)) pma_nil))) (pma_cons (pm_list pma_nil) pma_nil)) (pgs_cons (pg_name (i := 6) nd rfl (by first | exact Or.inl rfl | exact Or.inr rfl)) (pgs_cons (pg_name (i := 7) nd rfl (by first | exact Or.inl rfl | exact Or.inr rfl)) pgs_nil)) (by decide))
    (pmb_cons (pms_for PassesOwn.never rfl (pmi_range1 rfl T.range (pm_addU (pm_callB call_len_seq (fun _ => prim_len) rfl T.len PySem.boot_len (pma_cons (pm_var 5 (pv 5)) pma_nil)) pm_int)) (tg_name 8) (pg_name (i := 8) nd rfl (by first | exact Or.inl rfl | exact Or.inr rfl))
    (pmb_one (pms_app (pm_var 7 (pv 7)) (pm_callB call_len_seq (fun _ => prim_len) rfl T.len PySem.boot_len (pma_cons (pm_kn (io := [false, false, false]) (ok_law_found T) (hr.mono (by decide)) rfl (pma_cons (pm_var 4 (pv 4)) (pma_cons (pm_slHi (pm_var 5 (pv 5)) (pm_var 8 (pv 8))) (pma_cons (pm_mulU (pm_list (pma_cons pm_int pma_nil)) (pm_var 8 (pv 8))) pma_nil)))) pma_nil)) (fun p r => pe_bm PySem.F.plainAttrs_list PySem.F.slot_list_append PySem.F.type_list_append mt_append p r))))
    (pmb_cons (pms_setLc (i := 9) (b := false) (own := [(("at" : Str), 8)]) rfl nd rfl rfl (sw_true rfl rfl rfl (by decide +kernel)) (pmi_range1 rfl T.range (pm_callB call_len_seq (fun _ => prim_len) rfl T.len PySem.boot_len (pma_cons (pm_var 5 (pv 5)) pma_nil))) (blkOk_by (N := N_law) (sc := defScope s_law) (by decide +kernel)) (tg_name 8) (by decide) (fun _ _ _ _ _ => (pg_name (i := 8) nd rfl (by first | exact Or.inl rfl | exact Or.inr rfl))) (fun _ _ _ _ _ => (pmts_one (pmt_cmp (op_eqU hu) (fun _ => prim_eqU) (pm_idx (pm_var 7 (pv 7)) (pm_addU (pm_var 8 (pv 8)) pm_int)) (pm_mulU pm_int (pm_idx (pm_var 7 (pv 7)) (pm_var 8 (pv 8)))) (nomark _)))) (fun _ _ _ _ _ => (pm_var 8 (pv 8))))
    (pmb_cons (pms_if (pmt_cmp (op_neD hu) (fun _ => prim_ne) (pm_callB (call_repr (deep := true) qt.guards hu (fun _ => qt.sys)) (fun _ => prim_repr) rfl T.repr rfl (pma_cons (pm_list (pma_cons (pm_kn (io := [false]) (ok_free_gates T) (hr.mono (by decide)) rfl (pma_cons (pm_var 6 (pv 6)) pma_nil)) (pma_cons (pm_kn (io := [false]) (ok_count_reachable T) (hr.mono (by decide)) rfl (pma_cons (pm_var 6 (pv 6)) pma_nil)) pma_nil))) pma_nil)) (pm_callB (call_repr (deep := true) qt.guards hu (fun _ => qt.sys)) (fun _ => prim_repr) rfl T.repr rfl (pma_cons (pm_list (pma_cons (pm_var 9 (pv 9)) (pma_cons (pm_idx (pm_var 7 (pv 7)) (pm_neg pm_int)) pma_nil))) pma_nil)) (nomark _))
    (pmb_one (pms_ret pm_bl))
    pmb_nil)
    (pmb_one (pms_if (pmt_cmp (op_neD hu) (fun _ => prim_ne) (pm_callB call_len_seq (fun _ => prim_len) rfl T.len PySem.boot_len (pma_cons (pm_kn (io := [false, false, false]) (ok_law_found T) (hr.mono (by decide)) rfl (pma_cons (pm_var 4 (pv 4)) (pma_cons (pm_var 5 (pv 5)) (pma_cons (pm_kn (io := [true, false]) (ok_law_start T) (hr.mono (by decide)) rfl (pma_cons (pm_var 2 (pv 2)) (pma_cons (pm_var 5 (pv 5)) pma_nil))) pma_nil)))) pma_nil)) (pm_idx (pm_var 7 (pv 7)) (pm_neg pm_int)) (nomark _))
    (pmb_one (pms_ret pm_bl))
    pmb_nil)))))))))))
    (pmb_one (pms_ret (pm_and (pm_eqU hu (pm_kn (io := [false]) (ok_count_reachable T) (hr.mono (by decide)) rfl (pma_cons (pm_board (ok_Board T) (hr.mono (by decide)) rfl (pma_cons pm_int (pma_cons (pm_list pma_nil) pma_nil))) pma_nil)) pm_int) (pm_one (pm_eqU hu (pm_kn (io := [false]) (ok_free_gates T) (hr.mono (by decide)) rfl (pma_cons (pm_board (ok_Board T) (hr.mono (by decide)) rfl (pma_cons pm_int (pma_cons (pm_list pma_nil) pma_nil))) pma_nil)) (pm_list pma_nil)))))))
def spLaw (K : PySem.W.Frag) : Sp := fun vs H Q E => ∀ B : Addr, spF K B 1 D_law vs H Q E
set_option maxHeartbeats 0 in
theorem all_mk {l : PySem.W.OpenLaw} {w : World} {K : PySem.W.Frag} {h : Heap} {mg : Str → Option Value} {fa B : Addr} (X : K.In h) (G : h.Ns mainGlobals mg) (hfa : mg "law" = some (.ref fa))
    {f1 : Addr} {od1 an1 : Option Addr} {sl1 : Array (Option Value)} {oc1 kV1 dc1 pm1 cd1 ct1 : Value}
    {f2 : Addr} {od2 an2 : Option Addr} {sl2 : Array (Option Value)} {oc2 kV2 dc2 pm2 cd2 ct2 : Value}
    {f3 : Addr} {od3 an3 : Option Addr} {sl3 : Array (Option Value)} {oc3 kV3 dc3 pm3 cd3 ct3 : Value}
    {f4 : Addr} {od4 an4 : Option Addr} {sl4 : Array (Option Value)} {oc4 kV4 dc4 pm4 cd4 ct4 : Value}
    {f5 : Addr} {od5 an5 : Option Addr} {sl5 : Array (Option Value)} {oc5 kV5 dc5 pm5 cd5 ct5 : Value}
    {f6 : Addr} {od6 an6 : Option Addr} {sl6 : Array (Option Value)} {oc6 kV6 dc6 pm6 cd6 ct6 : Value}
    {f7 : Addr} {od7 an7 : Option Addr} {sl7 : Array (Option Value)} {oc7 kV7 dc7 pm7 cd7 ct7 : Value}
    {f8 : Addr} {od8 an8 : Option Addr} {sl8 : Array (Option Value)} {oc8 kV8 dc8 pm8 cd8 ct8 : Value}
    {f9 : Addr} {od9 an9 : Option Addr} {sl9 : Array (Option Value)} {oc9 kV9 dc9 pm9 cd9 ct9 : Value}
    {f10 : Addr} {od10 an10 : Option Addr} {sl10 : Array (Option Value)} {oc10 kV10 dc10 pm10 cd10 ct10 : Value}
    {f11 : Addr} {od11 an11 : Option Addr} {sl11 : Array (Option Value)} {oc11 kV11 dc11 pm11 cd11 ct11 : Value}
    {f12 : Addr} {od12 an12 : Option Addr} {sl12 : Array (Option Value)} {oc12 kV12 dc12 pm12 cd12 ct12 : Value}
    {f13 : Addr} {od13 an13 : Option Addr} {sl13 : Array (Option Value)} {oc13 kV13 dc13 pm13 cd13 ct13 : Value}
    {f14 : Addr} {od14 an14 : Option Addr} {sl14 : Array (Option Value)} {oc14 kV14 dc14 pm14 cd14 ct14 : Value}
    {f15 : Addr} {od15 an15 : Option Addr} {sl15 : Array (Option Value)} {oc15 kV15 dc15 pm15 cd15 ct15 : Value}
    {f16 : Addr} {od16 an16 : Option Addr} {sl16 : Array (Option Value)} {oc16 kV16 dc16 pm16 cd16 ct16 : Value}
    {f17 : Addr} {od17 an17 : Option Addr} {sl17 : Array (Option Value)} {oc17 kV17 dc17 pm17 cd17 ct17 : Value}
    {f18 : Addr} {od18 an18 : Option Addr} {sl18 : Array (Option Value)} {oc18 kV18 dc18 pm18 cd18 ct18 : Value}
    {f19 : Addr} {od19 an19 : Option Addr} {sl19 : Array (Option Value)} {oc19 kV19 dc19 pm19 cd19 ct19 : Value}
    {f20 : Addr} {od20 an20 : Option Addr} {sl20 : Array (Option Value)} {oc20 kV20 dc20 pm20 cd20 ct20 : Value}
    {p21 : Addr} {rs21 : List Value}
    {f21 : Addr} {od21 an21 : Option Addr} {sl21 : Array (Option Value)} {oc21 kV21 dc21 pm21 cd21 ct21 : Value}
    {p22 : Addr} {rs22 : List Value}
    {f22 : Addr} {od22 an22 : Option Addr} {sl22 : Array (Option Value)} {oc22 kV22 dc22 pm22 cd22 ct22 : Value}
    {v_MAX_GATES : Value}
    {v_MAX_LANES : Value}
    (aB : PySem.W.nsIn K mainGlobals "Board" = some (some (.ref B)))
    (a1 : PySem.W.nsIn K mainGlobals "is_whole" = some (some (.ref f1)))
    (l1 : K.lookup f1 = some ⟨oc1, od1, .func (PySem.W.fnOf "is_whole" "is_whole" (defArgs s_is_whole) (defBody s_is_whole) (defScope s_is_whole) .none kV1 dc1 pm1 an1 cd1 ct1), sl1⟩)
    (c1 : PySem.W.codeIn K cd1 "is_whole" = true)
    (k1 : PySem.W.keepIn K (.ref f1) = true)
    (a2 : PySem.W.nsIn K mainGlobals "is_between" = some (some (.ref f2)))
    (l2 : K.lookup f2 = some ⟨oc2, od2, .func (PySem.W.fnOf "is_between" "is_between" (defArgs s_is_between) (defBody s_is_between) (defScope s_is_between) .none kV2 dc2 pm2 an2 cd2 ct2), sl2⟩)
    (c2 : PySem.W.codeIn K cd2 "is_between" = true)
    (k2 : PySem.W.keepIn K (.ref f2) = true)
    (a3 : PySem.W.nsIn K mainGlobals "is_lane_pair" = some (some (.ref f3)))
    (l3 : K.lookup f3 = some ⟨oc3, od3, .func (PySem.W.fnOf "is_lane_pair" "is_lane_pair" (defArgs s_is_lane_pair) (defBody s_is_lane_pair) (defScope s_is_lane_pair) .none kV3 dc3 pm3 an3 cd3 ct3), sl3⟩)
    (c3 : PySem.W.codeIn K cd3 "is_lane_pair" = true)
    (k3 : PySem.W.keepIn K (.ref f3) = true)
    (a4 : PySem.W.nsIn K mainGlobals "is_gate" = some (some (.ref f4)))
    (l4 : K.lookup f4 = some ⟨oc4, od4, .func (PySem.W.fnOf "is_gate" "is_gate" (defArgs s_is_gate) (defBody s_is_gate) (defScope s_is_gate) .none kV4 dc4 pm4 an4 cd4 ct4), sl4⟩)
    (c4 : PySem.W.codeIn K cd4 "is_gate" = true)
    (k4 : PySem.W.keepIn K (.ref f4) = true)
    (a5 : PySem.W.nsIn K mainGlobals "_law_pot" = some (some (.ref f5)))
    (l5 : K.lookup f5 = some ⟨oc5, od5, .func (PySem.W.fnOf "_law_pot" "_law_pot" (defArgs s_law_pot) (defBody s_law_pot) (defScope s_law_pot) .none kV5 dc5 pm5 an5 cd5 ct5), sl5⟩)
    (c5 : PySem.W.codeIn K cd5 "_law_pot" = true)
    (k5 : PySem.W.keepIn K (.ref f5) = true)
    (a6 : PySem.W.nsIn K mainGlobals "_law_take" = some (some (.ref f6)))
    (l6 : K.lookup f6 = some ⟨oc6, od6, .func (PySem.W.fnOf "_law_take" "_law_take" (defArgs s_law_take) (defBody s_law_take) (defScope s_law_take) .none kV6 dc6 pm6 an6 cd6 ct6), sl6⟩)
    (c6 : PySem.W.codeIn K cd6 "_law_take" = true)
    (k6 : PySem.W.keepIn K (.ref f6) = true)
    (a7 : PySem.W.nsIn K mainGlobals "_law_board" = some (some (.ref f7)))
    (l7 : K.lookup f7 = some ⟨oc7, od7, .func (PySem.W.fnOf "_law_board" "_law_board" (defArgs s_law_board) (defBody s_law_board) (defScope s_law_board) .none kV7 dc7 pm7 an7 cd7 ct7), sl7⟩)
    (c7 : PySem.W.codeIn K cd7 "_law_board" = true)
    (k7 : PySem.W.keepIn K (.ref f7) = true)
    (a8 : PySem.W.nsIn K mainGlobals "check_board" = some (some (.ref f8)))
    (l8 : K.lookup f8 = some ⟨oc8, od8, .func (PySem.W.fnOf "check_board" "check_board" (defArgs s_check_board) (defBody s_check_board) (defScope s_check_board) .none kV8 dc8 pm8 an8 cd8 ct8), sl8⟩)
    (c8 : PySem.W.codeIn K cd8 "check_board" = true)
    (k8 : PySem.W.keepIn K (.ref f8) = true)
    (a9 : PySem.W.nsIn K mainGlobals "difference" = some (some (.ref f9)))
    (l9 : K.lookup f9 = some ⟨oc9, od9, .func (PySem.W.fnOf "difference" "difference" (defArgs s_difference) (defBody s_difference) (defScope s_difference) .none kV9 dc9 pm9 an9 cd9 ct9), sl9⟩)
    (c9 : PySem.W.codeIn K cd9 "difference" = true)
    (k9 : PySem.W.keepIn K (.ref f9) = true)
    (a10 : PySem.W.nsIn K mainGlobals "evened" = some (some (.ref f10)))
    (l10 : K.lookup f10 = some ⟨oc10, od10, .func (PySem.W.fnOf "evened" "evened" (defArgs s_evened) (defBody s_evened) (defScope s_evened) .none kV10 dc10 pm10 an10 cd10 ct10), sl10⟩)
    (c10 : PySem.W.codeIn K cd10 "evened" = true)
    (k10 : PySem.W.keepIn K (.ref f10) = true)
    (a11 : PySem.W.nsIn K mainGlobals "first_odd" = some (some (.ref f11)))
    (l11 : K.lookup f11 = some ⟨oc11, od11, .func (PySem.W.fnOf "first_odd" "first_odd" (defArgs s_first_odd) (defBody s_first_odd) (defScope s_first_odd) .none kV11 dc11 pm11 an11 cd11 ct11), sl11⟩)
    (c11 : PySem.W.codeIn K cd11 "first_odd" = true)
    (k11 : PySem.W.keepIn K (.ref f11) = true)
    (a12 : PySem.W.nsIn K mainGlobals "free_and_basis" = some (some (.ref f12)))
    (l12 : K.lookup f12 = some ⟨oc12, od12, .func (PySem.W.fnOf "free_and_basis" "free_and_basis" (defArgs s_free_and_basis) (defBody s_free_and_basis) (defScope s_free_and_basis) .none kV12 dc12 pm12 an12 cd12 ct12), sl12⟩)
    (c12 : PySem.W.codeIn K cd12 "free_and_basis" = true)
    (k12 : PySem.W.keepIn K (.ref f12) = true)
    (a13 : PySem.W.nsIn K mainGlobals "free_gates" = some (some (.ref f13)))
    (l13 : K.lookup f13 = some ⟨oc13, od13, .func (PySem.W.fnOf "free_gates" "free_gates" (defArgs s_free_gates) (defBody s_free_gates) (defScope s_free_gates) .none kV13 dc13 pm13 an13 cd13 ct13), sl13⟩)
    (c13 : PySem.W.codeIn K cd13 "free_gates" = true)
    (k13 : PySem.W.keepIn K (.ref f13) = true)
    (a14 : PySem.W.nsIn K mainGlobals "count_reachable" = some (some (.ref f14)))
    (l14 : K.lookup f14 = some ⟨oc14, od14, .func (PySem.W.fnOf "count_reachable" "count_reachable" (defArgs s_count_reachable) (defBody s_count_reachable) (defScope s_count_reachable) .none kV14 dc14 pm14 an14 cd14 ct14), sl14⟩)
    (c14 : PySem.W.codeIn K cd14 "count_reachable" = true)
    (k14 : PySem.W.keepIn K (.ref f14) = true)
    (a15 : PySem.W.nsIn K mainGlobals "_law_token" = some (some (.ref f15)))
    (l15 : K.lookup f15 = some ⟨oc15, od15, .func (PySem.W.fnOf "_law_token" "_law_token" (defArgs s_law_token) (defBody s_law_token) (defScope s_law_token) .none kV15 dc15 pm15 an15 cd15 ct15), sl15⟩)
    (c15 : PySem.W.codeIn K cd15 "_law_token" = true)
    (k15 : PySem.W.keepIn K (.ref f15) = true)
    (a16 : PySem.W.nsIn K mainGlobals "_law_found" = some (some (.ref f16)))
    (l16 : K.lookup f16 = some ⟨oc16, od16, .func (PySem.W.fnOf "_law_found" "_law_found" (defArgs s_law_found) (defBody s_law_found) (defScope s_law_found) .none kV16 dc16 pm16 an16 cd16 ct16), sl16⟩)
    (c16 : PySem.W.codeIn K cd16 "_law_found" = true)
    (k16 : PySem.W.keepIn K (.ref f16) = true)
    (a17 : PySem.W.nsIn K mainGlobals "_law_start" = some (some (.ref f17)))
    (l17 : K.lookup f17 = some ⟨oc17, od17, .func (PySem.W.fnOf "_law_start" "_law_start" (defArgs s_law_start) (defBody s_law_start) (defScope s_law_start) .none kV17 dc17 pm17 an17 cd17 ct17), sl17⟩)
    (c17 : PySem.W.codeIn K cd17 "_law_start" = true)
    (k17 : PySem.W.keepIn K (.ref f17) = true)
    (a18 : PySem.W.nsIn K mainGlobals "law" = some (some (.ref f18)))
    (l18 : K.lookup f18 = some ⟨oc18, od18, .func (PySem.W.fnOf "law" "law" (defArgs s_law) (defBody s_law) (defScope s_law) .none kV18 dc18 pm18 an18 cd18 ct18), sl18⟩)
    (c18 : PySem.W.codeIn K cd18 "law" = true)
    (k18 : PySem.W.keepIn K (.ref f18) = true)
    (a19 : PySem.W.findIn K (.ref B) "__init__" = some (some (.ref f19)))
    (l19 : K.lookup f19 = some ⟨oc19, od19, .func (PySem.W.fnOf "__init__" "Board.__init__" (defArgs s_bi) (defBody s_bi) (defScope s_bi) .none kV19 dc19 pm19 an19 cd19 ct19), sl19⟩)
    (c19 : PySem.W.codeIn K cd19 "Board.__init__" = true)
    (k19 : PySem.W.keepIn K (.ref f19) = true)
    (i19 : PySem.W.isFn K (.ref f19) = true)
    (a20 : PySem.W.findIn K (.ref B) "__len__" = some (some (.ref f20)))
    (l20 : K.lookup f20 = some ⟨oc20, od20, .func (PySem.W.fnOf "__len__" "Board.__len__" (defArgs s_bl) (defBody s_bl) (defScope s_bl) .none kV20 dc20 pm20 an20 cd20 ct20), sl20⟩)
    (c20 : PySem.W.codeIn K cd20 "Board.__len__" = true)
    (k20 : PySem.W.keepIn K (.ref f20) = true)
    (i20 : PySem.W.isFn K (.ref f20) = true)
    (pa21 : PySem.W.findIn K (.ref B) "lane_count" = some (some (.ref p21)))
    (pb21 : PySem.W.specialIn K (.ref p21) "__get__" = some (some (.builtin "property.__get__")))
    (pc21 : PySem.W.takesIn K (.ref p21) = some true)
    (pd21 : PySem.W.recIn K p21 "property" = some (.ref f21 :: rs21))
    (l21 : K.lookup f21 = some ⟨oc21, od21, .func (PySem.W.fnOf "lane_count" "Board.lane_count" (defArgs s_lane_count) (defBody s_lane_count) (defScope s_lane_count) .none kV21 dc21 pm21 an21 cd21 ct21), sl21⟩)
    (c21 : PySem.W.codeIn K cd21 "Board.lane_count" = true)
    (k21 : PySem.W.keepIn K (.ref f21) = true)
    (pa22 : PySem.W.findIn K (.ref B) "gate_list" = some (some (.ref p22)))
    (pb22 : PySem.W.specialIn K (.ref p22) "__get__" = some (some (.builtin "property.__get__")))
    (pc22 : PySem.W.takesIn K (.ref p22) = some true)
    (pd22 : PySem.W.recIn K p22 "property" = some (.ref f22 :: rs22))
    (l22 : K.lookup f22 = some ⟨oc22, od22, .func (PySem.W.fnOf "gate_list" "Board.gate_list" (defArgs s_gate_list) (defBody s_gate_list) (defScope s_gate_list) .none kV22 dc22 pm22 an22 cd22 ct22), sl22⟩)
    (c22 : PySem.W.codeIn K cd22 "Board.gate_list" = true)
    (k22 : PySem.W.keepIn K (.ref f22) = true)
    (pg : PySem.W.plainGet K B Str.empty = true)
    (hd : PySem.W.hasDictIn K B = true)
    (po : PySem.W.plainOver K B = true)
    (sa : PySem.W.findIn K (.ref B) "__setattr__" = some (some (.builtin "object.__setattr__")))
    (mk : PySem.W.makesIn K B = true)
    (kc : PySem.W.keepIn K (.ref B) = true)
    (nL : PySem.W.findIn K (.ref B) "_lanes" = some none)
    (nG : PySem.W.findIn K (.ref B) "_gates" = some none)
    (q1 : PySem.W.findIn K (.ref B) "__class__" = some (some (.builtin "object.__class__")))
    (q2 : PySem.W.specialIn K (.builtin "object.__class__") "__get__" = some (some (.builtin "getset_descriptor.__get__")))
    (q3 : PySem.W.takesIn K (.builtin "object.__class__") = some true)
    (q4 : PySem.W.mroIn K B (.type "object") = some true)
    (z_len : PySem.W.nsIn K mainGlobals "len" = some none)
    (z_range : PySem.W.nsIn K mainGlobals "range" = some none)
    (z_repr : PySem.W.nsIn K mainGlobals "repr" = some none)
    (z_isinstance : PySem.W.nsIn K mainGlobals "isinstance" = some none)
    (z_int : PySem.W.nsIn K mainGlobals "int" = some none)
    (z_bool : PySem.W.nsIn K mainGlobals "bool" = some none)
    (z_list : PySem.W.nsIn K mainGlobals "list" = some none)
    (z_tuple : PySem.W.nsIn K mainGlobals "tuple" = some none)
    (z_min : PySem.W.nsIn K mainGlobals "min" = some none)
    (z_max : PySem.W.nsIn K mainGlobals "max" = some none)
    (z_all : PySem.W.nsIn K mainGlobals "all" = some none)
    (z_enumerate : PySem.W.nsIn K mainGlobals "enumerate" = some none)
    (z_zip : PySem.W.nsIn K mainGlobals "zip" = some none)
    (z_sorted : PySem.W.nsIn K mainGlobals "sorted" = some none)
    (y_MAX_GATES : PySem.W.nsIn K mainGlobals "MAX_GATES" = some (some v_MAX_GATES))
    (r_MAX_GATES : RelV (.int 24) v_MAX_GATES)
    (y_MAX_LANES : PySem.W.nsIn K mainGlobals "MAX_LANES" = some (some v_MAX_LANES))
    (r_MAX_LANES : RelV (.int 8) v_MAX_LANES) :
    ∃ fd : FuncData, (∀ (s : Shared) (v : Value), BindsTo s fd ⟨[v], []⟩ [("script", v)]) ∧ ∀ base : Heap, K.In base → base.Ns mainGlobals mg → FnG l.prog w K mg base 7 fa fd ["script"] (spLaw K) := by
  have F1 := fun_mk (st := s_is_whole) l1 c1 k1
  have b1 := F1.binds (ps := P_is_whole) fun _ _ _ _ _ _ us hl => match us, hl with | [_], _ => rfl
  have F2 := fun_mk (st := s_is_between) l2 c2 k2
  have b2 := F2.binds (ps := P_is_between) fun _ _ _ _ _ _ us hl => match us, hl with | [_, _, _], _ => rfl
  have F3 := fun_mk (st := s_is_lane_pair) l3 c3 k3
  have b3 := F3.binds (ps := P_is_lane_pair) fun _ _ _ _ _ _ us hl => match us, hl with | [_, _], _ => rfl
  have F4 := fun_mk (st := s_is_gate) l4 c4 k4
  have b4 := F4.binds (ps := P_is_gate) fun _ _ _ _ _ _ us hl => match us, hl with | [_, _], _ => rfl
  have F5 := fun_mk (st := s_law_pot) l5 c5 k5
  have b5 := F5.binds (ps := P_law_pot) fun _ _ _ _ _ _ us hl => match us, hl with | [_, _], _ => rfl
  have F6 := fun_mk (st := s_law_take) l6 c6 k6
  have b6 := F6.binds (ps := P_law_take) fun _ _ _ _ _ _ us hl => match us, hl with | [_, _], _ => rfl
  have F7 := fun_mk (st := s_law_board) l7 c7 k7
  have b7 := F7.binds (ps := P_law_board) fun _ _ _ _ _ _ us hl => match us, hl with | [_, _], _ => rfl
  have F8 := fun_mk (st := s_check_board) l8 c8 k8
  have b8 := F8.binds (ps := P_check_board) fun _ _ _ _ _ _ us hl => match us, hl with | [_], _ => rfl
  have F9 := fun_mk (st := s_difference) l9 c9 k9
  have b9 := F9.binds (ps := P_difference) fun _ _ _ _ _ _ us hl => match us, hl with | [_, _], _ => rfl
  have F10 := fun_mk (st := s_evened) l10 c10 k10
  have b10 := F10.binds (ps := P_evened) fun _ _ _ _ _ _ us hl => match us, hl with | [_, _], _ => rfl
  have F11 := fun_mk (st := s_first_odd) l11 c11 k11
  have b11 := F11.binds (ps := P_first_odd) fun _ _ _ _ _ _ us hl => match us, hl with | [_, _], _ => rfl
  have F12 := fun_mk (st := s_free_and_basis) l12 c12 k12
  have b12 := F12.binds (ps := P_free_and_basis) fun _ _ _ _ _ _ us hl => match us, hl with | [_], _ => rfl
  have F13 := fun_mk (st := s_free_gates) l13 c13 k13
  have b13 := F13.binds (ps := P_free_gates) fun _ _ _ _ _ _ us hl => match us, hl with | [_], _ => rfl
  have F14 := fun_mk (st := s_count_reachable) l14 c14 k14
  have b14 := F14.binds (ps := P_count_reachable) fun _ _ _ _ _ _ us hl => match us, hl with | [_], _ => rfl
  have F15 := fun_mk (st := s_law_token) l15 c15 k15
  have b15 := F15.binds (ps := P_law_token) fun _ _ _ _ _ _ us hl => match us, hl with | [_, _, _], _ => rfl
  have F16 := fun_mk (st := s_law_found) l16 c16 k16
  have b16 := F16.binds (ps := P_law_found) fun _ _ _ _ _ _ us hl => match us, hl with | [_, _, _], _ => rfl
  have F17 := fun_mk (st := s_law_start) l17 c17 k17
  have b17 := F17.binds (ps := P_law_start) fun _ _ _ _ _ _ us hl => match us, hl with | [_, _], _ => rfl
  have F18 := fun_mk (st := s_law) l18 c18 k18
  have F19 := fun_mk (st := s_bi) l19 c19 k19
  have b19 := F19.binds (ps := P_bi) fun _ _ _ _ _ _ us hl => match us, hl with | [_, _, _], _ => rfl
  have F20 := fun_mk (st := s_bl) l20 c20 k20
  have b20 := F20.binds (ps := ["self"]) fun _ _ _ _ _ _ us hl => match us, hl with | [_], _ => rfl
  have F21 := fun_mk (st := s_lane_count) l21 c21 k21
  have b21 := F21.binds (ps := ["self"]) fun _ _ _ _ _ _ us hl => match us, hl with | [_], _ => rfl
  have F22 := fun_mk (st := s_gate_list) l22 c22 k22
  have b22 := F22.binds (ps := ["self"]) fun _ _ _ _ _ _ us hl => match us, hl with | [_], _ => rfl
  have T : Txt K mg B := ⟨⟨⟨pg, hd, po, sa⟩, q1, q2, q3, q4⟩, PySem.W.mg_of X G aB, nL, nG, ⟨f19, _, F19, ⟨mk, a19, i19, kc⟩, b19⟩, ⟨f20, _, F20, b20, a20, i20⟩, PySem.W.mg_none_of X G z_len, PySem.W.mg_none_of X G z_range, PySem.W.mg_none_of X G z_repr, PySem.W.mg_none_of X G z_isinstance, PySem.W.mg_none_of X G z_int, PySem.W.mg_none_of X G z_bool, PySem.W.mg_none_of X G z_list, PySem.W.mg_none_of X G z_tuple, PySem.W.mg_none_of X G z_min, PySem.W.mg_none_of X G z_max, PySem.W.mg_none_of X G z_all, PySem.W.mg_none_of X G z_enumerate, PySem.W.mg_none_of X G z_zip, PySem.W.mg_none_of X G z_sorted, ⟨_, PySem.W.mg_of X G y_MAX_GATES, r_MAX_GATES⟩, ⟨_, PySem.W.mg_of X G y_MAX_LANES, r_MAX_LANES⟩, ⟨p21, f21, _, ⟨pa21, pb21, pc21, _, pd21⟩, F21, b21⟩, ⟨p22, f22, _, ⟨pa22, pb22, pc22, _, pd22⟩, F22, b22⟩, ⟨⟨f1, _, F1, b1, PySem.W.mg_of X G a1⟩⟩, ⟨⟨f2, _, F2, b2, PySem.W.mg_of X G a2⟩⟩, ⟨⟨f3, _, F3, b3, PySem.W.mg_of X G a3⟩⟩, ⟨⟨f4, _, F4, b4, PySem.W.mg_of X G a4⟩⟩, ⟨⟨f5, _, F5, b5, PySem.W.mg_of X G a5⟩⟩, ⟨⟨f6, _, F6, b6, PySem.W.mg_of X G a6⟩⟩, ⟨⟨f7, _, F7, b7, PySem.W.mg_of X G a7⟩⟩, ⟨⟨f8, _, F8, b8, PySem.W.mg_of X G a8⟩⟩, ⟨⟨f9, _, F9, b9, PySem.W.mg_of X G a9⟩⟩, ⟨⟨f10, _, F10, b10, PySem.W.mg_of X G a10⟩⟩, ⟨⟨f11, _, F11, b11, PySem.W.mg_of X G a11⟩⟩, ⟨⟨f12, _, F12, b12, PySem.W.mg_of X G a12⟩⟩, ⟨⟨f13, _, F13, b13, PySem.W.mg_of X G a13⟩⟩, ⟨⟨f14, _, F14, b14, PySem.W.mg_of X G a14⟩⟩, ⟨⟨f15, _, F15, b15, PySem.W.mg_of X G a15⟩⟩, ⟨⟨f16, _, F16, b16, PySem.W.mg_of X G a16⟩⟩, ⟨⟨f17, _, F17, b17, PySem.W.mg_of X G a17⟩⟩⟩
  have e := hfa.symm.trans (PySem.W.mg_of X G a18)
  cases e
  refine ⟨PySem.W.fnOf "law" "law" (defArgs s_law) (defBody s_law) (defScope s_law) .none kV18 dc18 pm18 an18 cd18 ct18, fun s v => .of_eq rfl, fun base _ _ => ?_⟩
  exact (ok_law (P := l.prog) (w := w) (base := base) F18 T).imp fun vs H Q E q => q B
theorem walk {l : PySem.W.OpenLaw} {q : Program} {loose : List Str} {XP : (Str → Option Value) → Heap → Prop} {YP : World → Heap → Prop} {d : DefRec} {K : Params → PySem.W.Frag} (hn : l.most = some 63) (hdf : d.params.defaults = []) (him : PyProof.Rows.importsNone q = true)
    (hY : ∀ (w : World) (h : Heap), YP w h → (K w.params).In h)
    (F : ∀ (w : World) (mg : Str → Option Value) (fa : Addr) (h : Heap), (K w.params).In h → h.Ns mainGlobals mg → mg d.name = some (.ref fa) →
      ∃ fd : FuncData, (∀ (s : Shared) (u : Value), BindsTo s fd ⟨[u], []⟩ [("script", u)]) ∧ ∀ base : Heap, (K w.params).In base → base.Ns mainGlobals mg → FnG l.prog w (K w.params) mg base 7 fa fd ["script"] (spLaw (K w.params))) :
    PySem.W.WalkO q loose XP YP l.row.toRowW d [] (fun f vs => PySem.call f vs) :=
  walkG (n := 63) (k := 7) (x := "script") (sp := spLaw) hn (by decide) hdf ⟨rfl, by decide, by decide⟩ him hY F fun K H a ns hl sq B => law_sp lawTrue hl sq
end Law
open PySem PySem.W PyProof.Rows
set_option maxRecDepth 100000 in
set_option maxHeartbeats 0 in
theorem PySem.Challenge.cw_tokenlanes_k15_reachable_settings_counte_holds : PySem.Challenge.rw_tokenlanes_k15_reachable_settings_counte.Holds := by
  w_on; o_law; k_head; (case hw => w_witness2)
  k_fill
  refine Law.walk (l := PySem.Challenge.rw_tokenlanes_k15_reachable_settings_counte) rfl rfl rfl (fun w h Y => PySem.W.kIn_of Y) ?F
  case F =>
    intro w mg fa h KX G hmg
    refine' Law.all_mk KX G hmg ?aB ?a1 ?l1 ?c1 ?k1 ?a2 ?l2 ?c2 ?k2 ?a3 ?l3 ?c3 ?k3 ?a4 ?l4 ?c4 ?k4 ?a5 ?l5 ?c5 ?k5 ?a6 ?l6 ?c6 ?k6 ?a7 ?l7 ?c7 ?k7 ?a8 ?l8 ?c8 ?k8 ?a9 ?l9 ?c9 ?k9 ?a10 ?l10 ?c10 ?k10 ?a11 ?l11 ?c11 ?k11 ?a12 ?l12 ?c12 ?k12 ?a13 ?l13 ?c13 ?k13 ?a14 ?l14 ?c14 ?k14 ?a15 ?l15 ?c15 ?k15 ?a16 ?l16 ?c16 ?k16 ?a17 ?l17 ?c17 ?k17 ?a18 ?l18 ?c18 ?k18 ?a19 ?l19 ?c19 ?k19 ?i19 ?a20 ?l20 ?c20 ?k20 ?i20 ?pa21 ?pb21 ?pc21 ?pd21 ?l21 ?c21 ?k21 ?pa22 ?pb22 ?pc22 ?pd22 ?l22 ?c22 ?k22 ?pg ?hd ?po ?sa ?mk ?kc ?nL ?nG ?q1 ?q2 ?q3 ?q4 ?z_len ?z_range ?z_repr ?z_isinstance ?z_int ?z_bool ?z_list ?z_tuple ?z_min ?z_max ?z_all ?z_enumerate ?z_zip ?z_sorted ?y_MAX_GATES ?r_MAX_GATES ?y_MAX_LANES ?r_MAX_LANES
    (case aB => k_is)
    (case a1 => k_is)
    (case l1 => k_is)
    (case c1 => k_is)
    (case k1 => k_is)
    (case a2 => k_is)
    (case l2 => k_is)
    (case c2 => k_is)
    (case k2 => k_is)
    (case a3 => k_is)
    (case l3 => k_is)
    (case c3 => k_is)
    (case k3 => k_is)
    (case a4 => k_is)
    (case l4 => k_is)
    (case c4 => k_is)
    (case k4 => k_is)
    (case a5 => k_is)
    (case l5 => k_is)
    (case c5 => k_is)
    (case k5 => k_is)
    (case a6 => k_is)
    (case l6 => k_is)
    (case c6 => k_is)
    (case k6 => k_is)
    (case a7 => k_is)
    (case l7 => k_is)
    (case c7 => k_is)
    (case k7 => k_is)
    (case a8 => k_is)
    (case l8 => k_is)
    (case c8 => k_is)
    (case k8 => k_is)
    (case a9 => k_is)
    (case l9 => k_is)
    (case c9 => k_is)
    (case k9 => k_is)
    (case a10 => k_is)
    (case l10 => k_is)
    (case c10 => k_is)
    (case k10 => k_is)
    (case a11 => k_is)
    (case l11 => k_is)
    (case c11 => k_is)
    (case k11 => k_is)
    (case a12 => k_is)
    (case l12 => k_is)
    (case c12 => k_is)
    (case k12 => k_is)
    (case a13 => k_is)
    (case l13 => k_is)
    (case c13 => k_is)
    (case k13 => k_is)
    (case a14 => k_is)
    (case l14 => k_is)
    (case c14 => k_is)
    (case k14 => k_is)
    (case a15 => k_is)
    (case l15 => k_is)
    (case c15 => k_is)
    (case k15 => k_is)
    (case a16 => k_is)
    (case l16 => k_is)
    (case c16 => k_is)
    (case k16 => k_is)
    (case a17 => k_is)
    (case l17 => k_is)
    (case c17 => k_is)
    (case k17 => k_is)
    (case a18 => k_is)
    (case l18 => k_is)
    (case c18 => k_is)
    (case k18 => k_is)
    (case a19 => k_is)
    (case l19 => k_is)
    (case c19 => k_is)
    (case k19 => k_is)
    (case i19 => k_is)
    (case a20 => k_is)
    (case l20 => k_is)
    (case c20 => k_is)
    (case k20 => k_is)
    (case i20 => k_is)
    (case pa21 => k_is)
    (case pb21 => k_is)
    (case pc21 => k_is)
    (case pd21 => k_is)
    (case l21 => k_is)
    (case c21 => k_is)
    (case k21 => k_is)
    (case pa22 => k_is)
    (case pb22 => k_is)
    (case pc22 => k_is)
    (case pd22 => k_is)
    (case l22 => k_is)
    (case c22 => k_is)
    (case k22 => k_is)
    (case pg => k_is)
    (case hd => k_is)
    (case po => k_is)
    (case sa => k_is)
    (case mk => k_is)
    (case kc => k_is)
    (case nL => k_is)
    (case nG => k_is)
    (case q1 => k_is)
    (case q2 => k_is)
    (case q3 => k_is)
    (case q4 => k_is)
    (case z_len => k_is)
    (case z_range => k_is)
    (case z_repr => k_is)
    (case z_isinstance => k_is)
    (case z_int => k_is)
    (case z_bool => k_is)
    (case z_list => k_is)
    (case z_tuple => k_is)
    (case z_min => k_is)
    (case z_max => k_is)
    (case z_all => k_is)
    (case z_enumerate => k_is)
    (case z_zip => k_is)
    (case z_sorted => k_is)
    (case y_MAX_GATES => k_is)
    (case r_MAX_GATES => exact ⟨_, rfl⟩)
    (case y_MAX_LANES => k_is)
    (case r_MAX_LANES => exact ⟨_, rfl⟩)

