import PyProof.Rows.All
import Wide.All
import OpenK.AllK
import Wide.FinOn
import Open.SpecLaws
import KE.OsGo
import HandS.ForSpec
import HandS.ForMost
import HandS.SetFor
import HandS.More
import HandS.CallLocal
import HandS.Walk
import VbkoafSpec
import PyVbkoaf
import PySem.Challenge.RW_placesrow_s01_answers
set_option Elab.async false
set_option linter.all false
set_option maxRecDepth 100000
set_option maxHeartbeats 4000000
/-! A giving as a list of pairs (who, day); the moves along a chain keep it one. -/
namespace Vb
open Vbkoaf (Person Day)

abbrev G := List (Nat × Nat)

def put : G → Nat → Nat → G
  | [], a, d => [(a, d)]
  | (b, e) :: r, a, d => if b = a then (a, d) :: r else (b, e) :: put r a d

def keys {β : Type} (g : List (Nat × β)) : List Nat := g.map (·.1)

theorem keys_cons {β : Type} {t : Nat × β} {g : List (Nat × β)} : keys (t :: g) = t.1 :: keys g := rfl

theorem mem_keys {β : Type} {g : List (Nat × β)} {t : Nat × β} (h : t ∈ g) : t.1 ∈ keys g := List.mem_map_of_mem h

theorem put_new {a d : Nat} : ∀ {g : G}, a ∉ keys g → put g a d = g ++ [(a, d)]
  | [], _ => rfl
  | (b, e) :: r, h => by
    have h1 : ¬ b = a := fun z => h (by subst z; exact List.mem_cons_self ..)
    have h2 : a ∉ keys r := fun z => h (List.mem_cons_of_mem _ z)
    rw [put, if_neg h1, put_new h2]; rfl

theorem keys_put_old {a d : Nat} : ∀ {g : G}, a ∈ keys g → keys (put g a d) = keys g
  | [], h => by cases h
  | (b, e) :: r, h => by
    rw [put]
    by_cases c : b = a
    · subst c; rw [if_pos rfl]; rfl
    · rw [if_neg c, keys_cons, keys_cons]
      have h2 : a ∈ keys r := by
        rcases List.mem_cons.mp h with z | z
        · exact absurd z.symm c
        · exact z
      rw [keys_put_old h2]

theorem put_same {a d : Nat} : ∀ {g : G}, (a, d) ∈ put g a d
  | [] => by simp [put]
  | (b, e) :: r => by
    rw [put]
    by_cases c : b = a
    · rw [if_pos c]; exact List.mem_cons_self ..
    · rw [if_neg c]; exact List.mem_cons_of_mem _ put_same

theorem mem_put_of {a d : Nat} {t : Nat × Nat} : ∀ {g : G}, t ∈ g → t.1 ≠ a → t ∈ put g a d
  | [], h, _ => by cases h
  | (b, e) :: r, h, ne => by
    rw [put]
    by_cases c : b = a
    · rw [if_pos c]
      rcases List.mem_cons.mp h with z | z
      · subst z; exact absurd c ne
      · exact List.mem_cons_of_mem _ z
    · rw [if_neg c]
      rcases List.mem_cons.mp h with z | z
      · subst z; exact List.mem_cons_self ..
      · exact List.mem_cons_of_mem _ (mem_put_of z ne)

theorem of_mem_put {a d : Nat} {t : Nat × Nat} : ∀ {g : G}, t ∈ put g a d → t = (a, d) ∨ t ∈ g
  | [], h => by
    rcases List.mem_cons.mp h with z | z
    · exact .inl z
    · cases z
  | (b, e) :: r, h => by
    rw [put] at h
    by_cases c : b = a
    · rw [if_pos c] at h
      rcases List.mem_cons.mp h with z | z
      · exact .inl z
      · exact .inr (List.mem_cons_of_mem _ z)
    · rw [if_neg c] at h
      rcases List.mem_cons.mp h with z | z
      · exact .inr (z ▸ List.mem_cons_self ..)
      · rcases of_mem_put z with y | y
        · exact .inl y
        · exact .inr (List.mem_cons_of_mem _ y)

theorem count_put_new {a d : Nat} {g : G} {q : Nat × Nat → Bool} (h : a ∉ keys g) : (put g a d).countP q = g.countP q + [(a, d)].countP q := by
  rw [put_new h, List.countP_append]

theorem count_put_old {a d e : Nat} {q : Nat × Nat → Bool} : ∀ {g : G}, (keys g).Nodup → (a, e) ∈ g → (put g a d).countP q + [(a, e)].countP q = g.countP q + [(a, d)].countP q
  | [], _, h => by cases h
  | (b, f) :: r, nd, h => by
    rw [put]
    have nd' := List.nodup_cons.mp nd
    by_cases c : b = a
    · subst c
      rw [if_pos rfl]
      rcases List.mem_cons.mp h with z | z
      · cases z
        simp only [List.countP_cons, List.countP_nil]; omega
      · exact absurd (mem_keys z) nd'.1
    · rw [if_neg c]
      rcases List.mem_cons.mp h with z | z
      · cases z; exact absurd rfl c
      · have ih := count_put_old (d := d) (q := q) nd'.2 z
        simp only [List.countP_cons, List.countP_nil] at ih ⊢; omega

/-- The moves of a chain, the last of the list first. -/
def moved (g : G) : G → G
  | [] => g
  | t :: c => put (moved g c) t.1 t.2

/-- What the movers behind the first leave: each sits on the day that the one ahead gets. -/
def outs : G → G
  | [] => []
  | [_] => []
  | (_, d) :: (b, e) :: r => (b, d) :: outs ((b, e) :: r)

theorem keys_moved {g : G} : ∀ {c : G}, (∀ a ∈ keys c, a ∈ keys g) → keys (moved g c) = keys g
  | [], _ => rfl
  | t :: c, h => by
    have ih : keys (moved g c) = keys g := keys_moved fun a m => h a (List.mem_cons_of_mem _ m)
    rw [moved, keys_put_old, ih]
    rw [ih]; exact h _ (List.mem_cons_self ..)

theorem mem_moved {g : G} {t : Nat × Nat} (h : t ∈ g) : ∀ {c : G}, t.1 ∉ keys c → t ∈ moved g c
  | [], _ => h
  | s :: c, n => by
    rw [moved]
    refine mem_put_of (mem_moved h fun z => n (List.mem_cons_of_mem _ z)) fun z => n ?_
    rw [z]; exact List.mem_cons_self ..

theorem of_mem_moved {g : G} {t : Nat × Nat} : ∀ {c : G}, t ∈ moved g c → t ∈ g ∨ t ∈ c
  | [], h => .inl h
  | s :: c, h => by
    rcases of_mem_put h with z | z
    · exact .inr (z ▸ List.mem_cons_self ..)
    · rcases of_mem_moved z with y | y
      · exact .inl y
      · exact .inr (List.mem_cons_of_mem _ y)

theorem outs_keys : ∀ {c : G} {t : Nat × Nat}, t ∈ outs c → t.1 ∈ keys c.tail
  | [], _, h => by cases h
  | [_], _, h => by cases h
  | (_, d) :: (b, e) :: r, t, h => by
    rcases List.mem_cons.mp h with z | z
    · subst z; exact List.mem_cons_self ..
    · exact List.mem_cons_of_mem _ (outs_keys z)

/-- all keys behind the first are in the giving -/
theorem tail_keys : ∀ {c : G} {g : G}, (∀ t ∈ outs c, t ∈ g) → ∀ a ∈ keys c.tail, a ∈ keys g
  | [], _, _, a, h => by cases h
  | [_], _, _, a, h => by cases h
  | (_, d) :: (b, e) :: r, g, ho, a, h => by
    rcases List.mem_cons.mp h with z | z
    · rw [z]; exact mem_keys (t := (b, d)) (ho (b, d) (List.mem_cons_self ..))
    · exact tail_keys (c := (b, e) :: r) (fun t m => ho t (List.mem_cons_of_mem _ m)) a z

theorem count_old {g : G} {q : Nat × Nat → Bool} (nd : (keys g).Nodup) : ∀ (r : G) (a d e : Nat), (a, e) ∈ g → (keys ((a, d) :: r)).Nodup → (∀ t ∈ outs ((a, d) :: r), t ∈ g) →
    (moved g ((a, d) :: r)).countP q + ((a, e) :: outs ((a, d) :: r)).countP q = g.countP q + ((a, d) :: r).countP q
  | [], a, d, e, h, _, _ => by
    have := count_put_old (d := d) (q := q) nd h
    simpa [moved, outs] using this
  | (b, f) :: r, a, d, e, h, ndc, ho => by
    have ndc' := List.nodup_cons.mp ndc
    have hb : (b, d) ∈ g := ho (b, d) (List.mem_cons_self ..)
    have ho' : ∀ t ∈ outs ((b, f) :: r), t ∈ g := fun t m => ho t (List.mem_cons_of_mem _ m)
    have ih := count_old (q := q) nd r b f d hb ndc'.2 ho'
    have hk : keys (moved g ((b, f) :: r)) = keys g := keys_moved fun x m => by
      rcases List.mem_cons.mp m with z | z
      · rw [z]; exact mem_keys (t := (b, d)) hb
      · exact tail_keys ho' x z
    have hm : (a, e) ∈ moved g ((b, f) :: r) := mem_moved h ndc'.1
    have hp := count_put_old (d := d) (q := q) (hk ▸ nd) hm
    rw [moved, outs]
    simp only [List.countP_cons, List.countP_nil] at ih hp ⊢
    omega

theorem count_new {g : G} {q : Nat × Nat → Bool} (nd : (keys g).Nodup) {x d : Nat} {r : G} (hx : x ∉ keys g) (ndc : (keys ((x, d) :: r)).Nodup) (ho : ∀ t ∈ outs ((x, d) :: r), t ∈ g) :
    (moved g ((x, d) :: r)).countP q + (outs ((x, d) :: r)).countP q = g.countP q + ((x, d) :: r).countP q := by
  cases r with
  | nil =>
    have := count_put_new (d := d) (q := q) hx
    simpa [moved, outs] using this
  | cons t r =>
    obtain ⟨b, f⟩ := t
    have ndc' := List.nodup_cons.mp ndc
    have hb : (b, d) ∈ g := ho (b, d) (List.mem_cons_self ..)
    have ho' : ∀ t ∈ outs ((b, f) :: r), t ∈ g := fun t m => ho t (List.mem_cons_of_mem _ m)
    have ih := count_old (q := q) nd r b f d hb ndc'.2 ho'
    have hk : keys (moved g ((b, f) :: r)) = keys g := keys_moved fun x m => by
      rcases List.mem_cons.mp m with z | z
      · rw [z]; exact mem_keys (t := (b, d)) hb
      · exact tail_keys ho' x z
    have hp := count_put_new (d := d) (q := q) (hk ▸ hx)
    rw [moved, outs]
    simp only [List.countP_cons, List.countP_nil] at ih hp ⊢
    omega

theorem keys_new {g : G} {x d : Nat} {r : G} (hx : x ∉ keys g) (ho : ∀ t ∈ outs ((x, d) :: r), t ∈ g) : keys (moved g ((x, d) :: r)) = keys g ++ [x] := by
  have hk : keys (moved g r) = keys g := keys_moved (tail_keys (c := (x, d) :: r) ho)
  rw [moved, put_new (hk ▸ hx)]
  show List.map _ (_ ++ _) = _
  rw [List.map_append]
  show keys (moved g r) ++ _ = _
  rw [hk]; rfl

/-! ## What a giving is -/

/-- People by their numbers. -/
def onDay (g : G) (d : Nat) : Nat := g.countP fun t => t.2 == d
def ofKind (P : Nat → Person) (g : G) (d k : Nat) : Nat := g.countP fun t => t.2 == d && (P t.1).kind == k

structure Valid (ds : List Day) (P : Nat → Person) (g : G) : Prop where
  nd : (keys g).Nodup
  come : ∀ t ∈ g, t.2 ∈ (P t.1).days
  places : ∀ d y, ds[d]? = some y → onDay g d ≤ y.places
  kinds : ∀ d y, ds[d]? = some y → ∀ k, ofKind P g d k ≤ y.kinds.getD k 0

/-- What a chain is, from the one who is new on: day and kind differ from mover to mover; who has the kind's last place asks one alike; the last mover finds room. -/
structure Chain (ds : List Day) (P : Nat → Person) (g : G) (c : G) : Prop where
  nd : (keys c).Nodup
  outs : ∀ t ∈ outs c, t ∈ g
  come : ∀ t ∈ c, t.2 ∈ (P t.1).days
  apart : (c.map fun t => (t.2, (P t.1).kind)).Nodup
  alike : ∀ t ∈ c, (∃ y, ds[t.2]? = some y ∧ ofKind P g t.2 (P t.1).kind < y.kinds.getD (P t.1).kind 0) ∨ ∃ b, (b, t.2) ∈ Vb.outs c ∧ (P b).kind = (P t.1).kind
  room : ∀ t, c.getLast? = some t → ∃ y, ds[t.2]? = some y ∧ onDay g t.2 < y.places

theorem count_days : ∀ (c : G) (t : Nat × Nat) (d : Nat), c.getLast? = some t → (c.countP fun t => t.2 == d) = ((outs c).countP fun t => t.2 == d) + if t.2 = d then 1 else 0
  | [], t, d, h => by cases h
  | [s], t, d, h => by
    cases h
    by_cases e : s.2 = d <;> simp [outs, e]
  | (a, e) :: (b, f) :: r, t, d, h => by
    have ih := count_days ((b, f) :: r) t d (by rw [List.getLast?_cons_cons] at h; exact h)
    rw [outs, List.countP_cons, ih, List.countP_cons]
    show _ + _ + (if (e == d) = true then 1 else 0) = _ + (if (e == d) = true then 1 else 0) + _
    omega

theorem count_le_one {α β : Type} [DecidableEq β] (f : α → β) (b : β) : ∀ (c : List α), (c.map f).Nodup → (c.countP fun t => decide (f t = b)) ≤ 1
  | [], _ => by simp
  | t :: c, h => by
    have h' := List.nodup_cons.mp h
    rw [List.countP_cons]
    by_cases e : f t = b
    · have : (c.countP fun t => decide (f t = b)) = 0 := by
        rw [List.countP_eq_zero]
        intro s hs z
        have z' : f s = b := of_decide_eq_true z
        exact h'.1 (by rw [e, ← z']; exact List.mem_map_of_mem hs)
      rw [this, if_pos (by simpa using e)]; omega
    · have := count_le_one f b c h'.2
      rw [if_neg (by simpa using e)]; omega

theorem valid_moved {ds : List Day} {P : Nat → Person} {g : G} {x d : Nat} {r : G} (v : Valid ds P g) (hx : x ∉ keys g) (c : Chain ds P g ((x, d) :: r)) :
    Valid ds P (moved g ((x, d) :: r)) ∧ keys (moved g ((x, d) :: r)) = keys g ++ [x] := by
  have hk := keys_new (d := d) hx c.outs
  refine ⟨⟨?_, ?_, ?_, ?_⟩, hk⟩
  · rw [hk, List.nodup_append]
    exact ⟨v.nd, by simp, fun a ha b hb => by
      rcases List.mem_cons.mp hb with z | z
      · subst z; intro e; subst e; exact hx ha
      · cases z⟩
  · intro t ht
    rcases of_mem_moved ht with z | z
    · exact v.come t z
    · exact c.come t z
  · intro e y hy
    have hc := count_new (q := fun t => t.2 == e) v.nd hx c.nd c.outs
    obtain ⟨t, ht⟩ : ∃ t, ((x, d) :: r).getLast? = some t := ⟨_, List.getLast?_eq_some_getLast (by simp)⟩
    have hd := count_days _ t e ht
    have hv := v.places e y hy
    obtain ⟨y', hy', hr⟩ := c.room t ht
    show List.countP _ _ ≤ _
    unfold onDay at hv hr
    by_cases z : t.2 = e
    · subst z
      rw [hy] at hy'; cases hy'
      rw [if_pos rfl] at hd
      omega
    · rw [if_neg z] at hd
      omega
  · intro e y hy k
    have hc := count_new (q := fun t => t.2 == e && (P t.1).kind == k) v.nd hx c.nd c.outs
    have hv := v.kinds e y hy k
    have h1 := count_le_one (fun t : Nat × Nat => (t.2, (P t.1).kind)) (e, k) _ c.apart
    have e1 : (((x, d) :: r).countP fun t => decide ((t.2, (P t.1).kind) = (e, k))) = (((x, d) :: r).countP fun t => t.2 == e && (P t.1).kind == k) := by
      congr 1; funext t
      rw [Bool.eq_iff_iff]; simp
    rw [e1] at h1
    show List.countP _ _ ≤ _
    unfold ofKind at hv
    by_cases z : (((x, d) :: r).countP fun t => t.2 == e && (P t.1).kind == k) = 0
    · omega
    · obtain ⟨t, ht, hq⟩ := List.countP_pos_iff.mp (Nat.pos_of_ne_zero z)
      have hq' : t.2 = e ∧ (P t.1).kind = k := by simpa using hq
      rcases c.alike t ht with ⟨y', hy', hl⟩ | ⟨b, hb, hkb⟩
      · rw [hq'.1] at hy'; rw [hy] at hy'; cases hy'
        rw [hq'.1, hq'.2] at hl
        unfold ofKind at hl
        omega
      · have : 0 < (outs ((x, d) :: r)).countP fun t => t.2 == e && (P t.1).kind == k :=
          List.countP_pos_iff.mpr ⟨_, hb, by rw [← hq'.1, ← hq'.2, ← hkb]; simp⟩
        omega
end Vb
/-! The search for one who can move: what holds while it goes on, the chain that it finds, the crowd that it shows where it finds none. -/
namespace Vb
open Vbkoaf (Person Day)

/-- who comes on a day, in the giving's order; those of one kind -/
def onL (g : G) (d : Nat) : List Nat := keys (g.filter fun t => t.2 == d)
def alikeL (P : Nat → Person) (g : G) (k d : Nat) : List Nat := (onL g d).filter fun o => (P o).kind == k

theorem onL_length {g : G} {d : Nat} : (onL g d).length = onDay g d := by
  rw [onL, keys, List.length_map, onDay, List.countP_eq_length_filter]
theorem alikeL_length {P : Nat → Person} {g : G} {d k : Nat} : (alikeL P g k d).length = ofKind P g d k := by
  rw [alikeL, onL, keys, List.filter_map, List.length_map, ofKind, List.filter_filter, List.countP_eq_length_filter]
  congr 2; funext t
  exact Bool.and_comm ..
theorem mem_onL {g : G} {d o : Nat} : o ∈ onL g d ↔ (o, d) ∈ g := by
  simp [onL, keys]
theorem mem_alikeL {P : Nat → Person} {g : G} {k d o : Nat} : o ∈ alikeL P g k d ↔ (o, d) ∈ g ∧ (P o).kind = k := by
  simp [alikeL, mem_onL]

def quotaOf (ds : List Day) (d k : Nat) : Nat := match ds[d]? with
  | none => 0
  | some y => y.kinds.getD k 0
def placesOf (ds : List Day) (d : Nat) : Nat := match ds[d]? with
  | none => 0
  | some y => y.places
theorem quotaOf_some {ds : List Day} {d k : Nat} {y : Day} (h : ds[d]? = some y) : quotaOf ds d k = y.kinds.getD k 0 := by rw [quotaOf, h]
theorem placesOf_some {ds : List Day} {d : Nat} {y : Day} (h : ds[d]? = some y) : placesOf ds d = y.places := by rw [placesOf, h]

def kindRoom (ds : List Day) (P : Nat → Person) (g : G) (k d : Nat) : Prop := ofKind P g d k < quotaOf ds d k
def hasRoom (ds : List Day) (P : Nat → Person) (g : G) (k d : Nat) : Prop := kindRoom ds P g k d ∧ onDay g d < placesOf ds d
instance {ds : List Day} {P : Nat → Person} {g : G} {k d : Nat} : Decidable (kindRoom ds P g k d) := inferInstanceAs (Decidable (_ < _))
instance {ds : List Day} {P : Nat → Person} {g : G} {k d : Nat} : Decidable (hasRoom ds P g k d) := inferInstanceAs (Decidable (_ ∧ _))
/-- who is in the way of one of a kind on a day -/
def way (ds : List Day) (P : Nat → Person) (g : G) (k d : Nat) : List Nat := if kindRoom ds P g k d then onL g d else alikeL P g k d

theorem mem_way {ds : List Day} {P : Nat → Person} {g : G} {k d o : Nat} (h : o ∈ way ds P g k d) : (o, d) ∈ g := by
  rw [way] at h
  split at h
  · exact mem_onL.mp h
  · exact (mem_alikeL.mp h).1

abbrev Q := List (Nat × Option Nat)

/-- the one at place p asked for the day d: no room there, and all that are in the way stand in the list, asked by one at p or ahead of it -/
structure Seen (ds : List Day) (P : Nat → Person) (g : G) (L : Q) (p m d : Nat) : Prop where
  no : ¬ hasRoom ds P g (P m).kind d
  all : ∀ o ∈ way ds P g (P m).kind d, ∃ (po w pw : Nat) (u : Option Nat), L[po]? = some (o, some w) ∧ pw ≤ p ∧ L[pw]? = some (w, u)

structure Bfs (ds : List Day) (P : Nat → Person) (g : G) (x : Nat) (L : Q) (at' : Nat) (dn : List Nat) : Prop where
  nd : (keys L).Nodup
  new : x ∉ keys g
  hd : L[0]? = some (x, none)
  root : ∀ (p o : Nat), L[p]? = some (o, none) → p = 0
  par : ∀ (p o m : Nat), L[p]? = some (o, some m) → ∃ (pm : Nat) (u : Option Nat) (d : Nat), pm < p ∧ pm ≤ at' ∧ L[pm]? = some (m, u) ∧ d ∈ (P m).days ∧ o ∈ way ds P g (P m).kind d
  seen : ∀ (p m : Nat) (u : Option Nat), p < at' → L[p]? = some (m, u) → ∀ d ∈ (P m).days, Seen ds P g L p m d
  now : ∀ (m : Nat) (u : Option Nat), L[at']? = some (m, u) → ∀ d ∈ dn, Seen ds P g L at' m d

theorem keys_getElem? {L : Q} {p : Nat} {a : Nat} {u : Option Nat} (h : L[p]? = some (a, u)) : (keys L)[p]? = some a := by
  rw [keys, List.getElem?_map, h]; rfl

theorem nodup_at {L : Q} (nd : (keys L).Nodup) {p q a : Nat} {u v : Option Nat} (h : L[p]? = some (a, u)) (k : L[q]? = some (a, v)) : p = q := by
  have h1 := keys_getElem? h
  have h2 := keys_getElem? k
  have hp : p < (keys L).length := (List.getElem?_eq_some_iff.mp h1).1
  exact (List.getElem?_inj hp nd).mp (h1.trans h2.symm)

theorem bfs_init {ds : List Day} {P : Nat → Person} {g : G} {x : Nat} (new : x ∉ keys g) : Bfs ds P g x [(x, none)] 0 [] where
  nd := by simp [keys]
  new := new
  hd := rfl
  root := fun p o h => by
    have := (List.getElem?_eq_some_iff.mp h).1
    simp at this; omega
  par := fun p o m h => by
    cases p with
    | zero => cases h
    | succ p => cases h
  seen := fun p m u h => by omega
  now := fun m u h d hd => by cases hd

/-- one more is asked, if they aren't yet -/
def ask (m : Nat) (L : Q) (o : Nat) : Q := if o ∈ keys L then L else L ++ [(o, some m)]
def askAll (m : Nat) (L : Q) (os : List Nat) : Q := os.foldl (ask m) L

structure Asked (m : Nat) (os : List Nat) (L L' : Q) : Prop where
  nd : (keys L').Nodup
  more : ∃ N : Q, L' = L ++ N ∧ ∀ t ∈ N, t.1 ∈ os ∧ t.2 = some m
  all : ∀ o ∈ os, o ∈ keys L'

theorem keys_append {β : Type} {L N : List (Nat × β)} : keys (L ++ N) = keys L ++ keys N := List.map_append

theorem ask_nd {m o : Nat} {L : Q} (nd : (keys L).Nodup) : (keys (ask m L o)).Nodup := by
  rw [ask]
  split
  · exact nd
  · rename_i h
    rw [keys_append, List.nodup_append]
    exact ⟨nd, by simp [keys], fun a ha b hb => by
      have : b = o := by simpa [keys] using hb
      subst this
      intro e; subst e; exact h ha⟩

theorem asked_all {m : Nat} : ∀ (os : List Nat) (L : Q), (keys L).Nodup → Asked m os L (askAll m L os)
  | [], L, nd => ⟨nd, ⟨[], by simp [askAll], fun t h => by cases h⟩, fun o h => by cases h⟩
  | o :: os, L, nd => by
    have ih := asked_all (m := m) os (ask m L o) (ask_nd nd)
    have sub : ∀ a ∈ keys (ask m L o), a ∈ keys (askAll m (ask m L o) os) := by
      obtain ⟨N, e, _⟩ := ih.more
      intro a ha
      rw [e, keys_append]; exact List.mem_append_left _ ha
    refine ⟨ih.nd, ?_, ?_⟩
    · obtain ⟨N, e, hN⟩ := ih.more
      show ∃ N, askAll m (ask m L o) os = L ++ N ∧ _
      rw [e]
      by_cases h : o ∈ keys L
      · rw [ask, if_pos h]
        exact ⟨N, rfl, fun t ht => ⟨List.mem_cons_of_mem _ (hN t ht).1, (hN t ht).2⟩⟩
      · rw [ask, if_neg h]
        refine ⟨(o, some m) :: N, by simp, fun t ht => ?_⟩
        rcases List.mem_cons.mp ht with z | z
        · subst z; exact ⟨List.mem_cons_self .., rfl⟩
        · exact ⟨List.mem_cons_of_mem _ (hN t z).1, (hN t z).2⟩
    · intro a ha
      rcases List.mem_cons.mp ha with z | z
      · subst z
        refine sub a ?_
        rw [ask]
        split
        · assumption
        · rw [keys_append]; exact List.mem_append_right _ (List.mem_cons_self ..)
      · exact ih.all a z

theorem get_old {L N : Q} {p : Nat} {t : Nat × Option Nat} (h : L[p]? = some t) : (L ++ N)[p]? = some t := by
  rw [List.getElem?_append_left (List.getElem?_eq_some_iff.mp h).1]; exact h

theorem seen_more {ds : List Day} {P : Nat → Person} {g : G} {L N : Q} {p m d : Nat} (h : Seen ds P g L p m d) : Seen ds P g (L ++ N) p m d :=
  ⟨h.no, fun o ho => by
    obtain ⟨po, w, pw, u, h1, h2, h3⟩ := h.all o ho
    exact ⟨po, w, pw, u, get_old h1, h2, get_old h3⟩⟩

theorem bfs_day {ds : List Day} {P : Nat → Person} {g : G} {x : Nat} {L L' : Q} {at' : Nat} {dn : List Nat} {m d : Nat} {u : Option Nat} (B : Bfs ds P g x L at' dn) (hm : L[at']? = some (m, u)) (hd : d ∈ (P m).days)
    (no : ¬ hasRoom ds P g (P m).kind d) (A : Asked m (way ds P g (P m).kind d) L L') : Bfs ds P g x L' at' (dn ++ [d]) := by
  obtain ⟨N, e, hN⟩ := A.more
  have hlen : at' < L.length := (List.getElem?_eq_some_iff.mp hm).1
  have hnd := A.nd
  have hall := A.all
  subst e
  have old : ∀ (p : Nat) t, (L ++ N)[p]? = some t → L[p]? = some t ∨ (L.length ≤ p ∧ t.1 ∈ way ds P g (P m).kind d ∧ t.2 = some m) := fun p t h => by
    by_cases c : p < L.length
    · rw [List.getElem?_append_left c] at h; exact .inl h
    · rw [List.getElem?_append_right (by omega)] at h
      exact .inr ⟨by omega, hN t (List.mem_of_getElem? h)⟩
  have par : ∀ (p o w : Nat), (L ++ N)[p]? = some (o, some w) → ∃ (pm : Nat) (u : Option Nat) (d : Nat), pm < p ∧ pm ≤ at' ∧ (L ++ N)[pm]? = some (w, u) ∧ d ∈ (P w).days ∧ o ∈ way ds P g (P w).kind d := fun p o w h => by
    rcases old p _ h with z | ⟨z1, z2, z3⟩
    · obtain ⟨pm, u', d', h0, h1, h2, h3, h4⟩ := B.par p o w z
      exact ⟨pm, u', d', h0, h1, get_old h2, h3, h4⟩
    · have e : w = m := by simpa using z3
      subst e
      exact ⟨at', u, d, by omega, Nat.le_refl _, get_old hm, hd, z2⟩
  refine ⟨hnd, B.new, get_old B.hd, ?_, par, ?_, ?_⟩
  · intro p o h
    rcases old p _ h with z | ⟨_, _, z⟩
    · exact B.root p o z
    · cases z
  · intro p w v hp hw e he
    have hw' : L[p]? = some (w, v) := by
      rcases old p _ hw with z | ⟨z, _⟩
      · exact z
      · omega
    exact seen_more (B.seen p w v hp hw' e he)
  · intro w v hw e he
    have hw' : L[at']? = some (w, v) := by
      rcases old at' _ hw with z | ⟨z, _⟩
      · exact z
      · omega
    rcases List.mem_append.mp he with z | z
    · exact seen_more (B.now w v hw' e z)
    · have e1 : e = d := by simpa using z
      have e2 : w = m := by rw [hm] at hw'; cases hw'; rfl
      subst e1 e2
      refine ⟨no, fun o ho => ?_⟩
      have hk := hall o ho
      obtain ⟨⟨o', t⟩, ht, rfl⟩ : ∃ t, t ∈ L ++ N ∧ t.1 = o := by simpa [keys] using List.mem_map.mp hk
      obtain ⟨po, hpo⟩ := List.mem_iff_getElem?.mp ht
      cases t with
      | none =>
        exfalso
        rcases old po _ hpo with z | ⟨_, _, z⟩
        · have := B.root po o' z
          subst this
          have : x = o' := by have := B.hd.symm.trans z; cases this; rfl
          subst this
          exact B.new (mem_keys (mem_way ho))
        · cases z
      | some q =>
        rcases old po _ hpo with z | ⟨_, _, z⟩
        · obtain ⟨pm, u', d', h1, h2, h3, h4, h5⟩ := par po o' q hpo
          exact ⟨po, q, pm, u', hpo, h2, h3⟩
        · have e : q = w := by simpa using z
          subst e
          exact ⟨po, q, at', v, hpo, Nat.le_refl _, hw⟩
end Vb
namespace Vb
open Vbkoaf (Person Day)

theorem bfs_next {ds : List Day} {P : Nat → Person} {g : G} {x : Nat} {L : Q} {at' : Nat} {m : Nat} {u : Option Nat} (hm : L[at']? = some (m, u)) (B : Bfs ds P g x L at' (P m).days) : Bfs ds P g x L (at' + 1) [] where
  nd := B.nd
  new := B.new
  hd := B.hd
  root := B.root
  par := fun p o w h => by
    obtain ⟨pm, u', d', h0, h1, h2, h3, h4⟩ := B.par p o w h
    exact ⟨pm, u', d', h0, by omega, h2, h3, h4⟩
  seen := fun p w v hp hw d hd => by
    by_cases c : p < at'
    · exact B.seen p w v c hw d hd
    · have e : p = at' := by omega
      subst e
      have e2 : w = m := by rw [hm] at hw; cases hw; rfl
      subst e2
      exact B.now w v hw d hd
  now := fun _ _ _ d hd => by cases hd

/-- The chain from its end on, the place of its first in the list told. -/
inductive Suf (ds : List Day) (P : Nat → Person) (g : G) (L : Q) (at' : Nat) : Nat → G → Prop
  | last {m d : Nat} {u : Option Nat} : L[at']? = some (m, u) → d ∈ (P m).days → hasRoom ds P g (P m).kind d → Suf ds P g L at' at' [(m, d)]
  | step {p q a b d e : Nat} {u : Option Nat} {r : G} : Suf ds P g L at' p ((b, e) :: r) → L[p]? = some (b, some a) → L[q]? = some (a, u) → q < p → d ∈ (P a).days → b ∈ way ds P g (P a).kind d → Suf ds P g L at' q ((a, d) :: (b, e) :: r)

section
variable {ds : List Day} {P : Nat → Person} {g : G} {x : Nat} {L : Q} {at' : Nat} {dn : List Nat}

theorem suf_le {p : Nat} {c : G} (S : Suf ds P g L at' p c) : p ≤ at' := by
  induction S with
  | last => exact Nat.le_refl _
  | step _ _ _ h _ _ ih => omega

theorem suf_head {p a d : Nat} {r : G} (S : Suf ds P g L at' p ((a, d) :: r)) : ∃ u, L[p]? = some (a, u) := by
  cases S with
  | last h => exact ⟨_, h⟩
  | step _ _ h => exact ⟨_, h⟩

theorem suf_pos {p : Nat} {c : G} (S : Suf ds P g L at' p c) : ∀ t ∈ c, ∃ (q : Nat) (u : Option Nat), p ≤ q ∧ L[q]? = some (t.1, u) := by
  induction S with
  | last h => intro t ht; rcases List.mem_cons.mp ht with e | e
              · subst e; exact ⟨_, _, Nat.le_refl _, h⟩
              · cases e
  | step _ _ h1 h2 _ _ ih =>
    intro t ht
    rcases List.mem_cons.mp ht with z | z
    · subst z; exact ⟨_, _, Nat.le_refl _, h1⟩
    · obtain ⟨q, u, hq, hu⟩ := ih t z
      exact ⟨q, u, by omega, hu⟩

theorem suf_fresh (nd : (keys L).Nodup) {p q a : Nat} {u : Option Nat} {c : G} (S : Suf ds P g L at' p c) (h : L[q]? = some (a, u)) (hq : q < p) : a ∉ keys c := by
  intro z
  obtain ⟨t, ht, e⟩ := List.mem_map.mp z
  obtain ⟨q', u', h1, h2⟩ := suf_pos S t ht
  rw [e] at h2
  have := nodup_at nd h h2
  omega

theorem suf_nd (nd : (keys L).Nodup) {p : Nat} {c : G} (S : Suf ds P g L at' p c) : (keys c).Nodup := by
  induction S with
  | last => simp [keys]
  | step S _ h1 h2 _ _ ih => exact List.nodup_cons.mpr ⟨suf_fresh nd S h1 h2, ih⟩

theorem suf_come {p : Nat} {c : G} (S : Suf ds P g L at' p c) : ∀ t ∈ c, t.2 ∈ (P t.1).days := by
  induction S with
  | last _ h => intro t ht; rcases List.mem_cons.mp ht with e | e
                · subst e; exact h
                · cases e
  | step _ _ _ _ h _ ih =>
    intro t ht
    rcases List.mem_cons.mp ht with z | z
    · subst z; exact h
    · exact ih t z

theorem suf_outs {p : Nat} {c : G} (S : Suf ds P g L at' p c) : ∀ t ∈ outs c, t ∈ g := by
  induction S with
  | last => intro t ht; cases ht
  | step _ _ _ _ _ h ih =>
    intro t ht
    rcases List.mem_cons.mp ht with z | z
    · subst z; exact mem_way h
    · exact ih t z

theorem suf_apart (nd : (keys L).Nodup) {q a d : Nat} (s : Seen ds P g L q a d) {p : Nat} {c : G} (S : Suf ds P g L at' p c) : q < p → ∀ t ∈ c, (t.2, (P t.1).kind) ≠ (d, (P a).kind) := by
  induction S with
  | last h1 h2 h3 =>
    intro hq t ht e
    rcases List.mem_cons.mp ht with e' | e'
    · subst e'
      have e1 := congrArg Prod.fst e
      have e2 := congrArg Prod.snd e
      simp only at e1 e2
      rw [e1, e2] at h3
      exact s.no h3
    · cases e'
  | step S h1 h2 h3 h4 h5 ih =>
    intro hq t ht e
    rcases List.mem_cons.mp ht with z | z
    · subst z
      have e1 := congrArg Prod.fst e
      have e2 := congrArg Prod.snd e
      simp only at e1 e2
      rw [e1, e2] at h5
      obtain ⟨po, w, pw, v, g1, g2, g3⟩ := s.all _ h5
      have e3 := nodup_at nd h1 g1
      subst e3
      rw [h1] at g1
      cases g1
      have e4 := nodup_at nd h2 g3
      omega
    · exact ih (by omega) t z e

theorem suf_apart' (B : Bfs ds P g x L at' dn) {p : Nat} {c : G} (S : Suf ds P g L at' p c) : (c.map fun t => (t.2, (P t.1).kind)).Nodup := by
  induction S with
  | last => simp
  | step S h1 h2 h3 h4 h5 ih =>
    refine List.nodup_cons.mpr ⟨fun z => ?_, ih⟩
    obtain ⟨t, ht, e⟩ := List.mem_map.mp z
    have hle := suf_le S
    exact suf_apart B.nd (B.seen _ _ _ (by omega) h2 _ h4) S h3 t ht e

theorem room_some {k d : Nat} (h : hasRoom ds P g k d) : ∃ y, ds[d]? = some y ∧ ofKind P g d k < y.kinds.getD k 0 ∧ onDay g d < y.places := by
  cases e : ds[d]? with
  | none => have := h.2; rw [placesOf, e] at this; exact absurd this (Nat.not_lt_zero _)
  | some y => exact ⟨y, rfl, by have := h.1; rwa [kindRoom, quotaOf_some e] at this, by have := h.2; rwa [placesOf_some e] at this⟩

theorem suf_alike {p : Nat} {c : G} (S : Suf ds P g L at' p c) : ∀ t ∈ c, (∃ y, ds[t.2]? = some y ∧ ofKind P g t.2 (P t.1).kind < y.kinds.getD (P t.1).kind 0) ∨ ∃ b, (b, t.2) ∈ outs c ∧ (P b).kind = (P t.1).kind := by
  induction S with
  | last _ _ h =>
    intro t ht
    rcases List.mem_cons.mp ht with e | e
    · subst e
      obtain ⟨y, h1, h2, _⟩ := room_some h
      exact .inl ⟨y, h1, h2⟩
    · cases e
  | step S h1 h2 h3 h4 h5 ih =>
    intro t ht
    rcases List.mem_cons.mp ht with z | z
    · subst z
      rw [way] at h5
      split at h5
      · rename_i k
        left
        rw [kindRoom, quotaOf] at k
        split at k
        · omega
        · rename_i y hy; exact ⟨y, hy, k⟩
      · right
        exact ⟨_, List.mem_cons_self .., (mem_alikeL.mp h5).2⟩
    · rcases ih t z with y | ⟨b, hb, hk⟩
      · exact .inl y
      · exact .inr ⟨b, List.mem_cons_of_mem _ hb, hk⟩

theorem suf_room {p : Nat} {c : G} (S : Suf ds P g L at' p c) : ∀ t, c.getLast? = some t → ∃ y, ds[t.2]? = some y ∧ onDay g t.2 < y.places := by
  induction S with
  | last _ _ h =>
    intro t ht
    cases ht
    obtain ⟨y, h1, _, h2⟩ := room_some h
    exact ⟨y, h1, h2⟩
  | step S h1 h2 h3 h4 h5 ih =>
    intro t ht
    rw [List.getLast?_cons_cons] at ht
    exact ih t ht

theorem suf_chain (B : Bfs ds P g x L at' dn) {p : Nat} {c : G} (S : Suf ds P g L at' p c) : Chain ds P g c :=
  ⟨suf_nd B.nd S, suf_outs S, suf_come S, suf_apart' B S, suf_alike S, suf_room S⟩

/-- the mover at the chain's head is the one who is new: the moves are made -/
theorem suf_end (B : Bfs ds P g x L at' dn) (v : Valid ds P g) {p a d : Nat} {r : G} (S : Suf ds P g L at' p ((a, d) :: r)) (h : L[p]? = some (a, none)) :
    a = x ∧ Valid ds P (moved g ((a, d) :: r)) ∧ keys (moved g ((a, d) :: r)) = keys g ++ [x] := by
  have e := B.root p a h
  subst e
  have e : a = x := by have := B.hd.symm.trans h; cases this; rfl
  subst e
  exact ⟨rfl, valid_moved v B.new (suf_chain B S)⟩

/-- the mover at the chain's head was asked by another: they come ahead of it, with the day that this one leaves -/
theorem suf_more (B : Bfs ds P g x L at' dn) {p a d w : Nat} {r : G} (S : Suf ds P g L at' p ((a, d) :: r)) (h : L[p]? = some (a, some w)) :
    ∃ q e, (a, e) ∈ g ∧ q < p ∧ Suf ds P g L at' q ((w, e) :: (a, d) :: r) := by
  obtain ⟨q, u, e, h0, h1, h2, h3, h4⟩ := B.par p a w h
  exact ⟨q, e, mem_way h4, h0, .step S h h2 h0 h3 h4⟩

theorem lookup_mem : ∀ {g : G} {a e : Nat}, (keys g).Nodup → (a, e) ∈ g → g.lookup a = some e
  | [], _, _, _, h => by cases h
  | (b, f) :: g, a, e, nd, h => by
    have nd' := List.nodup_cons.mp nd
    rcases List.mem_cons.mp h with z | z
    · cases z; simp [List.lookup]
    · have : a ≠ b := fun y => nd'.1 (by rw [← y]; exact mem_keys (t := (a, e)) z)
      have e' : (a == b) = false := by simpa using this
      rw [List.lookup, e']
      exact lookup_mem nd'.2 z
theorem lookup_none : ∀ {g : G} {a : Nat}, a ∉ keys g → g.lookup a = none
  | [], _, _ => rfl
  | (b, f) :: g, a, h => by
    have : a ≠ b := fun y => h (by subst y; exact List.mem_cons_self ..)
    have e' : (a == b) = false := by simpa using this
    rw [List.lookup, e']
    exact lookup_none fun z => h (List.mem_cons_of_mem _ z)

/-- what the mover at the head leaves, told by the giving as it stands by then -/
theorem suf_left_some (B : Bfs ds P g x L at' dn) (v : Valid ds P g) {p a d e : Nat} {r : G} (S : Suf ds P g L at' p ((a, d) :: r)) (h : (a, e) ∈ g) : (moved g r).lookup a = some e := by
  have nd := suf_nd B.nd S
  have ho := suf_outs S
  have hk : keys (moved g r) = keys g := keys_moved (tail_keys (c := (a, d) :: r) ho)
  exact lookup_mem (hk ▸ v.nd) (mem_moved h (List.nodup_cons.mp nd).1)
theorem suf_left_none (B : Bfs ds P g x L at' dn) {p d : Nat} {r : G} (S : Suf ds P g L at' p ((x, d) :: r)) : (moved g r).lookup x = none := by
  have ho := suf_outs S
  have hk : keys (moved g r) = keys g := keys_moved (tail_keys (c := (x, d) :: r) ho)
  exact lookup_none (hk ▸ B.new)
end
end Vb
/-! The room of a set: what is given lies within it; where the search finds nothing, those asked are a crowd. -/
namespace Vb
open Vbkoaf (Person Day)

def sumTo (f : Nat → Nat) : Nat → Nat
  | 0 => 0
  | n + 1 => sumTo f n + f n

theorem sumTo_le {f h : Nat → Nat} : ∀ {n : Nat}, (∀ i, i < n → f i ≤ h i) → sumTo f n ≤ sumTo h n
  | 0, _ => Nat.le_refl _
  | n + 1, k => by
    have := sumTo_le (n := n) fun i hi => k i (by omega)
    have := k n (by omega)
    rw [sumTo, sumTo]; omega

theorem sumTo_add {f h : Nat → Nat} : ∀ {n : Nat}, sumTo (fun i => f i + h i) n = sumTo f n + sumTo h n
  | 0 => rfl
  | n + 1 => by rw [sumTo, sumTo, sumTo, sumTo_add]; omega

theorem sumTo_zero : ∀ {n : Nat}, sumTo (fun _ => 0) n = 0
  | 0 => rfl
  | n + 1 => by rw [sumTo, sumTo_zero]

theorem sumTo_eq {f h : Nat → Nat} {n : Nat} (k : ∀ i, i < n → f i = h i) : sumTo f n = sumTo h n :=
  Nat.le_antisymm (sumTo_le fun i hi => Nat.le_of_eq (k i hi)) (sumTo_le fun i hi => Nat.le_of_eq (k i hi).symm)

theorem sumTo_one {j : Nat} : ∀ {n : Nat}, sumTo (fun i => if j = i then 1 else 0) n = if j < n then 1 else 0
  | 0 => rfl
  | n + 1 => by
    rw [sumTo, sumTo_one]
    split <;> split <;> split <;> omega

theorem sum_foldl : ∀ (l : List Nat) (a : Nat), l.foldl (fun a b => a + b) a = a + l.sum
  | [], a => by simp
  | x :: l, a => by rw [List.foldl_cons, sum_foldl l, List.sum_cons]; omega
theorem sum_is (l : List Nat) : Vbkoaf.sum l = l.sum := by rw [Vbkoaf.sum, sum_foldl]; omega

theorem sum_range {f : Nat → Nat} : ∀ {n : Nat}, ((List.range n).map f).sum = sumTo f n
  | 0 => rfl
  | n + 1 => by rw [List.range_succ, List.map_append, List.sum_append, sum_range, sumTo]; simp

/-- counted day by day -/
theorem sumTo_count {q : Nat × Nat → Bool} {n : Nat} : ∀ (g : G), (∀ t ∈ g, t.2 < n) → sumTo (fun d => g.countP fun t => t.2 == d && q t) n = g.countP q
  | [], _ => by simp [sumTo_zero]
  | t :: g, h => by
    have ih := sumTo_count (q := q) g fun s hs => h s (List.mem_cons_of_mem _ hs)
    rw [List.countP_cons, ← ih]
    have e : (fun d => (t :: g).countP fun t => t.2 == d && q t) = fun d => (g.countP fun t => t.2 == d && q t) + if t.2 = d then (if q t = true then 1 else 0) else 0 := by
      funext d
      rw [List.countP_cons]
      by_cases c : t.2 = d <;> simp [c]
    rw [e, sumTo_add]
    congr 1
    by_cases c : q t = true
    · simp only [c, if_true]
      rw [sumTo_one, if_pos (h t (List.mem_cons_self ..))]
    · simp only [c]
      have : (fun i => if t.2 = i then (if false = true then 1 else 0) else 0) = fun _ => 0 := by
        funext i; split <;> simp
      simp [sumTo_zero]

/-- counted kind by kind -/
theorem sumTo_kinds {P : Nat → Person} {q : Nat × Nat → Bool} {n : Nat} : ∀ (g : G), sumTo (fun k => g.countP fun t => q t && (P t.1).kind == k) n ≤ g.countP q
  | [] => by simp [sumTo_zero]
  | t :: g => by
    have ih := sumTo_kinds (P := P) (q := q) (n := n) g
    rw [List.countP_cons]
    have e : (fun k => (t :: g).countP fun t => q t && (P t.1).kind == k) = fun k => (g.countP fun t => q t && (P t.1).kind == k) + if (P t.1).kind = k then (if q t = true then 1 else 0) else 0 := by
      funext k
      rw [List.countP_cons]
      by_cases c : (P t.1).kind = k <;> simp [c]
    rw [e, sumTo_add]
    have : sumTo (fun i => if (P t.1).kind = i then (if q t = true then 1 else 0) else 0) n ≤ if q t = true then 1 else 0 := by
      by_cases c : q t = true
      · simp only [c, if_true]
        rw [sumTo_one]; split <;> omega
      · simp [c, sumTo_zero]
    omega
theorem sumTo_kinds_eq {P : Nat → Person} {q : Nat × Nat → Bool} {n : Nat} : ∀ (g : G), (∀ t ∈ g, (P t.1).kind < n) → sumTo (fun k => g.countP fun t => q t && (P t.1).kind == k) n = g.countP q
  | [], _ => by simp [sumTo_zero]
  | t :: g, h => by
    have ih := sumTo_kinds_eq (P := P) (q := q) (n := n) g fun s hs => h s (List.mem_cons_of_mem _ hs)
    rw [List.countP_cons]
    have e : (fun k => (t :: g).countP fun t => q t && (P t.1).kind == k) = fun k => (g.countP fun t => q t && (P t.1).kind == k) + if (P t.1).kind = k then (if q t = true then 1 else 0) else 0 := by
      funext k
      rw [List.countP_cons]
      by_cases c : (P t.1).kind = k <;> simp [c]
    rw [e, sumTo_add, ih]
    congr 1
    by_cases c : q t = true
    · simp only [c, if_true]
      rw [sumTo_one, if_pos (h t (List.mem_cons_self ..))]
    · simp [c, sumTo_zero]

def roomD (ds : List Day) (l : List Person) (d : Nat) : Nat := match ds[d]? with
  | none => 0
  | some y => Vbkoaf.roomAt l d y
theorem roomsOf_is (ds : List Day) (l : List Person) : Vbkoaf.roomsOf ds l = (List.range ds.length).map (roomD ds l) := by
  refine List.ext_getElem (by simp [Vbkoaf.roomsOf, Vbkoaf.numbered]) fun i h1 h2 => ?_
  have hi : i < ds.length := by simpa using h2
  simp [Vbkoaf.roomsOf, Vbkoaf.numbered, roomD, List.getElem?_eq_getElem hi]
theorem room_is (ds : List Day) (l : List Person) : Vbkoaf.room ds l = sumTo (roomD ds l) ds.length := by
  rw [Vbkoaf.room, sum_is, roomsOf_is, sum_range]

/-- the people of some numbers -/
def kindAny (P : Nat → Person) (A : List Nat) (d k : Nat) : Prop := ∃ a ∈ A, (P a).kind = k ∧ d ∈ (P a).days
theorem any_iff {P : Nat → Person} {A : List Nat} {d k : Nat} : ((A.map P).any fun x => x.kind == k && Vbkoaf.canCome d x) = true ↔ kindAny P A d k := by
  simp [Vbkoaf.canCome, kindAny]

theorem roomD_kinds {ds : List Day} {P : Nat → Person} {A : List Nat} {d : Nat} {f : Nat → Nat} {n : Nat} (h1 : ∀ k, k < 4 → kindAny P A d k → quotaOf ds d k ≤ f k) (h2 : sumTo f 4 ≤ n) : roomD ds (A.map P) d ≤ n := by
  rw [roomD]
  cases e : ds[d]? with
  | none => exact Nat.zero_le _
  | some y =>
    show min y.places _ ≤ n
    refine Nat.le_trans (Nat.min_le_right ..) (Nat.le_trans ?_ h2)
    rw [sum_is, sum_range]
    refine sumTo_le fun k hk => ?_
    split
    · rename_i z
      have := h1 k hk (any_iff.mp z)
      rwa [quotaOf_some e] at this
    · exact Nat.zero_le _
theorem roomD_places {ds : List Day} {l : List Person} {d n : Nat} (h : placesOf ds d ≤ n) : roomD ds l d ≤ n := by
  rw [roomD]
  cases e : ds[d]? with
  | none => exact Nat.zero_le _
  | some y =>
    rw [placesOf_some e] at h
    exact Nat.le_trans (Nat.min_le_left ..) h
theorem le_roomD {ds : List Day} {P : Nat → Person} {A : List Nat} {d n : Nat} (h0 : d < ds.length) (h1 : n ≤ placesOf ds d) (h2 : n ≤ sumTo (fun k => open Classical in if kindAny P A d k then quotaOf ds d k else 0) 4) : n ≤ roomD ds (A.map P) d := by
  have e : ds[d]? = some ds[d] := List.getElem?_eq_getElem h0
  rw [roomD, e]
  show n ≤ min ds[d].places _
  rw [placesOf_some e] at h1
  refine Nat.le_min.mpr ⟨h1, ?_⟩
  rw [sum_is, sum_range]
  refine Nat.le_trans h2 (Nat.le_of_eq (sumTo_eq fun k _ => ?_))
  by_cases c : kindAny P A d k
  · rw [if_pos c, if_pos (any_iff.mpr c), quotaOf_some e]
  · rw [if_neg c, if_neg fun z => c (any_iff.mp z)]

theorem nodup_length : ∀ {l m : List Nat}, l.Nodup → (∀ a ∈ l, a ∈ m) → l.length ≤ m.length
  | [], m, _, _ => Nat.zero_le _
  | a :: l, m, nd, h => by
    have nd' := List.nodup_cons.mp nd
    have ih := nodup_length (l := l) (m := m.erase a) nd'.2 fun b hb => (List.mem_erase_of_ne (fun (e : b = a) => nd'.1 (e ▸ hb))).mpr (h b (List.mem_cons_of_mem _ hb))
    have hm := h a (List.mem_cons_self ..)
    rw [List.length_erase_of_mem hm] at ih
    have : 0 < m.length := List.length_pos_of_mem hm
    rw [List.length_cons]; omega

/-- what is given to a part of the set -/
def part (A : List Nat) (g : G) : G := g.filter fun t => decide (t.1 ∈ A)
theorem part_count {A : List Nat} {g : G} {q : Nat × Nat → Bool} : (part A g).countP q ≤ g.countP q := List.Sublist.countP_le (List.filter_sublist)

theorem part_length {A : List Nat} {g : G} (ndA : A.Nodup) (sub : ∀ a ∈ A, a ∈ keys g) : A.length ≤ (part A g).length := by
  have : (keys (part A g)).length = (part A g).length := List.length_map ..
  rw [← this]
  refine nodup_length ndA fun a ha => ?_
  obtain ⟨t, ht, e⟩ := List.mem_map.mp (sub a ha)
  refine List.mem_map.mpr ⟨t, List.mem_filter.mpr ⟨ht, ?_⟩, e⟩
  show decide (t.1 ∈ A) = true
  rw [show t.1 = a from e]; exact decide_eq_true ha

/-- **No part of what has a giving is a crowd.** -/
theorem no_crowd {ds : List Day} {P : Nat → Person} {g : G} (v : Valid ds P g) (wf : ∀ t ∈ g, t.2 < ds.length ∧ (P t.1).kind < 4) {A : List Nat} (ndA : A.Nodup) (sub : ∀ a ∈ A, a ∈ keys g) : A.length ≤ Vbkoaf.room ds (A.map P) := by
  refine Nat.le_trans (part_length ndA sub) ?_
  have hp : ∀ t ∈ part A g, t ∈ g ∧ t.1 ∈ A := fun t ht => by
    have := List.mem_filter.mp ht
    exact ⟨this.1, of_decide_eq_true this.2⟩
  have h1 := sumTo_count (q := fun _ => true) (n := ds.length) (part A g) fun t ht => (wf t (hp t ht).1).1
  have h2 : (part A g).countP (fun _ => true) = (part A g).length := by rw [List.countP_eq_length_filter]; simp
  rw [room_is, ← h2, ← h1]
  refine sumTo_le fun d hd => ?_
  have e : ds[d]? = some ds[d] := List.getElem?_eq_getElem hd
  have ec : ((part A g).countP fun t => t.2 == d && true) = (part A g).countP fun t => t.2 == d := by
    congr 1; funext t; simp
  rw [ec]
  refine le_roomD hd ?_ ?_
  · rw [placesOf_some e]
    exact Nat.le_trans part_count (v.places d _ e)
  · rw [← sumTo_kinds_eq (P := P) (n := 4) (part A g) fun t ht => (wf t (hp t ht).1).2]
    refine sumTo_le fun k hk => ?_
    split
    · rw [quotaOf_some e]
      exact Nat.le_trans part_count (v.kinds d _ e k)
    · rename_i c
      refine Nat.le_of_eq (List.countP_eq_zero.mpr fun t ht z => c ?_)
      have z' : t.2 = d ∧ (P t.1).kind = k := by simpa using z
      exact ⟨t.1, (hp t ht).2, z'.2, z'.1 ▸ v.come t (hp t ht).1⟩

/-- **Where the search has gone through all, those asked are a crowd.** -/
theorem found_crowd {ds : List Day} {P : Nat → Person} {g : G} {x : Nat} {L : Q} {dn : List Nat} (v : Valid ds P g) (wf : ∀ t ∈ g, t.2 < ds.length) (B : Bfs ds P g x L L.length dn) :
    (keys L).Nodup ∧ x ∈ keys L ∧ (∀ a ∈ keys L, a = x ∨ a ∈ keys g) ∧ Vbkoaf.room ds ((keys L).map P) < (keys L).length := by
  have seen : ∀ m ∈ keys L, ∀ d ∈ (P m).days, ¬ hasRoom ds P g (P m).kind d ∧ ∀ o ∈ way ds P g (P m).kind d, o ∈ keys L := fun m hm d hd => by
    obtain ⟨⟨m', u⟩, ht, rfl⟩ := List.mem_map.mp hm
    obtain ⟨p, hp⟩ := List.mem_iff_getElem?.mp ht
    have s := B.seen p m' u (List.getElem?_eq_some_iff.mp hp).1 hp d hd
    refine ⟨s.no, fun o ho => ?_⟩
    obtain ⟨po, w, pw, u', h1, _⟩ := s.all o ho
    exact mem_keys (List.mem_of_getElem? h1)
  have hx : x ∈ keys L := mem_keys (List.mem_of_getElem? B.hd)
  have hsub : ∀ a ∈ keys L, a = x ∨ a ∈ keys g := fun a ha => by
    obtain ⟨⟨a', u⟩, ht, rfl⟩ := List.mem_map.mp ha
    obtain ⟨p, hp⟩ := List.mem_iff_getElem?.mp ht
    cases u with
    | none =>
      have := B.root p a' hp
      subst this
      have := B.hd.symm.trans hp
      cases this
      exact .inl rfl
    | some w =>
      obtain ⟨pm, u', d, _, _, _, _, h⟩ := B.par p a' w hp
      exact .inr (mem_keys (mem_way h))
  refine ⟨B.nd, hx, hsub, ?_⟩
  -- those of the giving that were asked: all but the new one
  have hlen : (part (keys L) g).length < (keys L).length := by
    have e : (keys (part (keys L) g)).length = (part (keys L) g).length := List.length_map ..
    have nd : (x :: keys (part (keys L) g)).Nodup := by
      refine List.nodup_cons.mpr ⟨fun z => B.new ?_, ?_⟩
      · obtain ⟨t, ht, e⟩ := List.mem_map.mp z
        rw [← e]; exact mem_keys (List.mem_filter.mp ht).1
      · exact List.Nodup.sublist (List.Sublist.map _ List.filter_sublist) v.nd
    have := nodup_length nd (m := keys L) fun a ha => by
      rcases List.mem_cons.mp ha with z | z
      · rw [z]; exact hx
      · obtain ⟨t, ht, e⟩ := List.mem_map.mp z
        rw [← e]; exact of_decide_eq_true (List.mem_filter.mp ht).2
    rw [List.length_cons, e] at this; omega
  refine Nat.lt_of_le_of_lt ?_ hlen
  have h1 := sumTo_count (q := fun _ => true) (n := ds.length) (part (keys L) g) fun t ht => wf t (List.mem_filter.mp ht).1
  have h2 : (part (keys L) g).countP (fun _ => true) = (part (keys L) g).length := by rw [List.countP_eq_length_filter]; simp
  rw [room_is, ← h2, ← h1]
  refine sumTo_le fun d hd => ?_
  have ec : ((part (keys L) g).countP fun t => t.2 == d && true) = (part (keys L) g).countP fun t => t.2 == d := by
    congr 1; funext t; simp
  rw [ec]
  by_cases c : ∃ a ∈ keys L, d ∈ (P a).days ∧ kindRoom ds P g (P a).kind d
  · -- the day is full, and all on it were asked
    obtain ⟨a, ha, hd', hk⟩ := c
    obtain ⟨no, all⟩ := seen a ha d hd'
    have full : placesOf ds d ≤ onDay g d := by
      rcases Nat.lt_or_ge (onDay g d) (placesOf ds d) with z | z
      · exact absurd ⟨hk, z⟩ no
      · exact z
    refine roomD_places (Nat.le_trans full ?_)
    rw [way, if_pos hk] at all
    rw [onDay, part, List.countP_filter]
    refine List.countP_mono_left fun t ht z => ?_
    have z' : t.2 = d := by simpa using z
    have : t.1 ∈ keys L := all t.1 (mem_onL.mpr (by rw [← z']; exact ht))
    simp [z', this]
  · refine roomD_kinds (f := fun k => (part (keys L) g).countP fun t => t.2 == d && (P t.1).kind == k) (fun k hk hka => ?_) (sumTo_kinds _)
    obtain ⟨a, ha, e, hd'⟩ := hka
    subst e
    have nk : ¬ kindRoom ds P g (P a).kind d := fun z => c ⟨a, ha, hd', z⟩
    obtain ⟨no, all⟩ := seen a ha d hd'
    rw [way, if_neg nk] at all
    refine Nat.le_trans (Nat.le_of_not_lt nk) ?_
    rw [ofKind, part, List.countP_filter]
    refine List.countP_mono_left fun t ht z => ?_
    have z' : t.2 = d ∧ (P t.1).kind = (P a).kind := by simpa using z
    have : t.1 ∈ keys L := all t.1 (mem_alikeL.mpr ⟨by rw [← z'.1]; exact ht, z'.2⟩)
    simp [z'.1, z'.2, this]
end Vb
/-! Who can be served: the specification's word, by numbers. -/
namespace Vb
open Vbkoaf (Person Day)

theorem mem_choose {α : Type} : ∀ {k : Nat} {m s : List α}, s ∈ Vbkoaf.choose k m ↔ s.Sublist m ∧ s.length = k
  | 0, m, s => by
    rw [Vbkoaf.choose]
    constructor
    · intro h
      have e : s = [] := by simpa using h
      subst e
      exact ⟨List.nil_sublist _, rfl⟩
    · rintro ⟨_, h⟩
      rw [List.length_eq_zero_iff] at h
      simp [h]
  | k + 1, [], s => by
    rw [Vbkoaf.choose]
    constructor
    · intro h; cases h
    · rintro ⟨h1, h2⟩
      rw [List.sublist_nil] at h1
      subst h1
      cases h2
  | k + 1, x :: m, s => by
    rw [Vbkoaf.choose, List.mem_append, List.mem_map]
    constructor
    · rintro (⟨t, ht, rfl⟩ | h)
      · have := mem_choose.mp ht
        exact ⟨this.1.cons_cons _, by rw [List.length_cons, this.2]⟩
      · have := mem_choose.mp h
        exact ⟨this.1.cons _, this.2⟩
    · rintro ⟨h1, h2⟩
      cases h1 with
      | cons _ h => exact .inr (mem_choose.mpr ⟨h, h2⟩)
      | cons_cons _ h => exact .inl ⟨_, mem_choose.mpr ⟨h, by simpa using h2⟩, rfl⟩

/-- numbers by order -/
def sorted (A : List Nat) : List Nat := (List.range 20).filter fun i => decide (i ∈ A)

theorem mem_sorted {A : List Nat} (lt : ∀ a ∈ A, a < 20) {a : Nat} : a ∈ sorted A ↔ a ∈ A := by
  simp only [sorted, List.mem_filter, List.mem_range, decide_eq_true_eq]
  exact ⟨fun h => h.2, fun h => ⟨lt a h, h⟩⟩
theorem sorted_nd {A : List Nat} : (sorted A).Nodup := List.Nodup.sublist List.filter_sublist List.nodup_range

structure Ids (P : Nat → Person) (A : List Nat) : Prop where
  nd : A.Nodup
  lt : ∀ a ∈ A, a < 20
  id : ∀ a ∈ A, (P a).id = a

theorem filter_one {P : Nat → Person} {i : Nat} : ∀ {A : List Nat}, A.Nodup → (∀ a ∈ A, (P a).id = a) → (A.map P).filter (fun x => x.id == i) = if i ∈ A then [P i] else []
  | [], _, _ => rfl
  | a :: A, nd, h => by
    have nd' := List.nodup_cons.mp nd
    have ih := filter_one (i := i) nd'.2 fun b hb => h b (List.mem_cons_of_mem _ hb)
    have ha := h a (List.mem_cons_self ..)
    rw [List.map_cons, List.filter_cons, ih]
    by_cases c : a = i
    · subst c
      simp [ha, nd'.1]
    · have c2 : ¬ i = a := fun z => c z.symm
      simp [ha, c, c2]

theorem byId_is {P : Nat → Person} {A : List Nat} (h : Ids P A) : Vbkoaf.byId (A.map P) = (sorted A).map P := by
  rw [Vbkoaf.byId, sorted]
  have : (fun i => (A.map P).filter fun x => x.id == i) = fun i => if i ∈ A then [P i] else [] := by
    funext i; exact filter_one h.nd h.id
  rw [this]
  induction List.range 20 with
  | nil => rfl
  | cons i r ih =>
    rw [List.flatMap_cons, ih, List.filter_cons]
    by_cases c : i ∈ A <;> simp [c]

theorem crowd_none {ds : List Day} {l : List Person} : Vbkoaf.crowd ds l = none ↔ ∀ s, s.Sublist (Vbkoaf.byId l) → s.length ≤ Vbkoaf.room ds s := by
  rw [Vbkoaf.crowd]
  simp only [List.findSome?_eq_none_iff, List.mem_range, List.find?_eq_none, Vbkoaf.isCrowd, decide_eq_true_eq]
  constructor
  · intro h s hs
    have := h s.length (Nat.lt_succ_of_le hs.length_le) s (mem_choose.mpr ⟨hs, rfl⟩)
    omega
  · intro h k hk s hs
    have := h s (mem_choose.mp hs).1
    omega

theorem room_same {ds : List Day} {P : Nat → Person} {A B : List Nat} (h : ∀ a, a ∈ A ↔ a ∈ B) : Vbkoaf.room ds (A.map P) = Vbkoaf.room ds (B.map P) := by
  rw [room_is, room_is]
  refine sumTo_eq fun d _ => ?_
  rw [roomD, roomD]
  cases ds[d]? with
  | none => rfl
  | some y =>
    have : ∀ k, ((A.map P).any fun x => x.kind == k && Vbkoaf.canCome d x) = ((B.map P).any fun x => x.kind == k && Vbkoaf.canCome d x) := fun k => by
      rw [Bool.eq_iff_iff, any_iff, any_iff, kindAny, kindAny]
      simp only [h]
    simp only [Vbkoaf.roomAt, this]

theorem length_same {A B : List Nat} (ha : A.Nodup) (hb : B.Nodup) (h : ∀ a, a ∈ A ↔ a ∈ B) : A.length = B.length :=
  Nat.le_antisymm (nodup_length ha fun a m => (h a).mp m) (nodup_length hb fun a m => (h a).mpr m)

/-- no part is a crowd -/
def Can (ds : List Day) (P : Nat → Person) (A : List Nat) : Prop := ∀ B : List Nat, B.Nodup → (∀ b ∈ B, b ∈ A) → B.length ≤ Vbkoaf.room ds (B.map P)

theorem crowd_none_iff {ds : List Day} {P : Nat → Person} {A : List Nat} (h : Ids P A) : Vbkoaf.crowd ds (A.map P) = none ↔ Can ds P A := by
  rw [crowd_none, byId_is h]
  constructor
  · intro k B nd sub
    have lt : ∀ b ∈ B, b < 20 := fun b hb => h.lt b (sub b hb)
    have hs : (sorted B).Sublist (sorted A) := by
      have e : sorted B = (sorted A).filter fun i => decide (i ∈ B) := by
        rw [sorted, sorted, List.filter_filter]
        refine List.filter_congr fun i _ => ?_
        by_cases c : i ∈ B
        · simp [c, sub i c]
        · simp [c]
      rw [e]; exact List.filter_sublist
    have := k _ (hs.map P)
    rw [List.length_map, length_same sorted_nd nd fun a => mem_sorted lt, room_same fun a => mem_sorted lt] at this
    exact this
  · intro k s hs
    obtain ⟨B, hB, rfl⟩ := List.sublist_map_iff.mp hs
    rw [List.length_map]
    exact k B (List.Nodup.sublist hB sorted_nd) fun b hb => (mem_sorted h.lt).mp (hB.subset hb)

theorem canServe_iff {ds : List Day} {P : Nat → Person} {A : List Nat} (h : Ids P A) : Vbkoaf.canServe ds (A.map P) = true ↔ Can ds P A := by
  rw [Vbkoaf.canServe, Option.isNone_iff_eq_none, crowd_none_iff h]

theorem can_of_valid {ds : List Day} {P : Nat → Person} {g : G} (v : Valid ds P g) (wf : ∀ t ∈ g, t.2 < ds.length ∧ (P t.1).kind < 4) {A : List Nat} (sub : ∀ a ∈ A, a ∈ keys g) : Can ds P A :=
  fun _ nd hb => no_crowd v wf nd fun b m => sub b (hb b m)

theorem can_not {ds : List Day} {P : Nat → Person} {g : G} {x : Nat} {L : Q} {dn : List Nat} (v : Valid ds P g) (wf : ∀ t ∈ g, t.2 < ds.length) (B : Bfs ds P g x L L.length dn) {A : List Nat} (hx : x ∈ A) (hg : ∀ a ∈ keys g, a ∈ A) : ¬ Can ds P A := by
  obtain ⟨nd, _, sub, lt⟩ := found_crowd v wf B
  intro c
  have := c (keys L) nd fun b hb => by
    rcases sub b hb with z | z
    · rw [z]; exact hx
    · exact hg b z
  omega

theorem can_mono {ds : List Day} {P : Nat → Person} {A B : List Nat} (h : ∀ a ∈ A, a ∈ B) (c : Can ds P B) : Can ds P A :=
  fun C nd sub => c C nd fun b hb => h b (sub b hb)

/-- the people looked at alone count -/
theorem can_congr {ds : List Day} {P R : Nat → Person} {A : List Nat} (h : ∀ a ∈ A, P a = R a) : Can ds P A → Can ds R A := fun c B nd sub => by
  have : B.map R = B.map P := List.map_congr_left fun b hb => (h b (sub b hb)).symm
  rw [this]; exact c B nd sub
end Vb
/-! A set no part of which is a crowd has a giving. -/
namespace Vb
open Vbkoaf (Person Day)
section
variable {ds : List Day} {P : Nat → Person} {g : G} {x : Nat}

theorem chain_moves (v : Valid ds P g) {L : Q} {n : Nat} {dn : List Nat} (B : Bfs ds P g x L n dn) : ∀ (p : Nat) (a d : Nat) (r : G), Suf ds P g L n p ((a, d) :: r) → ∃ g', Valid ds P g' ∧ keys g' = keys g ++ [x] := by
  intro p
  induction p using Nat.strongRecOn with
  | _ p ih =>
    intro a d r S
    obtain ⟨u, hu⟩ := suf_head S
    cases u with
    | none =>
      obtain ⟨_, h1, h2⟩ := suf_end B v S hu
      exact ⟨_, h1, h2⟩
    | some w =>
      obtain ⟨q, e, _, hq, S'⟩ := suf_more B S hu
      exact ih q hq w e _ S'

theorem days_through (v : Valid ds P g) {n m : Nat} {u : Option Nat} : ∀ (rest dn : List Nat) (L : Q), (∀ d ∈ rest, d ∈ (P m).days) → L[n]? = some (m, u) → Bfs ds P g x L n dn →
    (∃ g', Valid ds P g' ∧ keys g' = keys g ++ [x]) ∨ ∃ L', Bfs ds P g x L' n (dn ++ rest) ∧ L'[n]? = some (m, u)
  | [], dn, L, _, hm, B => .inr ⟨L, by rw [List.append_nil]; exact B, hm⟩
  | d :: rest, dn, L, hd, hm, B => by
    by_cases c : hasRoom ds P g (P m).kind d
    · exact .inl (chain_moves v B n m d [] (.last hm (hd d (List.mem_cons_self ..)) c))
    · have A := asked_all (m := m) (way ds P g (P m).kind d) L B.nd
      have B' := bfs_day B hm (hd d (List.mem_cons_self ..)) c A
      obtain ⟨N, e, _⟩ := A.more
      have hm' : (askAll m L (way ds P g (P m).kind d))[n]? = some (m, u) := by rw [e]; exact get_old hm
      have ih := days_through v rest (dn ++ [d]) _ (fun b hb => hd b (List.mem_cons_of_mem _ hb)) hm' B'
      rw [List.append_assoc] at ih
      exact ih

theorem bfs_keys {L : Q} {n : Nat} {dn : List Nat} (B : Bfs ds P g x L n dn) : L.length ≤ g.length + 1 := by
  have := nodup_length B.nd (m := x :: keys g) fun a ha => by
    obtain ⟨⟨a', u⟩, ht, rfl⟩ := List.mem_map.mp ha
    obtain ⟨p, hp⟩ := List.mem_iff_getElem?.mp ht
    cases u with
    | none =>
      have := B.root p a' hp
      subst this
      have := B.hd.symm.trans hp
      cases this
      exact List.mem_cons_self ..
    | some w =>
      obtain ⟨pm, u', d, _, _, _, _, h⟩ := B.par p a' w hp
      exact List.mem_cons_of_mem _ (mem_keys (mem_way h))
  rw [keys, List.length_map, List.length_cons, keys, List.length_map] at this
  exact this

theorem search (v : Valid ds P g) : ∀ (k n : Nat) (L : Q), k = g.length + 2 - n → n ≤ L.length → Bfs ds P g x L n [] →
    (∃ g', Valid ds P g' ∧ keys g' = keys g ++ [x]) ∨ ∃ L', Bfs ds P g x L' L'.length [] := by
  intro k
  induction k using Nat.strongRecOn with
  | _ k ih =>
    intro n L hk hn B
    by_cases c : n < L.length
    · have hm : L[n]? = some (L[n].1, L[n].2) := List.getElem?_eq_getElem c
      rcases days_through v (P L[n].1).days [] L (fun _ h => h) hm B with h | ⟨L', B', hm'⟩
      · exact .inl h
      · rw [List.nil_append] at B'
        have B2 := bfs_next hm' B'
        have hl := bfs_keys B2
        have hn' : n < L'.length := (List.getElem?_eq_some_iff.mp hm').1
        exact ih (g.length + 2 - (n + 1)) (by omega) (n + 1) L' rfl (by omega) B2
    · have e : n = L.length := by omega
      subst e
      exact .inr ⟨L, B⟩

theorem one_more (v : Valid ds P g) (wf : ∀ t ∈ g, t.2 < ds.length) (hx : x ∉ keys g) (c : Can ds P (keys g ++ [x])) : ∃ g', Valid ds P g' ∧ keys g' = keys g ++ [x] := by
  rcases search v (g.length + 2) 0 [(x, none)] rfl (Nat.zero_le _) (bfs_init hx) with h | ⟨L, B⟩
  · exact h
  · exact absurd c (can_not v wf B (List.mem_append_right _ (List.mem_cons_self ..)) fun a ha => List.mem_append_left _ ha)
end

theorem nil_valid {ds : List Day} {P : Nat → Person} : Valid ds P [] :=
  ⟨by simp [keys], fun t h => (by cases h), fun d y _ => Nat.zero_le _, fun d y _ k => Nat.zero_le _⟩

/-- **A set no part of which is a crowd has a giving.** -/
theorem hall {ds : List Day} {P : Nat → Person} (days : ∀ a d, d ∈ (P a).days → d < ds.length) : ∀ (B A : List Nat) (g : G), (A ++ B).Nodup → Can ds P (A ++ B) → Valid ds P g → keys g = A → ∃ g', Valid ds P g' ∧ keys g' = A ++ B
  | [], A, g, _, _, v, e => ⟨g, v, by rw [List.append_nil]; exact e⟩
  | x :: B, A, g, nd, c, v, e => by
    have hx : x ∉ keys g := by
      rw [e]
      intro z
      exact (List.nodup_append.mp nd).2.2 x z x (List.mem_cons_self ..) rfl
    have c' : Can ds P (keys g ++ [x]) := can_mono (fun a ha => by
      rw [e] at ha
      rcases List.mem_append.mp ha with z | z
      · exact List.mem_append_left _ z
      · have : a = x := by simpa using z
        rw [this]; exact List.mem_append_right _ (List.mem_cons_self ..)) c
    obtain ⟨g', v', e'⟩ := one_more v (fun t ht => days t.1 t.2 (v.come t ht)) hx c'
    have e2 : A ++ x :: B = (A ++ [x]) ++ B := by simp
    rw [e2] at nd c ⊢
    exact hall days B (A ++ [x]) g' nd c v' (by rw [e', e])
end Vb
/-! Served, and the told giving, by numbers. -/
namespace Vb
open Vbkoaf (Person Day)

def setDays (P : Nat → Person) (x : Nat) (l : List Nat) : Nat → Person := fun i => if i = x then { P i with days := l } else P i
theorem setDays_same {P : Nat → Person} {x : Nat} {l : List Nat} : setDays P x l x = { P x with days := l } := if_pos rfl
theorem setDays_ne {P : Nat → Person} {x i : Nat} {l : List Nat} (h : i ≠ x) : setDays P x l i = P i := if_neg h
theorem setDays_kind {P : Nat → Person} {x i : Nat} {l : List Nat} : (setDays P x l i).kind = (P i).kind := by
  by_cases h : i = x
  · subst h; rw [setDays_same]
  · rw [setDays_ne h]
theorem setDays_id {P : Nat → Person} {x i : Nat} {l : List Nat} : (setDays P x l i).id = (P i).id := by
  by_cases h : i = x
  · subst h; rw [setDays_same]
  · rw [setDays_ne h]
theorem ids_set {P : Nat → Person} {x : Nat} {l : List Nat} {A : List Nat} (h : Ids P A) : Ids (setDays P x l) A := ⟨h.nd, h.lt, fun a ha => by rw [setDays_id]; exact h.id a ha⟩

/-- people who are fit: kinds below 4, days that there are -/
structure Fit (ds : List Day) (P : Nat → Person) (A : List Nat) : Prop where
  kind : ∀ a ∈ A, (P a).kind < 4
  days : ∀ a ∈ A, ∀ d ∈ (P a).days, d < ds.length

theorem hallF {ds : List Day} {P : Nat → Person} {A : List Nat} (f : Fit ds P A) (nd : A.Nodup) (c : Can ds P A) : ∃ g, Valid ds P g ∧ keys g = A := by
  -- people out of the set have no days
  let R : Nat → Person := fun i => if i ∈ A then P i else { P i with days := [] }
  have hR : ∀ a ∈ A, R a = P a := fun a ha => if_pos ha
  have hd : ∀ a d, d ∈ (R a).days → d < ds.length := fun a d h => by
    by_cases z : a ∈ A
    · rw [hR a z] at h; exact f.days a z d h
    · have e : R a = { P a with days := [] } := if_neg z
      rw [e] at h; cases h
  obtain ⟨g, v, e⟩ := hall hd A [] [] (by simpa using nd) (by simpa using can_congr (fun a ha => (hR a ha).symm) c) nil_valid rfl
  rw [List.nil_append] at e
  have hg : ∀ t ∈ g, R t.1 = P t.1 := fun t ht => hR _ (by rw [← e]; exact mem_keys ht)
  refine ⟨g, ⟨v.nd, fun t ht => by rw [← hg t ht]; exact v.come t ht, v.places, fun d y hy k => ?_⟩, e⟩
  have : ofKind P g d k = ofKind R g d k := by
    rw [ofKind, ofKind]
    refine List.countP_congr fun t ht => ?_
    rw [hg t ht]
  rw [this]; exact v.kinds d y hy k

theorem fit_g {ds : List Day} {P : Nat → Person} {A : List Nat} {g : G} (f : Fit ds P A) (v : Valid ds P g) (e : ∀ a ∈ keys g, a ∈ A) : ∀ t ∈ g, t.2 < ds.length ∧ (P t.1).kind < 4 := fun t ht =>
  ⟨f.days _ (e _ (mem_keys ht)) _ (v.come t ht), f.kind _ (e _ (mem_keys ht))⟩

/-- one day of somebody's can be kept to -/
theorem narrow {ds : List Day} {P : Nat → Person} {A : List Nat} (f : Fit ds P A) (nd : A.Nodup) (c : Can ds P A) {x : Nat} (hx : x ∈ A) : ∃ d ∈ (P x).days, Can ds (setDays P x [d]) A := by
  obtain ⟨g, v, e⟩ := hallF f nd c
  obtain ⟨⟨x', d⟩, ht, rfl⟩ : ∃ t ∈ g, t.1 = x := by
    rw [← e] at hx
    exact List.mem_map.mp hx
  refine ⟨d, v.come _ ht, ?_⟩
  have wf := fit_g f v fun a ha => by rw [← e]; exact ha
  refine can_of_valid (g := g) ⟨v.nd, fun t hs => ?_, v.places, fun d' y hy k => ?_⟩ (fun t hs => ⟨(wf t hs).1, by rw [setDays_kind]; exact (wf t hs).2⟩) fun a ha => by rw [e]; exact ha
  · by_cases z : t.1 = x'
    · have e2 : t.2 = d := by
        obtain ⟨a, b⟩ := t
        have z : a = x' := z
        subst z
        have h1 := lookup_mem v.nd hs
        have h2 := lookup_mem v.nd ht
        exact Option.some.inj (h1.symm.trans h2)
      rw [z, setDays_same, e2]; exact List.mem_cons_self ..
    · rw [setDays_ne z]; exact v.come t hs
  · have : ofKind (setDays P x' [d]) g d' k = ofKind P g d' k := by
      rw [ofKind, ofKind]
      refine List.countP_congr fun t _ => ?_
      rw [setDays_kind]
    rw [this]; exact v.kinds d' y hy k

/-! ## Served -/
def servedN (ds : List Day) (P : Nat → Person) : List Nat → List Nat → List Nat
  | done, [] => done
  | done, x :: l => servedN ds P (if Vbkoaf.canServe ds ((done ++ [x]).map P) = true then done ++ [x] else done) l
theorem served_is {ds : List Day} {P : Nat → Person} : ∀ (l done : List Nat), Vbkoaf.servedOf ds (done.map P) (l.map P) = (servedN ds P done l).map P
  | [], _ => rfl
  | x :: l, done => by
    rw [List.map_cons, Vbkoaf.servedOf, servedN]
    have e : done.map P ++ [P x] = (done ++ [x]).map P := by simp
    rw [e, ← served_is l]
    congr 1
    split <;> rfl
theorem served_more {ds : List Day} {P : Nat → Person} {done l : List Nat} {x : Nat} : servedN ds P done (l ++ [x]) = if Vbkoaf.canServe ds ((servedN ds P done l ++ [x]).map P) = true then servedN ds P done l ++ [x] else servedN ds P done l := by
  induction l generalizing done with
  | nil => rfl
  | cons y l ih => rw [List.cons_append, servedN, ih, servedN]
theorem served_sub {ds : List Day} {P : Nat → Person} : ∀ {l done : List Nat} {a : Nat}, a ∈ servedN ds P done l → a ∈ done ∨ a ∈ l
  | [], _, _, h => .inl h
  | x :: l, done, a, h => by
    rw [servedN] at h
    rcases served_sub h with z | z
    · split at z
      · rcases List.mem_append.mp z with y | y
        · exact .inl y
        · exact .inr (by have : a = x := by simpa using y
                         rw [this]; exact List.mem_cons_self ..)
      · exact .inl z
    · exact .inr (List.mem_cons_of_mem _ z)
theorem served_nd {ds : List Day} {P : Nat → Person} : ∀ {l done : List Nat}, (done ++ l).Nodup → (servedN ds P done l).Nodup
  | [], done, h => by rw [servedN]; simpa using h
  | x :: l, done, h => by
    rw [servedN]
    refine served_nd ?_
    split
    · simpa using h
    · exact List.Nodup.sublist (List.Sublist.append_left (List.sublist_cons_self ..) _) h
theorem served_can {ds : List Day} {P : Nat → Person} : ∀ {l done : List Nat}, Vbkoaf.canServe ds (done.map P) = true → Vbkoaf.canServe ds ((servedN ds P done l).map P) = true
  | [], _, h => h
  | x :: l, done, h => by
    rw [servedN]
    refine served_can ?_
    split
    · assumption
    · exact h
theorem can_nil {ds : List Day} {P : Nat → Person} : Vbkoaf.canServe ds (([] : List Nat).map P) = true := by
  rw [canServe_iff ⟨by simp, by simp, by simp⟩]
  intro B nd h
  cases B with
  | nil => exact Nat.zero_le _
  | cons b B => exact absurd (h b (List.mem_cons_self ..)) (by simp)

/-! ## The told giving -/
def giveN (ds : List Day) (P : Nat → Person) (D : List Nat) : List Nat → List Nat
  | [] => []
  | x :: B => match (P x).days.find? fun d => Vbkoaf.canServe ds ((D ++ x :: B).map (setDays P x [d])) with
    | none => []
    | some d => d :: giveN ds (setDays P x [d]) (D ++ [x]) B
theorem map_set {P : Nat → Person} {x : Nat} {l : List Nat} {A : List Nat} (h : x ∉ A) : A.map (setDays P x l) = A.map P := List.map_congr_left fun a ha => setDays_ne fun e => h (e ▸ ha)
theorem give_is {ds : List Day} : ∀ (B : List Nat) (P : Nat → Person) (D : List Nat), (D ++ B).Nodup → Vbkoaf.give ds (D.map P) (B.map P) = giveN ds P D B
  | [], _, _, _ => rfl
  | x :: B, P, D, nd => by
    have h1 : x ∉ D := fun z => (List.nodup_append.mp nd).2.2 x z x (List.mem_cons_self ..) rfl
    have h2 : x ∉ B := (List.nodup_cons.mp (List.nodup_append.mp nd).2.1).1
    have e : ∀ d, D.map P ++ ({ P x with days := [d] } :: B.map P) = (D ++ x :: B).map (setDays P x [d]) := fun d => by
      rw [List.map_append, List.map_cons, map_set h1, map_set h2, setDays_same]
    rw [List.map_cons, Vbkoaf.give, giveN]
    simp only [e]
    cases (P x).days.find? fun d => Vbkoaf.canServe ds ((D ++ x :: B).map (setDays P x [d])) with
    | none => rfl
    | some d =>
      show d :: Vbkoaf.give ds (D.map P ++ [{ P x with days := [d] }]) (B.map P) = d :: giveN ds (setDays P x [d]) (D ++ [x]) B
      have e2 : D.map P ++ [{ P x with days := [d] }] = (D ++ [x]).map (setDays P x [d]) := by
        rw [List.map_append, List.map_cons, List.map_nil, map_set h1, setDays_same]
      rw [e2, ← map_set (l := [d]) h2, give_is B _ _ (by simpa using nd)]
theorem find_some {ds : List Day} {P : Nat → Person} {A : List Nat} {x : Nat} (i : Ids P A) (f : Fit ds P A) (c : Vbkoaf.canServe ds (A.map P) = true) (hx : x ∈ A) :
    ∃ d, ((P x).days.find? fun d => Vbkoaf.canServe ds (A.map (setDays P x [d]))) = some d := by
  obtain ⟨d, hd, hc⟩ := narrow f i.nd ((canServe_iff i).mp c) hx
  cases e : (P x).days.find? fun d => Vbkoaf.canServe ds (A.map (setDays P x [d])) with
  | some d => exact ⟨d, rfl⟩
  | none =>
    rw [List.find?_eq_none] at e
    exact absurd ((canServe_iff (ids_set i)).mpr hc) (e d hd)
theorem fit_set {ds : List Day} {P : Nat → Person} {A : List Nat} {x d : Nat} (f : Fit ds P A) (hd : d < ds.length) : Fit ds (setDays P x [d]) A :=
  ⟨fun a ha => by rw [setDays_kind]; exact f.kind a ha, fun a ha e he => by
    by_cases z : a = x
    · subst z; rw [setDays_same] at he
      have : e = d := by simpa using he
      omega
    · rw [setDays_ne z] at he; exact f.days a ha e he⟩
end Vb
set_option linter.all false
/-! The told crowd and the rooms by numbers; who is served, ahead of somebody. -/
namespace Vb
open Vbkoaf (Person Day)

/-! ### kinds, each once -/
theorem sumTo_pick {q : Nat → Nat} {a : Nat} : ∀ {n : Nat}, sumTo (fun i => if a = i then q i else 0) n = if a < n then q a else 0
  | 0 => by simp [sumTo]
  | n + 1 => by
    rw [sumTo, sumTo_pick]
    by_cases c : a = n
    · subst c; simp
    · by_cases c2 : a < n
      · rw [if_pos c2, if_neg c, if_pos (by omega)]; omega
      · rw [if_neg c2, if_neg c, if_neg (by omega)]
theorem sum_once {q : Nat → Nat} {n : Nat} : ∀ {ks : List Nat}, ks.Nodup → (∀ k ∈ ks, k < n) → (ks.map q).sum = sumTo (fun k => if k ∈ ks then q k else 0) n
  | [], _, _ => by simp [sumTo_zero]
  | a :: ks, nd, lt => by
    have nd' := List.nodup_cons.mp nd
    rw [List.map_cons, List.sum_cons, sum_once nd'.2 (fun k hk => lt k (List.mem_cons_of_mem _ hk))]
    have e : sumTo (fun k => if k ∈ a :: ks then q k else 0) n = sumTo (fun k => (if a = k then q k else 0) + (if k ∈ ks then q k else 0)) n := sumTo_eq fun k _ => by
      by_cases c : a = k
      · subst c; simp [nd'.1]
      · have c2 : ¬ k = a := fun z => c z.symm
        simp [c, c2]
    rw [e, sumTo_add, sumTo_pick, if_pos (lt a (List.mem_cons_self ..))]
theorem roomD_once {ds : List Day} {P : Nat → Person} {A : List Nat} {d : Nat} {y : Day} (hy : ds[d]? = some y) {ks : List Nat} (nd : ks.Nodup) (lt : ∀ k ∈ ks, k < 4) (h : ∀ k, k ∈ ks ↔ kindAny P A d k) : roomD ds (A.map P) d = min y.places ((ks.map fun k => y.kinds.getD k 0).sum) := by
  rw [roomD, hy]
  show Vbkoaf.roomAt (A.map P) d y = _
  rw [Vbkoaf.roomAt, sum_is, sum_range, sum_once nd lt]
  congr 1
  refine sumTo_eq fun k _ => ?_
  by_cases c : k ∈ ks
  · rw [if_pos c, if_pos (any_iff.mpr ((h k).mp c))]
  · rw [if_neg c, if_neg fun z => c ((h k).mpr (any_iff.mp z))]
theorem roomsOf_same {ds : List Day} {P : Nat → Person} {A B : List Nat} (h : ∀ a, a ∈ A ↔ a ∈ B) : Vbkoaf.roomsOf ds (A.map P) = Vbkoaf.roomsOf ds (B.map P) := by
  rw [roomsOf_is, roomsOf_is]
  refine List.map_congr_left fun d _ => ?_
  rw [roomD, roomD]
  cases ds[d]? with
  | none => rfl
  | some y =>
    have : ∀ k, ((A.map P).any fun x => x.kind == k && Vbkoaf.canCome d x) = ((B.map P).any fun x => x.kind == k && Vbkoaf.canCome d x) := fun k => by
      rw [Bool.eq_iff_iff, any_iff, any_iff, kindAny, kindAny]
      simp only [h]
    simp only [Vbkoaf.roomAt, this]

/-! ### parts with one more -/
theorem flat_cong {α β : Type} {f g : α → List β} : ∀ {l : List α}, (∀ a ∈ l, f a = g a) → l.flatMap f = l.flatMap g
  | [], _ => rfl
  | a :: l, h => by rw [List.flatMap_cons, List.flatMap_cons, h a (List.mem_cons_self ..), flat_cong fun b hb => h b (List.mem_cons_of_mem _ hb)]
def okB (p : List Nat) (a : Nat) : Bool := match p.getLast? with
  | none => true
  | some z => decide (z < a)
def extB (l p : List Nat) : List (List Nat) := (l.filter fun a => okB p a).map fun a => p ++ [a]
theorem choose_zero {α : Type} (l : List α) : Vbkoaf.choose 0 l = [[]] := by cases l <;> rfl
theorem choose_one : ∀ (l : List Nat), Vbkoaf.choose 1 l = l.map fun a => [a]
  | [] => rfl
  | x :: l => by
    rw [Vbkoaf.choose, choose_one l, choose_zero]; rfl
theorem ext_low {x : Nat} {l s : List Nat} (hs : s.Sublist l) (ne : s ≠ []) (up : ∀ a ∈ l, x < a) : okB s x = false := by
  rw [okB]
  cases e : s.getLast? with
  | none => exact absurd (List.getLast?_eq_none_iff.mp e) ne
  | some z =>
    have := up z (hs.subset (List.mem_of_getLast? e))
    exact decide_eq_false (by omega)
theorem ext_choose : ∀ (l : List Nat) (k : Nat), l.Pairwise (· < ·) → (Vbkoaf.choose k l).flatMap (extB l) = Vbkoaf.choose (k + 1) l
  | l, 0, _ => by
    rw [choose_one, choose_zero]
    show extB l [] ++ [] = _
    rw [List.append_nil, extB]
    have : (l.filter fun a => okB [] a) = l := List.filter_eq_self.mpr fun a _ => rfl
    rw [this]; rfl
  | [], k + 1, _ => by rfl
  | x :: l, k + 1, up => by
    obtain ⟨up1, up2⟩ := List.pairwise_cons.mp up
    have e1 : Vbkoaf.choose (k + 1) (x :: l) = ((Vbkoaf.choose k l).map fun s => x :: s) ++ Vbkoaf.choose (k + 1) l := rfl
    have e2 : Vbkoaf.choose (k + 1 + 1) (x :: l) = ((Vbkoaf.choose (k + 1) l).map fun s => x :: s) ++ Vbkoaf.choose (k + 1 + 1) l := rfl
    have i2 := ext_choose l (k + 1) up2
    have i1 : (Vbkoaf.choose (k + 1) l).map (fun s => x :: s) = (Vbkoaf.choose k l).flatMap fun s => (extB l s).map fun s => x :: s := by rw [← ext_choose l k up2, List.map_flatMap]
    rw [e1, e2, List.flatMap_append, List.flatMap_map, i1, ← i2]
    congr 1
    · refine flat_cong fun s hs => ?_
      have hsub := (mem_choose.mp hs).1
      have h0 : okB (x :: s) x = false := by
        cases s with
        | nil => exact decide_eq_false (Nat.lt_irrefl x)
        | cons y s =>
          have := ext_low hsub (by simp) up1
          rw [okB, List.getLast?_cons_cons]
          exact this
      have h1 : ∀ a ∈ l, okB (x :: s) a = okB s a := fun a ha => by
        cases s with
        | nil => exact decide_eq_true (up1 a ha)
        | cons y s => rw [okB, okB, List.getLast?_cons_cons]
      rw [extB, extB, List.filter_cons, h0]
      simp only [Bool.false_eq_true, if_false, List.map_map]
      rw [List.filter_congr h1]
      rfl
    · refine flat_cong fun s hs => ?_
      obtain ⟨hsub, hl⟩ := mem_choose.mp hs
      have h0 := ext_low hsub (fun e => by rw [e] at hl; cases hl) up1
      rw [extB, extB, List.filter_cons, h0]
      rfl

/-! ### the told crowd -/
def crowdN (ds : List Day) (P : Nat → Person) (l : List Nat) : Option (List Nat) := (List.range (l.length + 1)).findSome? fun k => (Vbkoaf.choose k l).find? fun s => Vbkoaf.isCrowd ds (s.map P)
theorem choose_map {α β : Type} {f : α → β} : ∀ {k : Nat} {l : List α}, Vbkoaf.choose k (l.map f) = (Vbkoaf.choose k l).map fun s => s.map f
  | 0, l => by rw [choose_zero, choose_zero]; rfl
  | k + 1, [] => rfl
  | k + 1, x :: l => by
    rw [List.map_cons, Vbkoaf.choose, Vbkoaf.choose, choose_map, choose_map, List.map_append, List.map_map, List.map_map]
    rfl
theorem findSome_map {α β γ : Type} {f : α → Option β} {g : β → γ} : ∀ {l : List α}, (l.findSome? fun a => (f a).map g) = (l.findSome? f).map g
  | [] => rfl
  | a :: l => by
    rw [List.findSome?_cons, List.findSome?_cons]
    cases f a with
    | none => exact findSome_map
    | some b => rfl
theorem crowd_is {ds : List Day} {P : Nat → Person} {A : List Nat} (h : Ids P A) : Vbkoaf.crowd ds (A.map P) = (crowdN ds P (sorted A)).map fun s => s.map P := by
  rw [Vbkoaf.crowd, crowdN]
  simp only [byId_is h, List.length_map, choose_map]
  rw [← findSome_map]
  congr 1
  funext k
  rw [List.find?_map]; rfl
theorem some_range {α : Type} {f : Nat → Option α} {c : α} : ∀ {n : Nat}, (List.range n).findSome? f = some c → ∃ k, k < n ∧ f k = some c ∧ ∀ j, j < k → f j = none
  | 0, h => by cases h
  | n + 1, h => by
    rw [List.range_succ, List.findSome?_append] at h
    cases e : (List.range n).findSome? f with
    | some d =>
      rw [e] at h
      cases h
      obtain ⟨k, h1, h2, h3⟩ := some_range e
      exact ⟨k, by omega, h2, h3⟩
    | none =>
      rw [e] at h
      have hn : ∀ j, j < n → f j = none := fun j hj => List.findSome?_eq_none_iff.mp e j (List.mem_range.mpr hj)
      refine ⟨n, by omega, ?_, hn⟩
      cases e2 : f n with
      | none => simp [List.findSome?_cons, e2] at h
      | some d => simp [List.findSome?_cons, e2] at h; rw [h]
theorem sorted_up {A : List Nat} : (sorted A).Pairwise (· < ·) := List.Pairwise.sublist List.filter_sublist List.pairwise_lt_range
theorem sorted_perm {A : List Nat} (nd : A.Nodup) (lt : ∀ a ∈ A, a < 20) : (sorted A).Perm A := by
  refine (List.perm_ext_iff_of_nodup sorted_nd nd).mpr fun a => mem_sorted lt
/-- rising, and the same ones: the same list -/
theorem up_eq : ∀ {l m : List Nat}, l.Pairwise (· < ·) → m.Pairwise (· ≤ ·) → l.Perm m → l = m
  | [], m, _, _, p => (List.Perm.nil_eq p)
  | a :: l, [], _, _, p => by cases (List.Perm.nil_eq p.symm)
  | a :: l, b :: m, h1, h2, p => by
    obtain ⟨g1, g2⟩ := List.pairwise_cons.mp h1
    obtain ⟨f1, f2⟩ := List.pairwise_cons.mp h2
    have hab : a = b := by
      have ha : a ∈ b :: m := p.subset (List.mem_cons_self ..)
      have hb : b ∈ a :: l := p.symm.subset (List.mem_cons_self ..)
      rcases List.mem_cons.mp ha with z | z
      · exact z
      · rcases List.mem_cons.mp hb with y | y
        · exact y.symm
        · have := f1 a z
          have := g1 b y
          omega
    subst hab
    rw [up_eq g2 f2 (List.Perm.cons_inv p)]

/-! ### those served -/
section
variable {ds : List Day} {P : Nat → Person}
theorem served_append : ∀ {l1 l2 done : List Nat}, servedN ds P done (l1 ++ l2) = servedN ds P (servedN ds P done l1) l2
  | [], l2, done => rfl
  | x :: l1, l2, done => by rw [List.cons_append, servedN, servedN, served_append]
theorem served_keep : ∀ {l done : List Nat} {a : Nat}, a ∈ done → a ∈ servedN ds P done l
  | [], done, a, h => h
  | x :: l, done, a, h => by
    rw [servedN]
    refine served_keep ?_
    split
    · exact List.mem_append_left _ h
    · exact h
theorem served_filter : ∀ {l done : List Nat}, (done ++ l).Nodup → servedN ds P done l = done ++ l.filter fun a => decide (a ∈ servedN ds P done l)
  | [], done, _ => by simp [servedN]
  | x :: l, done, nd => by
    by_cases c : Vbkoaf.canServe ds ((done ++ [x]).map P) = true
    · have e : servedN ds P done (x :: l) = servedN ds P (done ++ [x]) l := by rw [servedN, if_pos c]
      have hx : x ∈ servedN ds P (done ++ [x]) l := served_keep (List.mem_append_right _ (List.mem_cons_self ..))
      have ih := served_filter (l := l) (done := done ++ [x]) (by rw [List.append_assoc]; exact nd)
      rw [e, List.filter_cons, decide_eq_true hx, if_pos rfl]
      conv => lhs; rw [ih]
      rw [List.append_assoc]; rfl
    · have e : servedN ds P done (x :: l) = servedN ds P done l := by rw [servedN, if_neg c]
      have nd2 : (done ++ l).Nodup := List.Nodup.sublist (List.Sublist.append (List.Sublist.refl _) (List.sublist_cons_self x l)) nd
      have hx : x ∉ servedN ds P done l := fun z => by
        have h3 := (List.nodup_append.mp nd)
        rcases served_sub z with y | y
        · exact h3.2.2 x y x (List.mem_cons_self ..) rfl
        · exact (List.nodup_cons.mp h3.2.1).1 y
      rw [e, List.filter_cons, decide_eq_false hx]
      exact served_filter nd2
theorem served_at {bf af : List Nat} {x : Nat} (nd : (bf ++ x :: af).Nodup) : x ∈ servedN ds P [] (bf ++ x :: af) ↔ Vbkoaf.canServe ds ((servedN ds P [] bf ++ [x]).map P) = true := by
  have h3 := List.nodup_append.mp nd
  have nx : x ∉ servedN ds P [] bf := fun z => by
    rcases served_sub z with y | y
    · cases y
    · exact h3.2.2 x y x (List.mem_cons_self ..) rfl
  rw [served_append, servedN]
  constructor
  · intro h
    by_cases c : Vbkoaf.canServe ds ((servedN ds P [] bf ++ [x]).map P) = true
    · exact c
    · rw [if_neg c] at h
      rcases served_sub h with y | y
      · exact absurd y nx
      · exact absurd y (List.nodup_cons.mp h3.2.1).1
  · intro c
    rw [if_pos c]
    exact served_keep (List.mem_append_right _ (List.mem_cons_self ..))
theorem served_before {bf af : List Nat} (nd : (bf ++ af).Nodup) : (bf.filter fun a => decide (a ∈ servedN ds P [] (bf ++ af))) = servedN ds P [] bf := by
  have h3 := List.nodup_append.mp nd
  have e := served_filter (ds := ds) (P := P) (l := bf) (done := []) (by simpa using h3.1)
  rw [List.nil_append] at e
  conv => rhs; rw [e]
  refine List.filter_congr fun a ha => decide_eq_decide.mpr ?_
  rw [served_append]
  constructor
  · intro h
    rcases served_sub h with y | y
    · exact y
    · exact absurd rfl (h3.2.2 a ha a y)
  · exact served_keep
end

/-! ### the last of a range -/
theorem last_some {p : Nat → Bool} {i : Nat} : ∀ {n : Nat}, i < n → p i = true → (∀ j, i < j → j < n → p j = false) → ((List.range n).filter p).getLast? = some i
  | 0, h, _, _ => by omega
  | n + 1, h, hp, hn => by
    rw [List.range_succ, List.filter_append]
    by_cases c : i = n
    · subst c
      simp [hp]
    · have := hn n (by omega) (by omega)
      simp only [List.filter_cons, this, List.filter_nil]
      rw [show (if (false : Bool) = true then [n] else [] : List Nat) = [] from rfl, List.append_nil]
      exact last_some (by omega) hp fun j h1 h2 => hn j h1 (by omega)
theorem last_none {p : Nat → Bool} {n : Nat} (h : ∀ j, j < n → p j = false) : ((List.range n).filter p).getLast? = none := by
  have : (List.range n).filter p = [] := List.filter_eq_nil_iff.mpr fun j hj => by rw [h j (List.mem_range.mp hj)]; decide
  rw [this]; rfl
end Vb
set_option Elab.async false
set_option linter.all false
set_option maxRecDepth 100000
set_option maxHeartbeats 2000000
/-! Words ahead of the defs. -/
namespace Vp
open PySem PySem.Spec PyProof.Rows L2

def rPlus : R2 := rI0 fun i j => .int (i + j)
def rMinus : R2 := rI0 fun i j => .int (i - j)
def rLtI : R2 := rI0 fun i j => .bl (decide (i < j))
def rLeI : R2 := rI0 fun i j => .bl (decide (i ≤ j))
def rGtI : R2 := rI0 fun i j => .bl (decide (j < i))
def rGeI : R2 := rI0 fun i j => .bl (decide (j ≤ i))
def rLen (K : PySem.W.Frag) : List V → Hp → VK → Prop := fun xs H Q => ∃ p ys, xs = [.ref p] ∧ (SqL K H p ys ∨ SqT K H p ys) ∧ Q (.int ys.length) H
def rDictD : List V → Hp → VK → Prop := fun xs H Q => ∃ (a : Addr) (kvs : List (Key × V)), xs = [.ref a] ∧ Rd H a (.dK kvs) ∧ ∀ p, H p = none → Q (.ref p) (upd H p (.dK kvs))
def rInsert : V → List V → Hp → VK → Prop := fun x vs H Q => ∃ (l : Addr) (xs : List V) (i : Int) (y : V), x = .ref l ∧ vs = [.int i, y] ∧ H l = some (.lst xs) ∧ xs.length < sizeLine ∧ 0 ≤ i ∧ i < 2 ^ 63 ∧
  Q .non (upd H l (.lst (xs.take i.toNat ++ [y] ++ xs.drop i.toNat)))

/-- what a caller knows of a def, of a method, of a class that is made -/
structure CallOk (P : Program) (w : World) (K : PySem.W.Frag) (mg : Str → Option Value) (base : Heap) (k : Nat) (x : Str) (ps : List Str) (sp : Sp) : Prop where
  ex : ∃ (f : Addr) (fd : FuncData), mg x = some (.ref f) ∧ PySem.W.keepIn K (.ref f) = true ∧ Binds K fd ps [] ∧ FnOk P w K mg base CX0 k f fd ps sp
structure MethOk (P : Program) (w : World) (K : PySem.W.Frag) (mg : Str → Option Value) (base : Heap) (k : Nat) (C : Addr) (m : Str) (ps : List Str) (sp : Sp) : Prop where
  ex : ∃ (f : Addr) (fd : FuncData), Meth K C m f ∧ Binds K fd ps [] ∧ FnOk P w K mg base CX0 k f fd ps sp
structure MakeOk (P : Program) (w : World) (K : PySem.W.Frag) (mg : Str → Option Value) (base : Heap) (k : Nat) (x : Str) (C : Addr) (ps : List Str) (sp : Sp) : Prop where
  ex : ∃ (f : Addr) (fd : FuncData), Mk K C f ∧ mg x = some (.ref C) ∧ Binds K fd ps [] ∧ FnOk P w K mg base CX0 k f fd ps sp

section
variable {X : Cx}
theorem pe_const {x : Str} {v : Int} {pos : Pos} (hg : Gl X x) (h : ∃ t, X.mg x = some (.int v t)) (hd : (x == ("__debug__" : Str)) = false := by decide) : PE X (.Name x pos) (tC (.int v)) := by
  obtain ⟨t, e⟩ := h
  exact pe_glob hg e ⟨t, rfl⟩ hd
end

/-- a table of defs that the top has written: at a number a def -/
structure TabOk (K : PySem.W.Frag) (mg : Str → Option Value) (x : Str) (a : Addr) (D : Int → Option Addr) : Prop where
  g : mg x = some (.ref a)
  ex : ∃ (es : Array DictEntry) (n : Nat), K.lookup a = some ⟨.type "dict", none, .dict es n, #[]⟩ ∧ (∀ e ∈ es.toList, ∃ j t, e.key = .int j t ∧ e.hash = hashInt j) ∧ ∀ i f, D i = some f → findBy Value.isInt es i = some (.ref f)
def rTab (a : Addr) (D : Int → Option Addr) : R2 := fun x y H Q => ∃ (i : Int) (f : Addr), x = .ref a ∧ y = .int i ∧ D i = some f ∧ Q (.ref f) H
theorem pe_tab {X : Cx} {x : Str} {a : Addr} {pos : Pos} (hg : Gl X x) (h : X.mg x = some (.ref a)) (hd : (x == ("__debug__" : Str)) = false := by decide) : PE X (.Name x pos) (tC (.ref a)) := pe_glob hg h rfl hd
theorem ix_tab {X : Cx} {x : Str} {a : Addr} {D : Int → Option Addr} (T : TabOk X.K X.mg x a D) : IxR X (rTab a D) := by
  intro value slice pins s σ H x y v u Q I rx ry h hs
  obtain ⟨i, f, rfl, rfl, hD, q⟩ := h
  cases rx
  obtain ⟨t, rfl⟩ := ry
  obtain ⟨es, n, hl, hk, hf⟩ := T.ex
  have hm : s.heap.MapOf (intKind X.prog X.w) a (fun k => findBy Value.isInt es k) := ⟨_, es, n, I.kIn _ _ hl, ⟨rfl, rfl, rfl⟩, rfl, fun e he => by
    obtain ⟨j, t, e1, e2⟩ := hk e (Array.mem_toList_iff.mpr he)
    exact ⟨j, by rw [e1]; exact intKind_is X.prog X.w j t, e2⟩, fun _ => rfl⟩
  exact tail_any hm.typeIs slot_dict_getitem.lookup (wpAny_getItem_of (intKind_is X.prog X.w i t) hm (hf i f hD) ⟨.ref f, H, I.tok _, rfl, q⟩) hs
theorem pe_tabIx {X : Cx} {x : Str} {a : Addr} {D : Int → Option Addr} {o i : Expr} {pos : Pos} {td ty : TE} (T : TabOk X.K X.mg x a D) (ho : PE X o td) (hi : PE X i ty) (hs : PlainIx i) : PE X (.Subscript o i pos) (tOp (rTab a D) td ty) := pe_ix (ix_tab T) ho hi hs

/-! ### more readings of built-ins; o[i] of a list, by values -/
def rMin2 : List V → Hp → VK → Prop := fun xs H Q => ∃ i j, xs = [.int i, .int j] ∧ Q (.int (if j < i then j else i)) H
def rListOf (K : PySem.W.Frag) : List V → Hp → VK → Prop := fun xs H Q => ∃ p ys, xs = [.ref p] ∧ (SqL K H p ys ∨ SqT K H p ys) ∧ ∀ l, H l = none → Q (.ref l) (upd H l (.lst ys))
def rListDK : List V → Hp → VK → Prop := fun xs H Q => ∃ (a : Addr) (kvs : List (Key × V)), xs = [.ref a] ∧ Rd H a (.dK kvs) ∧ ∀ p, H p = none → Q (.ref p) (upd H p (.lst (kvs.map fun kv => kV kv.1)))
def rGetL (K : PySem.W.Frag) : V → V → Hp → VK → Prop := fun x y H Q => ∃ (p : Addr) (xs : List V) (i : Nat) (v : V), x = .ref p ∧ y = .int (i : Int) ∧ SqL K H p xs ∧ xs[i]? = some v ∧ Q v H
theorem get_list {X : Cx} : PGet X (rGetL X.K) := by
  intro pins s σ H x y v u Q I rx ry h
  obtain ⟨p, xs, i, z, rfl, rfl, hq, he, q⟩ := h
  cases rx
  obtain ⟨t, rfl⟩ := ry
  obtain ⟨its, r, pl, hz⟩ := I.list hq
  obtain ⟨w, ew, rw'⟩ := r.get he
  have hl := r.length
  have hn := line63
  have hi : i < xs.length := (List.getElem?_eq_some_iff.mp he).1
  exact wpAny_getItem_list pl.isList (by omega) (by omega) (by rw [Int.toNat_natCast]; simpa using ew) ⟨z, H, I, rw', q⟩
end Vp
set_option Elab.async false
set_option linter.all false
set_option maxRecDepth 100000
set_option maxHeartbeats 2000000
/-! The defs of the program: readings and derivations, printed by tools/ties.py. -/
namespace Vp
open PySem PySem.Spec PyProof.Rows L2
def top (i : Nat) : Stmt := PySem.Challenge.pw_placesrow_s01_answers.main.body.getD i (.Pass ⟨0, 0, 0, 0⟩)
structure Txt (K : PySem.W.Frag) (mg : Str → Option Value) (C_Giving C_House C_Reader : Addr) : Prop where
  cl_Giving : Cls K C_Giving
  cl_House : Cls K C_House
  cl_Reader : Cls K C_Reader
  na_Giving_day_of : NoAttr K C_Giving "day_of"
  na_Giving_house : NoAttr K C_Giving "house"
  na_Giving_wishes : NoAttr K C_Giving "wishes"
  na_House_day_count : NoAttr K C_House "day_count"
  na_House_days_of : NoAttr K C_House "days_of"
  na_House_kind_of : NoAttr K C_House "kind_of"
  na_House_places : NoAttr K C_House "places"
  na_House_quotas : NoAttr K C_House "quotas"
  na_House_row : NoAttr K C_House "row"
  na_Reader_at : NoAttr K C_Reader "at"
  na_Reader_numbers : NoAttr K C_Reader "numbers"
  b_all : mg "all" = none
  b_dict : mg "dict" = none
  b_enumerate : mg "enumerate" = none
  b_len : mg "len" = none
  b_list : mg "list" = none
  b_min : mg "min" = none
  b_range : mg "range" = none
  b_sorted : mg "sorted" = none
  b_sum : mg "sum" = none
  b_zip : mg "zip" = none
  c_MOST_DAYS : ∃ t, mg "MOST_DAYS" = some (.int (8) t)
  c_KINDS : ∃ t, mg "KINDS" = some (.int (4) t)
  c_MOST_PLACES : ∃ t, mg "MOST_PLACES" = some (.int (9) t)
  c_MOST_OF_KIND : ∃ t, mg "MOST_OF_KIND" = some (.int (9) t)
  c_MOST_IN_ROW : ∃ t, mg "MOST_IN_ROW" = some (.int (8) t)
  c_MOST_APPLIED : ∃ t, mg "MOST_APPLIED" = some (.int (20) t)
  c_OUT_OF_RANGE : ∃ t, mg "OUT_OF_RANGE" = some (.int (-1) t)
  c_LIST_NOT_AS_TOLD : ∃ t, mg "LIST_NOT_AS_TOLD" = some (.int (-2) t)
  c_NOT_THERE : ∃ t, mg "NOT_THERE" = some (.int (-4) t)
  c_SAME_APPLICANT : ∃ t, mg "SAME_APPLICANT" = some (.int (-5) t)
  c_NO_MORE_APPLY : ∃ t, mg "NO_MORE_APPLY" = some (.int (-7) t)
  c_NO_DAY : ∃ t, mg "NO_DAY" = some (.int (-1) t)
  c_ANY_KIND : ∃ t, mg "ANY_KIND" = some (.int (-1) t)
  c_NO_PLACE : ∃ t, mg "NO_PLACE" = some (.int (-1) t)
section
variable {P : Program} {w : World} {K : PySem.W.Frag} {mg : Str → Option Value} {base : Heap} {C_Giving C_House C_Reader : Addr}

/-! ### kinds_on_day: level 1; slots 0 house 1 applicants 2 day 3 kinds 4 applicant 5 kind -/
abbrev s_kinds_on_day : Stmt := top 1
theorem sc_kinds_on_day : FnScope ["house", "applicants", "day", "kinds", "applicant", "kind"] ["house", "applicants", "day"] (defScope s_kinds_on_day) := ⟨rfl, rfl, rfl, by decide +kernel, rfl, by decide +kernel, by decide +kernel⟩
def t_kinds_on_day (K : PySem.W.Frag) (C_Giving C_House C_Reader : Addr) : TS :=
    (tSeq (tAsg (tLst tNil) (gName 3))
    (tSeq (tFor (iList K (tVar 1)) (gName 4) (tSeq (tAsg (tOp (rIxL K) (tFld K (tVar 0) "kind_of") (tVar 4)) (gName 5))
    (tIfS (tAnd (tTest (tOp (rIn K false) (tVar 2) (tOp (rIxL K) (tFld K (tVar 0) "days_of") (tVar 4)))) (tTest (tOp (rIn K true) (tVar 5) (tVar 3)))) (tDrop (tBM K "list" rAppend (tVar 3) (tCons (tVar 5) tNil))) tNext)))
    (tRet (tVar 3))))
theorem ok_kinds_on_day {f : Addr} {fd : FuncData}  (F : Fun K "kinds_on_day" "kinds_on_day" s_kinds_on_day f fd) (T : Txt K mg C_Giving C_House C_Reader) {sp : Sp} (len : ∀ vs H Q E, sp vs H Q E → vs.length = 3)
    (pure : ∀ vs H Q E, sp vs H Q E → t_kinds_on_day K C_Giving C_House C_Reader { nx := fun _ H' => Q .non H', rt := Q } (start ["house", "applicants", "day", "kinds", "applicant", "kind"] vs) H) : FnOk P w K mg base CX0 1 f fd ["house", "applicants", "day"] sp := by
  refine F.ok sc_kinds_on_day len (fun cdv A outer s H vs Q E hr h => ⟨t_kinds_on_day K C_Giving C_House C_Reader, ?_, pure vs H Q E h⟩)
  exact (pss_cons (ps_set (i := 3) sc_kinds_on_day.nd rfl (Or.inl rfl) (pe_lst pa_nil))
      (pss_cons (ps_for PassesOwn.never rfl (pi_list (pv 1)) (pg_name (i := 4) sc_kinds_on_day.nd rfl (Or.inl rfl)) (pss_cons (ps_set (i := 5) sc_kinds_on_day.nd rfl (Or.inl rfl) (pe_ix ix_list (pe_fld (pv 0) rfl) (pv 4) (fun _ _ => rfl)))
      (pss_one (ps_if (PW.pt (pw_and (pt_cmpR op_in_seq (pv 2) (pe_ix ix_list (pe_fld (pv 0) rfl) (pv 4) (fun _ _ => rfl)) (by rfl)) (pw_and1 (pt_cmpR op_notIn_seq (pv 5) (pv 3) (by rfl))))) (pss_one (ps_expr (pe_bm PySem.F.plainAttrs_list PySem.F.slot_list_append PySem.F.type_list_append mt_append (pv 3) (pa_cons (pv 5) pa_nil)))) pss_nil))))
      (pss_one (ps_ret (pv 3)))))

/-! ### room_by_day: level 2; slots 0 house 1 applicants 2 rooms 3 day 4 quotas 5 kind -/
abbrev s_room_by_day : Stmt := top 2
theorem sc_room_by_day : FnScope ["house", "applicants", "rooms", "day", "quotas", "kind"] ["house", "applicants"] (defScope s_room_by_day) := ⟨rfl, rfl, rfl, by decide +kernel, rfl, by decide +kernel, by decide +kernel⟩
def t_room_by_day (K : PySem.W.Frag) (C_Giving C_House C_Reader : Addr) (sp0 : Sp) : TS :=
    (tSeq (tAsg (tLst tNil) (gName 2))
    (tSeq (tFor (iRng1 (tCons (tFld K (tVar 0) "day_count") tNil)) (gName 3) (tSeq (tAsg (tLc (iList K (tCall sp0 [] E0 (tCons (tVar 0) (tCons (tVar 1) (tCons (tVar 3) tNil))))) (gName 5) tYes (tOp (rIxL K) (tOp (rIxL K) (tFld K (tVar 0) "quotas") (tVar 3)) (tVar 5)) [5]) (gName 4))
    (tDrop (tBM K "list" rAppend (tVar 2) (tCons (tCB rMin2 (tCons (tOp (rIxL K) (tFld K (tVar 0) "places") (tVar 3)) (tCons (tCB (rSum K) (tCons (tVar 4) tNil)) tNil))) tNil)))))
    (tRet (tVar 2))))
theorem ok_room_by_day {f : Addr} {fd : FuncData} {sp0 : Sp} (F : Fun K "room_by_day" "room_by_day" s_room_by_day f fd) (T : Txt K mg C_Giving C_House C_Reader) (A0 : CallOk P w K mg base 1 "kinds_on_day" ["house", "applicants", "day"] sp0) {sp : Sp} (len : ∀ vs H Q E, sp vs H Q E → vs.length = 2)
    (pure : ∀ vs H Q E, sp vs H Q E → t_room_by_day K C_Giving C_House C_Reader sp0 { nx := fun _ H' => Q .non H', rt := Q } (start ["house", "applicants", "rooms", "day", "quotas", "kind"] vs) H) : FnOk P w K mg base CX0 2 f fd ["house", "applicants"] sp := by
  obtain ⟨f0, fd0, g0, k0, b0, G0⟩ := A0.ex
  refine F.ok sc_room_by_day len (fun cdv A outer s H vs Q E hr h => ⟨t_room_by_day K C_Giving C_House C_Reader sp0, ?_, pure vs H Q E h⟩)
  exact (pss_cons (ps_set (i := 2) sc_room_by_day.nd rfl (Or.inl rfl) (pe_lst pa_nil))
      (pss_cons (ps_for PassesOwn.never rfl (pi_range1 (by rfl) T.b_range (pa_cons (pe_fld (pv 0) rfl) pa_nil)) (pg_name (i := 3) sc_room_by_day.nd rfl (Or.inr rfl)) (pss_cons (ps_setLc (i := 4) (own := [("kind", 5)]) (g := gName 5) (tt := tYes) (te := (tOp (rIxL K) (tOp (rIxL K) (tFld K (tVar 0) "quotas") (tVar 3)) (tVar 5))) rfl sc_room_by_day.nd rfl rfl (sw_true rfl rfl rfl (by decide +kernel)) (pi_list (pe_call G0 (hr.mono (by decide)) (by rfl) g0 k0 b0 .nil pass0 (pa_cons (pv 0) (pa_cons (pv 1) (pa_cons (pv 3) pa_nil))))) (blkOk_by (N := ["house", "applicants", "rooms", "day", "quotas", "kind"]) (sc := defScope s_room_by_day) (by decide +kernel)) (fun _ _ _ _ _ => pg_name (i := 5) sc_room_by_day.nd rfl (Or.inl rfl)) (fun _ _ _ _ _ => pts_nil) (fun _ _ _ _ _ => (pe_ix ix_list (pe_ix ix_list (pe_fld (pv 0) rfl) (pv 3) (fun _ _ => rfl)) (pv 5) (fun _ _ => rfl))))
      (pss_one (ps_expr (pe_bm PySem.F.plainAttrs_list PySem.F.slot_list_append PySem.F.type_list_append mt_append (pv 2) (pa_cons (pe_callB (call_min2 rfl) (by rfl) T.b_min (by decide +kernel) (pa_cons (pe_ix ix_list (pe_fld (pv 0) rfl) (pv 3) (fun _ _ => rfl)) (pa_cons (pe_callB (cr_sum rfl) (by rfl) T.b_sum (by decide +kernel) (pa_cons (pv 4) pa_nil)) pa_nil))) pa_nil))))))
      (pss_one (ps_ret (pv 2)))))

/-! ### is_crowd: level 3; slots 0 house 1 applicants -/
abbrev s_is_crowd : Stmt := top 3
theorem sc_is_crowd : FnScope ["house", "applicants"] ["house", "applicants"] (defScope s_is_crowd) := ⟨rfl, rfl, rfl, by decide +kernel, rfl, by decide +kernel, by decide +kernel⟩
def t_is_crowd (K : PySem.W.Frag) (C_Giving C_House C_Reader : Addr) (sp0 : Sp) : TS :=
    (tRet (tOp rGtI (tCB (rLen K) (tCons (tVar 1) tNil)) (tCB (rSum K) (tCons (tCall sp0 [] E0 (tCons (tVar 0) (tCons (tVar 1) tNil))) tNil))))
theorem ok_is_crowd {f : Addr} {fd : FuncData} {sp0 : Sp} (F : Fun K "is_crowd" "is_crowd" s_is_crowd f fd) (T : Txt K mg C_Giving C_House C_Reader) (A0 : CallOk P w K mg base 2 "room_by_day" ["house", "applicants"] sp0) {sp : Sp} (len : ∀ vs H Q E, sp vs H Q E → vs.length = 2)
    (pure : ∀ vs H Q E, sp vs H Q E → t_is_crowd K C_Giving C_House C_Reader sp0 { nx := fun _ H' => Q .non H', rt := Q } (start ["house", "applicants"] vs) H) : FnOk P w K mg base CX0 3 f fd ["house", "applicants"] sp := by
  obtain ⟨f0, fd0, g0, k0, b0, G0⟩ := A0.ex
  refine F.ok sc_is_crowd len (fun cdv A outer s H vs Q E hr h => ⟨t_is_crowd K C_Giving C_House C_Reader sp0, ?_, pure vs H Q E h⟩)
  exact (pss_one (ps_ret (pe_cmpR op_gt (pe_callB call_len_seq (by rfl) T.b_len PySem.boot_len (pa_cons (pv 1) pa_nil)) (pe_callB (cr_sum rfl) (by rfl) T.b_sum (by decide +kernel) (pa_cons (pe_call G0 (hr.mono (by decide)) (by rfl) g0 k0 b0 .nil pass0 (pa_cons (pv 0) (pa_cons (pv 1) pa_nil))) pa_nil)) (nomark _))))

/-! ### with_one_more: level 1; slots 0 parts 1 applicants 2 longer 3 part 4 applicant -/
abbrev s_with_one_more : Stmt := top 4
theorem sc_with_one_more : FnScope ["parts", "applicants", "longer", "part", "applicant"] ["parts", "applicants"] (defScope s_with_one_more) := ⟨rfl, rfl, rfl, by decide +kernel, rfl, by decide +kernel, by decide +kernel⟩
def t_with_one_more (K : PySem.W.Frag) (C_Giving C_House C_Reader : Addr) : TS :=
    (tSeq (tAsg (tLst tNil) (gName 2))
    (tSeq (tFor (iList K (tVar 0)) (gName 3) (tFor (iList K (tVar 1)) (gName 4) (tIfS (tOr (tTest (tOp (rEqD K) (tVar 3) (tLst tNil))) (tTest (tOp rGtI (tVar 4) (tOp (rIxL K) (tVar 3) (tUn (rU fun i => .int (-i)) (tC (.int 1))))))) (tDrop (tBM K "list" rAppend (tVar 2) (tCons (tOp rCat (tVar 3) (tLst (tCons (tVar 4) tNil))) tNil))) tNext)))
    (tRet (tVar 2))))
theorem ok_with_one_more {f : Addr} {fd : FuncData}  (F : Fun K "with_one_more" "with_one_more" s_with_one_more f fd) (T : Txt K mg C_Giving C_House C_Reader) {sp : Sp} (len : ∀ vs H Q E, sp vs H Q E → vs.length = 2)
    (pure : ∀ vs H Q E, sp vs H Q E → t_with_one_more K C_Giving C_House C_Reader { nx := fun _ H' => Q .non H', rt := Q } (start ["parts", "applicants", "longer", "part", "applicant"] vs) H) : FnOk P w K mg base CX0 1 f fd ["parts", "applicants"] sp := by
  refine F.ok sc_with_one_more len (fun cdv A outer s H vs Q E hr h => ⟨t_with_one_more K C_Giving C_House C_Reader, ?_, pure vs H Q E h⟩)
  exact (pss_cons (ps_set (i := 2) sc_with_one_more.nd rfl (Or.inl rfl) (pe_lst pa_nil))
      (pss_cons (ps_for PassesOwn.never rfl (pi_list (pv 0)) (pg_name (i := 3) sc_with_one_more.nd rfl (Or.inl rfl)) (pss_one (ps_for PassesOwn.never rfl (pi_list (pv 1)) (pg_name (i := 4) sc_with_one_more.nd rfl (Or.inl rfl)) (pss_one (ps_if (PW.pt (pw_or (pt_cmpR (op_eqD hr.units) (pv 3) (pe_lst pa_nil) (nomark _)) (pw_or1 (pt_cmpR op_gt (pv 4) (pe_ix ix_list (pv 3) (pe_un un_neg pe_int) (fun _ _ => rfl)) (nomark _))))) (pss_one (ps_expr (pe_bm PySem.F.plainAttrs_list PySem.F.slot_list_append PySem.F.type_list_append mt_append (pv 2) (pa_cons (pe_op op_cat (pv 3) (pe_lst (pa_cons (pv 4) pa_nil))) pa_nil)))) pss_nil)))))
      (pss_one (ps_ret (pv 2)))))

/-! ### told_crowd: level 4; slots 0 house 1 applicants 2 rising 3 parts 4 part -/
abbrev s_told_crowd : Stmt := top 5
theorem sc_told_crowd : FnScope ["house", "applicants", "rising", "parts", "part"] ["house", "applicants"] (defScope s_told_crowd) := ⟨rfl, rfl, rfl, by decide +kernel, rfl, by decide +kernel, by decide +kernel⟩
def t_told_crowd (K : PySem.W.Frag) (C_Giving C_House C_Reader : Addr) (sp0 sp1 : Sp) : TS :=
    (tSeq (tAsg (tCB (rSorted K) (tCons (tVar 1) tNil)) (gName 2))
    (tSeq (tAsg (tLst (tCons (tLst tNil) tNil)) (gName 3))
    (tSeq (tWhile (tTest (tOp rGtI (tCB (rLen K) (tCons (tVar 3) tNil)) (tC (.int 0)))) (tSeq (tFor (iList K (tVar 3)) (gName 4) (tIfS (tB (tCall sp0 [] E0 (tCons (tVar 0) (tCons (tVar 4) tNil)))) (tRet (tVar 4)) tNext))
    (tAsg (tCall sp1 [] E0 (tCons (tVar 3) (tCons (tVar 2) tNil))) (gName 3))))
    (tRet (tC .non)))))
theorem ok_told_crowd {f : Addr} {fd : FuncData} {sp0 sp1 : Sp} (F : Fun K "told_crowd" "told_crowd" s_told_crowd f fd) (T : Txt K mg C_Giving C_House C_Reader) (A0 : CallOk P w K mg base 3 "is_crowd" ["house", "applicants"] sp0) (A1 : CallOk P w K mg base 1 "with_one_more" ["parts", "applicants"] sp1) {sp : Sp} (len : ∀ vs H Q E, sp vs H Q E → vs.length = 2)
    (pure : ∀ vs H Q E, sp vs H Q E → t_told_crowd K C_Giving C_House C_Reader sp0 sp1 { nx := fun _ H' => Q .non H', rt := Q } (start ["house", "applicants", "rising", "parts", "part"] vs) H) : FnOk P w K mg base CX0 4 f fd ["house", "applicants"] sp := by
  obtain ⟨f0, fd0, g0, k0, b0, G0⟩ := A0.ex
  obtain ⟨f1, fd1, g1, k1, b1, G1⟩ := A1.ex
  refine F.ok sc_told_crowd len (fun cdv A outer s H vs Q E hr h => ⟨t_told_crowd K C_Giving C_House C_Reader sp0 sp1, ?_, pure vs H Q E h⟩)
  exact (pss_cons (ps_set (i := 2) sc_told_crowd.nd rfl (Or.inl rfl) (pe_callB cr_sorted (by rfl) T.b_sorted (by decide +kernel) (pa_cons (pv 1) pa_nil)))
      (pss_cons (ps_set (i := 3) sc_told_crowd.nd rfl (Or.inl rfl) (pe_lst (pa_cons (pe_lst pa_nil) pa_nil)))
      (pss_cons (ps_while PassesOwn.never (pt_cmpR op_gt (pe_callB call_len_seq (by rfl) T.b_len PySem.boot_len (pa_cons (pv 3) pa_nil)) pe_int (nomark _)) (pss_cons (ps_for PassesOwn.never rfl (pi_list (pv 3)) (pg_name (i := 4) sc_told_crowd.nd rfl (Or.inl rfl)) (pss_one (ps_if (pt_val (pe_call G0 (hr.mono (by decide)) (by rfl) g0 k0 b0 .nil pass0 (pa_cons (pv 0) (pa_cons (pv 4) pa_nil)))) (pss_one (ps_ret (pv 4))) pss_nil)))
      (pss_one (ps_set (i := 3) sc_told_crowd.nd rfl (Or.inl rfl) (pe_call G1 (hr.mono (by decide)) (by rfl) g1 k1 b1 .nil pass0 (pa_cons (pv 3) (pa_cons (pv 2) pa_nil)))))))
      (pss_one (ps_ret pe_non)))))

/-! ### is_within: level 1; slots 0 number 1 least 2 greatest -/
abbrev s_is_within : Stmt := top 21
theorem sc_is_within : FnScope ["number", "least", "greatest"] ["number", "least", "greatest"] (defScope s_is_within) := ⟨rfl, rfl, rfl, by decide +kernel, rfl, by decide +kernel, by decide +kernel⟩
def t_is_within (K : PySem.W.Frag) (C_Giving C_House C_Reader : Addr) : TS :=
    (tRet (tChain rLeI rLeI (tVar 1) (tVar 0) (tVar 2)))
theorem ok_is_within {f : Addr} {fd : FuncData}  (F : Fun K "is_within" "is_within" s_is_within f fd) (T : Txt K mg C_Giving C_House C_Reader) {sp : Sp} (len : ∀ vs H Q E, sp vs H Q E → vs.length = 3)
    (pure : ∀ vs H Q E, sp vs H Q E → t_is_within K C_Giving C_House C_Reader { nx := fun _ H' => Q .non H', rt := Q } (start ["number", "least", "greatest"] vs) H) : FnOk P w K mg base CX0 1 f fd ["number", "least", "greatest"] sp := by
  refine F.ok sc_is_within len (fun cdv A outer s H vs Q E hr h => ⟨t_is_within K C_Giving C_House C_Reader, ?_, pure vs H Q E h⟩)
  exact (pss_one (ps_ret (pe_chain op_le op_le (pv 1) (pv 0) (pv 2))))

/-! ### is_day: level 2; slots 0 number -/
abbrev s_is_day : Stmt := top 22
theorem sc_is_day : FnScope ["number"] ["number"] (defScope s_is_day) := ⟨rfl, rfl, rfl, by decide +kernel, rfl, by decide +kernel, by decide +kernel⟩
def t_is_day (K : PySem.W.Frag) (C_Giving C_House C_Reader : Addr) (sp0 : Sp) : TS :=
    (tRet (tCall sp0 [] E0 (tCons (tVar 0) (tCons (tC (.int 0)) (tCons (tOp rMinus (tC (.int (8))) (tC (.int 1))) tNil)))))
theorem ok_is_day {f : Addr} {fd : FuncData} {sp0 : Sp} (F : Fun K "is_day" "is_day" s_is_day f fd) (T : Txt K mg C_Giving C_House C_Reader) (A0 : CallOk P w K mg base 1 "is_within" ["number", "least", "greatest"] sp0) {sp : Sp} (len : ∀ vs H Q E, sp vs H Q E → vs.length = 1)
    (pure : ∀ vs H Q E, sp vs H Q E → t_is_day K C_Giving C_House C_Reader sp0 { nx := fun _ H' => Q .non H', rt := Q } (start ["number"] vs) H) : FnOk P w K mg base CX0 2 f fd ["number"] sp := by
  obtain ⟨f0, fd0, g0, k0, b0, G0⟩ := A0.ex
  refine F.ok sc_is_day len (fun cdv A outer s H vs Q E hr h => ⟨t_is_day K C_Giving C_House C_Reader sp0, ?_, pure vs H Q E h⟩)
  exact (pss_one (ps_ret (pe_call G0 (hr.mono (by decide)) (by rfl) g0 k0 b0 .nil pass0 (pa_cons (pv 0) (pa_cons pe_int (pa_cons (pe_op op_sub (pe_const (by rfl) T.c_MOST_DAYS) pe_int) pa_nil))))))

/-! ### is_kind: level 2; slots 0 number -/
abbrev s_is_kind : Stmt := top 23
theorem sc_is_kind : FnScope ["number"] ["number"] (defScope s_is_kind) := ⟨rfl, rfl, rfl, by decide +kernel, rfl, by decide +kernel, by decide +kernel⟩
def t_is_kind (K : PySem.W.Frag) (C_Giving C_House C_Reader : Addr) (sp0 : Sp) : TS :=
    (tRet (tCall sp0 [] E0 (tCons (tVar 0) (tCons (tC (.int 0)) (tCons (tOp rMinus (tC (.int (4))) (tC (.int 1))) tNil)))))
theorem ok_is_kind {f : Addr} {fd : FuncData} {sp0 : Sp} (F : Fun K "is_kind" "is_kind" s_is_kind f fd) (T : Txt K mg C_Giving C_House C_Reader) (A0 : CallOk P w K mg base 1 "is_within" ["number", "least", "greatest"] sp0) {sp : Sp} (len : ∀ vs H Q E, sp vs H Q E → vs.length = 1)
    (pure : ∀ vs H Q E, sp vs H Q E → t_is_kind K C_Giving C_House C_Reader sp0 { nx := fun _ H' => Q .non H', rt := Q } (start ["number"] vs) H) : FnOk P w K mg base CX0 2 f fd ["number"] sp := by
  obtain ⟨f0, fd0, g0, k0, b0, G0⟩ := A0.ex
  refine F.ok sc_is_kind len (fun cdv A outer s H vs Q E hr h => ⟨t_is_kind K C_Giving C_House C_Reader sp0, ?_, pure vs H Q E h⟩)
  exact (pss_one (ps_ret (pe_call G0 (hr.mono (by decide)) (by rfl) g0 k0 b0 .nil pass0 (pa_cons (pv 0) (pa_cons pe_int (pa_cons (pe_op op_sub (pe_const (by rfl) T.c_KINDS) pe_int) pa_nil))))))

/-! ### is_applicant: level 2; slots 0 number -/
abbrev s_is_applicant : Stmt := top 24
theorem sc_is_applicant : FnScope ["number"] ["number"] (defScope s_is_applicant) := ⟨rfl, rfl, rfl, by decide +kernel, rfl, by decide +kernel, by decide +kernel⟩
def t_is_applicant (K : PySem.W.Frag) (C_Giving C_House C_Reader : Addr) (sp0 : Sp) : TS :=
    (tRet (tCall sp0 [] E0 (tCons (tVar 0) (tCons (tC (.int 0)) (tCons (tOp rMinus (tC (.int (20))) (tC (.int 1))) tNil)))))
theorem ok_is_applicant {f : Addr} {fd : FuncData} {sp0 : Sp} (F : Fun K "is_applicant" "is_applicant" s_is_applicant f fd) (T : Txt K mg C_Giving C_House C_Reader) (A0 : CallOk P w K mg base 1 "is_within" ["number", "least", "greatest"] sp0) {sp : Sp} (len : ∀ vs H Q E, sp vs H Q E → vs.length = 1)
    (pure : ∀ vs H Q E, sp vs H Q E → t_is_applicant K C_Giving C_House C_Reader sp0 { nx := fun _ H' => Q .non H', rt := Q } (start ["number"] vs) H) : FnOk P w K mg base CX0 2 f fd ["number"] sp := by
  obtain ⟨f0, fd0, g0, k0, b0, G0⟩ := A0.ex
  refine F.ok sc_is_applicant len (fun cdv A outer s H vs Q E hr h => ⟨t_is_applicant K C_Giving C_House C_Reader sp0, ?_, pure vs H Q E h⟩)
  exact (pss_one (ps_ret (pe_call G0 (hr.mono (by decide)) (by rfl) g0 k0 b0 .nil pass0 (pa_cons (pv 0) (pa_cons pe_int (pa_cons (pe_op op_sub (pe_const (by rfl) T.c_MOST_APPLIED) pe_int) pa_nil))))))

/-! ### is_rising: level 1; slots 0 numbers 1 place -/
abbrev s_is_rising : Stmt := top 25
theorem sc_is_rising : FnScope ["numbers", "place"] ["numbers"] (defScope s_is_rising) := ⟨rfl, rfl, rfl, by decide +kernel, rfl, by decide +kernel, by decide +kernel⟩
def t_is_rising (K : PySem.W.Frag) (C_Giving C_House C_Reader : Addr) : TS :=
    (tSeq (tFor (iRng2 (tCons (tC (.int 1)) (tCons (tCB (rLen K) (tCons (tVar 0) tNil)) tNil))) (gName 1) (tIfS (tTest (tOp rGeI (tOp (rIxL K) (tVar 0) (tOp rMinus (tVar 1) (tC (.int 1)))) (tOp (rIxL K) (tVar 0) (tVar 1)))) (tRet (tC (.bl false))) tNext))
    (tRet (tC (.bl true))))
theorem ok_is_rising {f : Addr} {fd : FuncData}  (F : Fun K "is_rising" "is_rising" s_is_rising f fd) (T : Txt K mg C_Giving C_House C_Reader) {sp : Sp} (len : ∀ vs H Q E, sp vs H Q E → vs.length = 1)
    (pure : ∀ vs H Q E, sp vs H Q E → t_is_rising K C_Giving C_House C_Reader { nx := fun _ H' => Q .non H', rt := Q } (start ["numbers", "place"] vs) H) : FnOk P w K mg base CX0 1 f fd ["numbers"] sp := by
  refine F.ok sc_is_rising len (fun cdv A outer s H vs Q E hr h => ⟨t_is_rising K C_Giving C_House C_Reader, ?_, pure vs H Q E h⟩)
  exact (pss_cons (ps_for PassesOwn.never rfl (pi_range2 (by rfl) T.b_range (pa_cons pe_int (pa_cons (pe_callB call_len_seq (by rfl) T.b_len PySem.boot_len (pa_cons (pv 0) pa_nil)) pa_nil))) (pg_name (i := 1) sc_is_rising.nd rfl (Or.inl rfl)) (pss_one (ps_if (pt_cmpR op_ge (pe_ix ix_list (pv 0) (pe_op op_sub (pv 1) pe_int) (fun _ _ => rfl)) (pe_ix ix_list (pv 0) (pv 1) (fun _ _ => rfl)) (nomark _)) (pss_one (ps_ret pe_bl)) pss_nil)))
      (pss_one (ps_ret pe_bl)))

/-! ### Giving.__init__: level 1; slots 0 self 1 house 2 wishes -/
abbrev s_Giving_init : Stmt := inClass (top 27) 0
theorem sc_Giving_init : FnScope ["self", "house", "wishes"] ["self", "house", "wishes"] (defScope s_Giving_init) := ⟨rfl, rfl, rfl, by decide +kernel, rfl, by decide +kernel, by decide +kernel⟩
def t_Giving_init (K : PySem.W.Frag) (C_Giving C_House C_Reader : Addr) : TS :=
    (tSeq (sFld K (tVar 0) (tVar 1) "house")
    (tSeq (sFld K (tVar 0) (tVar 2) "wishes")
    (sFld K (tVar 0) tDNewK "day_of")))
theorem ok_Giving_init {f : Addr} {fd : FuncData}  (F : Fun K "__init__" "Giving.__init__" s_Giving_init f fd) (T : Txt K mg C_Giving C_House C_Reader) {sp : Sp} (len : ∀ vs H Q E, sp vs H Q E → vs.length = 3)
    (pure : ∀ vs H Q E, sp vs H Q E → t_Giving_init K C_Giving C_House C_Reader { nx := fun _ H' => Q .non H', rt := Q } (start ["self", "house", "wishes"] vs) H) : FnOk P w K mg base CX0 1 f fd ["self", "house", "wishes"] sp := by
  refine F.ok sc_Giving_init len (fun cdv A outer s H vs Q E hr h => ⟨t_Giving_init K C_Giving C_House C_Reader, ?_, pure vs H Q E h⟩)
  exact (pss_cons (ps_fld (pv 0) (pv 1) rfl)
      (pss_cons (ps_fld (pv 0) (pv 2) rfl)
      (pss_one (ps_fld (pv 0) pe_dnewK rfl))))

/-! ### Giving.on_day: level 1; slots 0 self 1 day 2 applicant -/
abbrev s_Giving_on_day : Stmt := inClass (top 27) 1
theorem sc_Giving_on_day : FnScope ["self", "day", "applicant"] ["self", "day"] (defScope s_Giving_on_day) := ⟨rfl, rfl, rfl, by decide +kernel, rfl, by decide +kernel, by decide +kernel⟩
def t_Giving_on_day (K : PySem.W.Frag) (C_Giving C_House C_Reader : Addr) : TS :=
    (tRet (tLockE (tLc (iKeys (tFld K (tVar 0) "day_of")) (gName 2) (tTest (tOp rEq (tDGet (tFld K (tVar 0) "day_of") (tVar 2)) (tVar 1))) (tVar 2) [2])))
theorem ok_Giving_on_day {f : Addr} {fd : FuncData}  (F : Fun K "on_day" "Giving.on_day" s_Giving_on_day f fd) (T : Txt K mg C_Giving C_House C_Reader) {sp : Sp} (len : ∀ vs H Q E, sp vs H Q E → vs.length = 2)
    (pure : ∀ vs H Q E, sp vs H Q E → t_Giving_on_day K C_Giving C_House C_Reader { nx := fun _ H' => Q .non H', rt := Q } (start ["self", "day", "applicant"] vs) H) : FnOk P w K mg base CX0 1 f fd ["self", "day"] sp := by
  refine F.ok sc_Giving_on_day len (fun cdv A outer s H vs Q E hr h => ⟨t_Giving_on_day K C_Giving C_House C_Reader, ?_, pure vs H Q E h⟩)
  have hu := hu_of hr
  exact (pss_one (ps_ret (pe_lock (pe_lc (own := [("applicant", 2)]) (g := gName 2) (tt := (tTest (tOp rEq (tDGet (tFld K (tVar 0) "day_of") (tVar 2)) (tVar 1)))) (te := (tVar 2)) rfl sc_Giving_on_day.nd (pi_keys (pe_fld (pv 0) rfl)) (blkOk_by (N := ["self", "day", "applicant"]) (sc := defScope s_Giving_on_day) (by decide +kernel)) (fun _ _ _ _ _ => pg_name (i := 2) sc_Giving_on_day.nd rfl (Or.inl rfl)) (fun _ _ _ _ _ => (pts_one (pt_cmpR op_eq (pe_dget hu (pe_fld (pv 0) rfl) (pv 2) (fun _ _ => rfl)) (pv 1) (nomark _)))) (fun _ _ _ _ _ => (pv 2))))))

/-! ### Giving.alike_on_day: level 2; slots 0 self 1 applicant 2 day 3 kind_of 4 other -/
abbrev s_Giving_alike_on_day : Stmt := inClass (top 27) 2
theorem sc_Giving_alike_on_day : FnScope ["self", "applicant", "day", "kind_of", "other"] ["self", "applicant", "day"] (defScope s_Giving_alike_on_day) := ⟨rfl, rfl, rfl, by decide +kernel, rfl, by decide +kernel, by decide +kernel⟩
def t_Giving_alike_on_day (K : PySem.W.Frag) (C_Giving C_House C_Reader : Addr) (sp0 : Sp) : TS :=
    (tSeq (tAsg (tFld K (tFld K (tVar 0) "house") "kind_of") (gName 3))
    (tRet (tLc (iList K (tMeth C_Giving "on_day" sp0 [] E0 (tVar 0) (tCons (tVar 2) tNil))) (gName 4) (tTest (tOp rEq (tOp (rIxL K) (tVar 3) (tVar 4)) (tOp (rIxL K) (tVar 3) (tVar 1)))) (tVar 4) [4])))
theorem ok_Giving_alike_on_day {f : Addr} {fd : FuncData} {sp0 : Sp} (F : Fun K "alike_on_day" "Giving.alike_on_day" s_Giving_alike_on_day f fd) (T : Txt K mg C_Giving C_House C_Reader) (A0 : MethOk P w K mg base 1 C_Giving "on_day" ["self", "day"] sp0) {sp : Sp} (len : ∀ vs H Q E, sp vs H Q E → vs.length = 3)
    (pure : ∀ vs H Q E, sp vs H Q E → t_Giving_alike_on_day K C_Giving C_House C_Reader sp0 { nx := fun _ H' => Q .non H', rt := Q } (start ["self", "applicant", "day", "kind_of", "other"] vs) H) : FnOk P w K mg base CX0 2 f fd ["self", "applicant", "day"] sp := by
  obtain ⟨f0, fd0, m0, b0, G0⟩ := A0.ex
  refine F.ok sc_Giving_alike_on_day len (fun cdv A outer s H vs Q E hr h => ⟨t_Giving_alike_on_day K C_Giving C_House C_Reader sp0, ?_, pure vs H Q E h⟩)
  exact (pss_cons (ps_set (i := 3) sc_Giving_alike_on_day.nd rfl (Or.inr rfl) (pe_fld (pe_fld (pv 0) rfl) rfl))
      (pss_one (ps_ret (pe_lc (own := [("other", 4)]) (g := gName 4) (tt := (tTest (tOp rEq (tOp (rIxL K) (tVar 3) (tVar 4)) (tOp (rIxL K) (tVar 3) (tVar 1))))) (te := (tVar 4)) rfl sc_Giving_alike_on_day.nd (pi_list (pe_meth (pv 0) T.cl_Giving m0 G0 (hr.mono (by decide)) b0 .nil pass0 (pa_cons (pv 2) pa_nil))) (blkOk_by (N := ["self", "applicant", "day", "kind_of", "other"]) (sc := defScope s_Giving_alike_on_day) (by decide +kernel)) (fun _ _ _ _ _ => pg_name (i := 4) sc_Giving_alike_on_day.nd rfl (Or.inl rfl)) (fun _ _ _ _ _ => (pts_one (pt_cmpR op_eq (pe_ix ix_list (pv 3) (pv 4) (fun _ _ => rfl)) (pe_ix ix_list (pv 3) (pv 1) (fun _ _ => rfl)) (nomark _)))) (fun _ _ _ _ _ => (pv 4))))))

/-! ### Giving.kind_has_room: level 3; slots 0 self 1 applicant 2 day 3 quota -/
abbrev s_Giving_kind_has_room : Stmt := inClass (top 27) 3
theorem sc_Giving_kind_has_room : FnScope ["self", "applicant", "day", "quota"] ["self", "applicant", "day"] (defScope s_Giving_kind_has_room) := ⟨rfl, rfl, rfl, by decide +kernel, rfl, by decide +kernel, by decide +kernel⟩
def t_Giving_kind_has_room (K : PySem.W.Frag) (C_Giving C_House C_Reader : Addr) (sp0 : Sp) : TS :=
    (tSeq (tAsg (tOp (rIxL K) (tOp (rIxL K) (tFld K (tFld K (tVar 0) "house") "quotas") (tVar 2)) (tOp (rIxL K) (tFld K (tFld K (tVar 0) "house") "kind_of") (tVar 1))) (gName 3))
    (tRet (tOp rLtI (tCB (rLen K) (tCons (tMeth C_Giving "alike_on_day" sp0 [] E0 (tVar 0) (tCons (tVar 1) (tCons (tVar 2) tNil))) tNil)) (tVar 3))))
theorem ok_Giving_kind_has_room {f : Addr} {fd : FuncData} {sp0 : Sp} (F : Fun K "kind_has_room" "Giving.kind_has_room" s_Giving_kind_has_room f fd) (T : Txt K mg C_Giving C_House C_Reader) (A0 : MethOk P w K mg base 2 C_Giving "alike_on_day" ["self", "applicant", "day"] sp0) {sp : Sp} (len : ∀ vs H Q E, sp vs H Q E → vs.length = 3)
    (pure : ∀ vs H Q E, sp vs H Q E → t_Giving_kind_has_room K C_Giving C_House C_Reader sp0 { nx := fun _ H' => Q .non H', rt := Q } (start ["self", "applicant", "day", "quota"] vs) H) : FnOk P w K mg base CX0 3 f fd ["self", "applicant", "day"] sp := by
  obtain ⟨f0, fd0, m0, b0, G0⟩ := A0.ex
  refine F.ok sc_Giving_kind_has_room len (fun cdv A outer s H vs Q E hr h => ⟨t_Giving_kind_has_room K C_Giving C_House C_Reader sp0, ?_, pure vs H Q E h⟩)
  exact (pss_cons (ps_set (i := 3) sc_Giving_kind_has_room.nd rfl (Or.inl rfl) (pe_ix ix_list (pe_ix ix_list (pe_fld (pe_fld (pv 0) rfl) rfl) (pv 2) (fun _ _ => rfl)) (pe_ix ix_list (pe_fld (pe_fld (pv 0) rfl) rfl) (pv 1) (fun _ _ => rfl)) (fun _ _ => rfl)))
      (pss_one (ps_ret (pe_cmpR op_lt (pe_callB call_len_seq (by rfl) T.b_len PySem.boot_len (pa_cons (pe_meth (pv 0) T.cl_Giving m0 G0 (hr.mono (by decide)) b0 .nil pass0 (pa_cons (pv 1) (pa_cons (pv 2) pa_nil))) pa_nil)) (pv 3) (nomark _)))))

/-! ### Giving.has_room: level 4; slots 0 self 1 applicant 2 day -/
abbrev s_Giving_has_room : Stmt := inClass (top 27) 4
theorem sc_Giving_has_room : FnScope ["self", "applicant", "day"] ["self", "applicant", "day"] (defScope s_Giving_has_room) := ⟨rfl, rfl, rfl, by decide +kernel, rfl, by decide +kernel, by decide +kernel⟩
def t_Giving_has_room (K : PySem.W.Frag) (C_Giving C_House C_Reader : Addr) (sp0 sp1 : Sp) : TS :=
    (tRet (tAndV (tMeth C_Giving "kind_has_room" sp1 [] E0 (tVar 0) (tCons (tVar 1) (tCons (tVar 2) tNil))) (tOp rLtI (tCB (rLen K) (tCons (tMeth C_Giving "on_day" sp0 [] E0 (tVar 0) (tCons (tVar 2) tNil)) tNil)) (tOp (rIxL K) (tFld K (tFld K (tVar 0) "house") "places") (tVar 2)))))
theorem ok_Giving_has_room {f : Addr} {fd : FuncData} {sp0 sp1 : Sp} (F : Fun K "has_room" "Giving.has_room" s_Giving_has_room f fd) (T : Txt K mg C_Giving C_House C_Reader) (A0 : MethOk P w K mg base 1 C_Giving "on_day" ["self", "day"] sp0) (A1 : MethOk P w K mg base 3 C_Giving "kind_has_room" ["self", "applicant", "day"] sp1) {sp : Sp} (len : ∀ vs H Q E, sp vs H Q E → vs.length = 3)
    (pure : ∀ vs H Q E, sp vs H Q E → t_Giving_has_room K C_Giving C_House C_Reader sp0 sp1 { nx := fun _ H' => Q .non H', rt := Q } (start ["self", "applicant", "day"] vs) H) : FnOk P w K mg base CX0 4 f fd ["self", "applicant", "day"] sp := by
  obtain ⟨f0, fd0, m0, b0, G0⟩ := A0.ex
  obtain ⟨f1, fd1, m1, b1, G1⟩ := A1.ex
  refine F.ok sc_Giving_has_room len (fun cdv A outer s H vs Q E hr h => ⟨t_Giving_has_room K C_Giving C_House C_Reader sp0 sp1, ?_, pure vs H Q E h⟩)
  exact (pss_one (ps_ret (pe_and (pe_meth (pv 0) T.cl_Giving m1 G1 (hr.mono (by decide)) b1 .nil pass0 (pa_cons (pv 1) (pa_cons (pv 2) pa_nil))) (pe_one (pe_cmpR op_lt (pe_callB call_len_seq (by rfl) T.b_len PySem.boot_len (pa_cons (pe_meth (pv 0) T.cl_Giving m0 G0 (hr.mono (by decide)) b0 .nil pass0 (pa_cons (pv 2) pa_nil)) pa_nil)) (pe_ix ix_list (pe_fld (pe_fld (pv 0) rfl) rfl) (pv 2) (fun _ _ => rfl)) (nomark _))))))

/-! ### Giving.in_the_way: level 4; slots 0 self 1 applicant 2 day -/
abbrev s_Giving_in_the_way : Stmt := inClass (top 27) 5
theorem sc_Giving_in_the_way : FnScope ["self", "applicant", "day"] ["self", "applicant", "day"] (defScope s_Giving_in_the_way) := ⟨rfl, rfl, rfl, by decide +kernel, rfl, by decide +kernel, by decide +kernel⟩
def t_Giving_in_the_way (K : PySem.W.Frag) (C_Giving C_House C_Reader : Addr) (sp0 sp1 sp2 : Sp) : TS :=
    (tSeq (tIfS (tB (tMeth C_Giving "kind_has_room" sp0 [] E0 (tVar 0) (tCons (tVar 1) (tCons (tVar 2) tNil)))) (tRet (tMeth C_Giving "on_day" sp1 [] E0 (tVar 0) (tCons (tVar 2) tNil))) tNext)
    (tRet (tMeth C_Giving "alike_on_day" sp2 [] E0 (tVar 0) (tCons (tVar 1) (tCons (tVar 2) tNil)))))
theorem ok_Giving_in_the_way {f : Addr} {fd : FuncData} {sp0 sp1 sp2 : Sp} (F : Fun K "in_the_way" "Giving.in_the_way" s_Giving_in_the_way f fd) (T : Txt K mg C_Giving C_House C_Reader) (A0 : MethOk P w K mg base 3 C_Giving "kind_has_room" ["self", "applicant", "day"] sp0) (A1 : MethOk P w K mg base 1 C_Giving "on_day" ["self", "day"] sp1) (A2 : MethOk P w K mg base 2 C_Giving "alike_on_day" ["self", "applicant", "day"] sp2) {sp : Sp} (len : ∀ vs H Q E, sp vs H Q E → vs.length = 3)
    (pure : ∀ vs H Q E, sp vs H Q E → t_Giving_in_the_way K C_Giving C_House C_Reader sp0 sp1 sp2 { nx := fun _ H' => Q .non H', rt := Q } (start ["self", "applicant", "day"] vs) H) : FnOk P w K mg base CX0 4 f fd ["self", "applicant", "day"] sp := by
  obtain ⟨f0, fd0, m0, b0, G0⟩ := A0.ex
  obtain ⟨f1, fd1, m1, b1, G1⟩ := A1.ex
  obtain ⟨f2, fd2, m2, b2, G2⟩ := A2.ex
  refine F.ok sc_Giving_in_the_way len (fun cdv A outer s H vs Q E hr h => ⟨t_Giving_in_the_way K C_Giving C_House C_Reader sp0 sp1 sp2, ?_, pure vs H Q E h⟩)
  exact (pss_cons (ps_if (pt_val (pe_meth (pv 0) T.cl_Giving m0 G0 (hr.mono (by decide)) b0 .nil pass0 (pa_cons (pv 1) (pa_cons (pv 2) pa_nil)))) (pss_one (ps_ret (pe_meth (pv 0) T.cl_Giving m1 G1 (hr.mono (by decide)) b1 .nil pass0 (pa_cons (pv 2) pa_nil)))) pss_nil)
      (pss_one (ps_ret (pe_meth (pv 0) T.cl_Giving m2 G2 (hr.mono (by decide)) b2 .nil pass0 (pa_cons (pv 1) (pa_cons (pv 2) pa_nil))))))

/-! ### Giving.move_chain: level 1; slots 0 self 1 mover 2 day 3 asked_by 4 left -/
abbrev s_Giving_move_chain : Stmt := inClass (top 27) 7
theorem sc_Giving_move_chain : FnScope ["self", "mover", "day", "asked_by", "left"] ["self", "mover", "day", "asked_by"] (defScope s_Giving_move_chain) := ⟨rfl, rfl, rfl, by decide +kernel, rfl, by decide +kernel, by decide +kernel⟩
def t_Giving_move_chain (K : PySem.W.Frag) (C_Giving C_House C_Reader : Addr) : TS :=
    (tWhile (tB (tNotN (tVar 1))) (tSeq (tAsg (tDGet1 (tFld K (tVar 0) "day_of") (tVar 1)) (gName 4))
    (tSeq (sDPut (tFld K (tVar 0) "day_of") (tVar 1) (tVar 2))
    (tSeq (tAsg (tVar 4) (gName 2))
    (tAsg (tDGet (tVar 3) (tVar 1)) (gName 1))))))
theorem ok_Giving_move_chain {f : Addr} {fd : FuncData}  (F : Fun K "move_chain" "Giving.move_chain" s_Giving_move_chain f fd) (T : Txt K mg C_Giving C_House C_Reader) {sp : Sp} (len : ∀ vs H Q E, sp vs H Q E → vs.length = 4)
    (pure : ∀ vs H Q E, sp vs H Q E → t_Giving_move_chain K C_Giving C_House C_Reader { nx := fun _ H' => Q .non H', rt := Q } (start ["self", "mover", "day", "asked_by", "left"] vs) H) : FnOk P w K mg base CX0 1 f fd ["self", "mover", "day", "asked_by"] sp := by
  refine F.ok sc_Giving_move_chain len (fun cdv A outer s H vs Q E hr h => ⟨t_Giving_move_chain K C_Giving C_House C_Reader, ?_, pure vs H Q E h⟩)
  have hu := hu_of hr
  exact (pss_one (ps_while PassesOwn.never (pt_cmp (pc_notN (pv 1))) (pss_cons (ps_set (i := 4) sc_Giving_move_chain.nd rfl (Or.inl rfl) (pe_dget1 hu (pe_fld (pv 0) rfl) (pv 1) ⟨rfl, rfl, rfl, rfl⟩))
      (pss_cons (ps_dput hu (pe_fld (pv 0) rfl) (pv 1) (pv 2) rfl)
      (pss_cons (ps_set (i := 2) sc_Giving_move_chain.nd rfl (Or.inl rfl) (pv 4))
      (pss_one (ps_set (i := 1) sc_Giving_move_chain.nd rfl (Or.inl rfl) (pe_dget hu (pv 3) (pv 1) (fun _ _ => rfl)))))))))

/-! ### Giving.take_in: level 5; slots 0 self 1 applicant 2 asked_by 3 asked 4 at 5 mover 6 day 7 other -/
abbrev s_Giving_take_in : Stmt := inClass (top 27) 6
theorem sc_Giving_take_in : FnScope ["self", "applicant", "asked_by", "asked", "at", "mover", "day", "other"] ["self", "applicant"] (defScope s_Giving_take_in) := ⟨rfl, rfl, rfl, by decide +kernel, rfl, by decide +kernel, by decide +kernel⟩
def t_Giving_take_in (K : PySem.W.Frag) (C_Giving C_House C_Reader : Addr) (sp0 sp1 sp2 : Sp) : TS :=
    (tSeq (tAsg (tDisp [((tVar 1), (tC .non))]) (gName 2))
    (tSeq (tAsg (tLst (tCons (tVar 1) tNil)) (gName 3))
    (tSeq (tAsg (tC (.int 0)) (gName 4))
    (tSeq (tWhile (tTest (tOp rLtI (tVar 4) (tCB (rLen K) (tCons (tVar 3) tNil)))) (tSeq (tAsg (tOp (rIxL K) (tVar 3) (tVar 4)) (gName 5))
    (tSeq (tFor (iList K (tDGet (tFld K (tVar 0) "wishes") (tVar 5))) (gName 6) (tSeq (tIfS (tB (tMeth C_Giving "has_room" sp0 [] E0 (tVar 0) (tCons (tVar 5) (tCons (tVar 6) tNil)))) (tSeq (tDrop (tMeth C_Giving "move_chain" sp1 [] E0 (tVar 0) (tCons (tVar 5) (tCons (tVar 6) (tCons (tVar 2) tNil)))))
    (tRet (tC (.bl true)))) tNext)
    (tFor (iList K (tMeth C_Giving "in_the_way" sp2 [] E0 (tVar 0) (tCons (tVar 5) (tCons (tVar 6) tNil)))) (gName 7) (tIfS (tB (tDNotIn (tVar 7) (tVar 2))) (tSeq (sDPut (tVar 2) (tVar 7) (tVar 5))
    (tDrop (tBM K "list" rAppend (tVar 3) (tCons (tVar 7) tNil)))) tNext))))
    (tAug 4 (tC (.int 1)) (ipI fun i j => i + j)))))
    (tRet (tC (.bl false)))))))
theorem ok_Giving_take_in {f : Addr} {fd : FuncData} {sp0 sp1 sp2 : Sp} (F : Fun K "take_in" "Giving.take_in" s_Giving_take_in f fd) (T : Txt K mg C_Giving C_House C_Reader) (A0 : MethOk P w K mg base 4 C_Giving "has_room" ["self", "applicant", "day"] sp0) (A1 : MethOk P w K mg base 1 C_Giving "move_chain" ["self", "mover", "day", "asked_by"] sp1) (A2 : MethOk P w K mg base 4 C_Giving "in_the_way" ["self", "applicant", "day"] sp2) {sp : Sp} (len : ∀ vs H Q E, sp vs H Q E → vs.length = 2)
    (pure : ∀ vs H Q E, sp vs H Q E → t_Giving_take_in K C_Giving C_House C_Reader sp0 sp1 sp2 { nx := fun _ H' => Q .non H', rt := Q } (start ["self", "applicant", "asked_by", "asked", "at", "mover", "day", "other"] vs) H) : FnOk P w K mg base CX0 5 f fd ["self", "applicant"] sp := by
  obtain ⟨f0, fd0, m0, b0, G0⟩ := A0.ex
  obtain ⟨f1, fd1, m1, b1, G1⟩ := A1.ex
  obtain ⟨f2, fd2, m2, b2, G2⟩ := A2.ex
  refine F.ok sc_Giving_take_in len (fun cdv A outer s H vs Q E hr h => ⟨t_Giving_take_in K C_Giving C_House C_Reader sp0 sp1 sp2, ?_, pure vs H Q E h⟩)
  have hu := hu_of hr
  exact (pss_cons (ps_set (i := 2) sc_Giving_take_in.nd rfl (Or.inl rfl) (pe_disp (pps_cons (pv 1) pe_non pps_nil) (by rfl) (by rfl) (fun z => by cases z) (by decide)))
      (pss_cons (ps_set (i := 3) sc_Giving_take_in.nd rfl (Or.inl rfl) (pe_lst (pa_cons (pv 1) pa_nil)))
      (pss_cons (ps_set (i := 4) sc_Giving_take_in.nd rfl (Or.inl rfl) pe_int)
      (pss_cons (ps_while PassesOwn.never (pt_cmpR op_lt (pv 4) (pe_callB call_len_seq (by rfl) T.b_len PySem.boot_len (pa_cons (pv 3) pa_nil)) (nomark _)) (pss_cons (ps_set (i := 5) sc_Giving_take_in.nd rfl (Or.inl rfl) (pe_ix ix_list (pv 3) (pv 4) (fun _ _ => rfl)))
      (pss_cons (ps_for PassesOwn.never rfl (pi_list (pe_dget hu (pe_fld (pv 0) rfl) (pv 5) (fun _ _ => rfl))) (pg_name (i := 6) sc_Giving_take_in.nd rfl (Or.inl rfl)) (pss_cons (ps_if (pt_val (pe_meth (pv 0) T.cl_Giving m0 G0 (hr.mono (by decide)) b0 .nil pass0 (pa_cons (pv 5) (pa_cons (pv 6) pa_nil)))) (pss_cons (ps_expr (pe_meth (pv 0) T.cl_Giving m1 G1 (hr.mono (by decide)) b1 .nil pass0 (pa_cons (pv 5) (pa_cons (pv 6) (pa_cons (pv 2) pa_nil)))))
      (pss_one (ps_ret pe_bl))) pss_nil)
      (pss_one (ps_for PassesOwn.never rfl (pi_list (pe_meth (pv 0) T.cl_Giving m2 G2 (hr.mono (by decide)) b2 .nil pass0 (pa_cons (pv 5) (pa_cons (pv 6) pa_nil)))) (pg_name (i := 7) sc_Giving_take_in.nd rfl (Or.inl rfl)) (pss_one (ps_if (pt_cmp (pc_dnotin hu (pv 7) (pv 2))) (pss_cons (ps_dput hu (pv 2) (pv 7) (pv 5) rfl)
      (pss_one (ps_expr (pe_bm PySem.F.plainAttrs_list PySem.F.slot_list_append PySem.F.type_list_append mt_append (pv 3) (pa_cons (pv 7) pa_nil))))) pss_nil))))))
      (pss_one (ps_aug (i := 4) sc_Giving_take_in.nd rfl (Or.inl rfl) pe_int ip_add)))))
      (pss_one (ps_ret pe_bl))))))

/-! ### wishes_of: level 1; slots 0 house 1 applicants 2 wishes 3 applicant -/
abbrev s_wishes_of : Stmt := top 28
theorem sc_wishes_of : FnScope ["house", "applicants", "wishes", "applicant"] ["house", "applicants"] (defScope s_wishes_of) := ⟨rfl, rfl, rfl, by decide +kernel, rfl, by decide +kernel, by decide +kernel⟩
def t_wishes_of (K : PySem.W.Frag) (C_Giving C_House C_Reader : Addr) : TS :=
    (tSeq (tAsg tDNewK (gName 2))
    (tSeq (tFor (iList K (tVar 1)) (gName 3) (sDPut (tVar 2) (tVar 3) (tOp (rIxL K) (tFld K (tVar 0) "days_of") (tVar 3))))
    (tRet (tVar 2))))
theorem ok_wishes_of {f : Addr} {fd : FuncData}  (F : Fun K "wishes_of" "wishes_of" s_wishes_of f fd) (T : Txt K mg C_Giving C_House C_Reader) {sp : Sp} (len : ∀ vs H Q E, sp vs H Q E → vs.length = 2)
    (pure : ∀ vs H Q E, sp vs H Q E → t_wishes_of K C_Giving C_House C_Reader { nx := fun _ H' => Q .non H', rt := Q } (start ["house", "applicants", "wishes", "applicant"] vs) H) : FnOk P w K mg base CX0 1 f fd ["house", "applicants"] sp := by
  refine F.ok sc_wishes_of len (fun cdv A outer s H vs Q E hr h => ⟨t_wishes_of K C_Giving C_House C_Reader, ?_, pure vs H Q E h⟩)
  have hu := hu_of hr
  exact (pss_cons (ps_set (i := 2) sc_wishes_of.nd rfl (Or.inl rfl) pe_dnewK)
      (pss_cons (ps_for PassesOwn.never rfl (pi_list (pv 1)) (pg_name (i := 3) sc_wishes_of.nd rfl (Or.inl rfl)) (pss_one (ps_dput hu (pv 2) (pv 3) (pe_ix ix_list (pe_fld (pv 0) rfl) (pv 3) (fun _ _ => rfl)) rfl)))
      (pss_one (ps_ret (pv 2)))))

/-! ### can_be_served: level 6; slots 0 house 1 wishes 2 giving 3 applicant -/
abbrev s_can_be_served : Stmt := top 29
theorem sc_can_be_served : FnScope ["house", "wishes", "giving", "applicant"] ["house", "wishes"] (defScope s_can_be_served) := ⟨rfl, rfl, rfl, by decide +kernel, rfl, by decide +kernel, by decide +kernel⟩
def t_can_be_served (K : PySem.W.Frag) (C_Giving C_House C_Reader : Addr) (sp0 sp1 : Sp) : TS :=
    (tSeq (tAsg (tMake C_Giving sp0 [] E0 (tCons (tVar 0) (tCons (tVar 1) tNil))) (gName 2))
    (tSeq (tLock (tFor (iKeys (tVar 1)) (gName 3) (tIfS (tNot (tB (tMeth C_Giving "take_in" sp1 [] E0 (tVar 2) (tCons (tVar 3) tNil)))) (tRet (tC (.bl false))) tNext)))
    (tRet (tC (.bl true)))))
theorem ok_can_be_served {f : Addr} {fd : FuncData} {sp0 sp1 : Sp} (F : Fun K "can_be_served" "can_be_served" s_can_be_served f fd) (T : Txt K mg C_Giving C_House C_Reader) (A0 : MakeOk P w K mg base 1 "Giving" C_Giving ["self", "house", "wishes"] sp0) (A1 : MethOk P w K mg base 5 C_Giving "take_in" ["self", "applicant"] sp1) {sp : Sp} (len : ∀ vs H Q E, sp vs H Q E → vs.length = 2)
    (pure : ∀ vs H Q E, sp vs H Q E → t_can_be_served K C_Giving C_House C_Reader sp0 sp1 { nx := fun _ H' => Q .non H', rt := Q } (start ["house", "wishes", "giving", "applicant"] vs) H) : FnOk P w K mg base CX0 6 f fd ["house", "wishes"] sp := by
  obtain ⟨f0, fd0, m0, g0, b0, G0⟩ := A0.ex
  obtain ⟨f1, fd1, m1, b1, G1⟩ := A1.ex
  refine F.ok sc_can_be_served len (fun cdv A outer s H vs Q E hr h => ⟨t_can_be_served K C_Giving C_House C_Reader sp0 sp1, ?_, pure vs H Q E h⟩)
  exact (pss_cons (ps_set (i := 2) sc_can_be_served.nd rfl (Or.inl rfl) (pe_make m0 G0 (hr.mono (by decide)) (by rfl) g0 b0 .nil pass0 (pa_cons (pv 0) (pa_cons (pv 1) pa_nil))))
      (pss_cons (ps_lock (ps_for PassesOwn.never rfl (pi_keys (pv 1)) (pg_name (i := 3) sc_can_be_served.nd rfl (Or.inl rfl)) (pss_one (ps_if (pt_not (pt_val (pe_meth (pv 2) T.cl_Giving m1 G1 (hr.mono (by decide)) b1 .nil pass0 (pa_cons (pv 3) pa_nil)))) (pss_one (ps_ret pe_bl)) pss_nil))))
      (pss_one (ps_ret pe_bl))))

/-! ### served: level 6; slots 0 house 1 giving 2 taken 3 applicant -/
abbrev s_served : Stmt := top 30
theorem sc_served : FnScope ["house", "giving", "taken", "applicant"] ["house"] (defScope s_served) := ⟨rfl, rfl, rfl, by decide +kernel, rfl, by decide +kernel, by decide +kernel⟩
def t_served (K : PySem.W.Frag) (C_Giving C_House C_Reader : Addr) (sp0 sp1 sp2 : Sp) : TS :=
    (tSeq (tAsg (tMake C_Giving sp0 [] E0 (tCons (tVar 0) (tCons (tCall sp1 [] E0 (tCons (tVar 0) (tCons (tFld K (tVar 0) "row") tNil))) tNil))) (gName 1))
    (tSeq (tAsg (tLst tNil) (gName 2))
    (tSeq (tFor (iList K (tFld K (tVar 0) "row")) (gName 3) (tIfS (tB (tMeth C_Giving "take_in" sp2 [] E0 (tVar 1) (tCons (tVar 3) tNil))) (tDrop (tBM K "list" rAppend (tVar 2) (tCons (tVar 3) tNil))) tNext))
    (tRet (tVar 2)))))
theorem ok_served {f : Addr} {fd : FuncData} {sp0 sp1 sp2 : Sp} (F : Fun K "served" "served" s_served f fd) (T : Txt K mg C_Giving C_House C_Reader) (A0 : MakeOk P w K mg base 1 "Giving" C_Giving ["self", "house", "wishes"] sp0) (A1 : CallOk P w K mg base 1 "wishes_of" ["house", "applicants"] sp1) (A2 : MethOk P w K mg base 5 C_Giving "take_in" ["self", "applicant"] sp2) {sp : Sp} (len : ∀ vs H Q E, sp vs H Q E → vs.length = 1)
    (pure : ∀ vs H Q E, sp vs H Q E → t_served K C_Giving C_House C_Reader sp0 sp1 sp2 { nx := fun _ H' => Q .non H', rt := Q } (start ["house", "giving", "taken", "applicant"] vs) H) : FnOk P w K mg base CX0 6 f fd ["house"] sp := by
  obtain ⟨f0, fd0, m0, g0, b0, G0⟩ := A0.ex
  obtain ⟨f1, fd1, g1, k1, b1, G1⟩ := A1.ex
  obtain ⟨f2, fd2, m2, b2, G2⟩ := A2.ex
  refine F.ok sc_served len (fun cdv A outer s H vs Q E hr h => ⟨t_served K C_Giving C_House C_Reader sp0 sp1 sp2, ?_, pure vs H Q E h⟩)
  exact (pss_cons (ps_set (i := 1) sc_served.nd rfl (Or.inl rfl) (pe_make m0 G0 (hr.mono (by decide)) (by rfl) g0 b0 .nil pass0 (pa_cons (pv 0) (pa_cons (pe_call G1 (hr.mono (by decide)) (by rfl) g1 k1 b1 .nil pass0 (pa_cons (pv 0) (pa_cons (pe_fld (pv 0) rfl) pa_nil))) pa_nil))))
      (pss_cons (ps_set (i := 2) sc_served.nd rfl (Or.inl rfl) (pe_lst pa_nil))
      (pss_cons (ps_for PassesOwn.never rfl (pi_list (pe_fld (pv 0) rfl)) (pg_name (i := 3) sc_served.nd rfl (Or.inl rfl)) (pss_one (ps_if (pt_val (pe_meth (pv 1) T.cl_Giving m2 G2 (hr.mono (by decide)) b2 .nil pass0 (pa_cons (pv 3) pa_nil))) (pss_one (ps_expr (pe_bm PySem.F.plainAttrs_list PySem.F.slot_list_append PySem.F.type_list_append mt_append (pv 2) (pa_cons (pv 3) pa_nil)))) pss_nil)))
      (pss_one (ps_ret (pv 2))))))

/-! ### least_day: level 7; slots 0 house 1 wishes 2 applicant 3 day 4 narrowed -/
abbrev s_least_day : Stmt := top 31
theorem sc_least_day : FnScope ["house", "wishes", "applicant", "day", "narrowed"] ["house", "wishes", "applicant"] (defScope s_least_day) := ⟨rfl, rfl, rfl, by decide +kernel, rfl, by decide +kernel, by decide +kernel⟩
def t_least_day (K : PySem.W.Frag) (C_Giving C_House C_Reader : Addr) (sp0 : Sp) : TS :=
    (tSeq (tFor (iList K (tDGet (tVar 1) (tVar 2))) (gName 3) (tSeq (tAsg (tCB rDictD (tCons (tVar 1) tNil)) (gName 4))
    (tSeq (sDPut (tVar 4) (tVar 2) (tLst (tCons (tVar 3) tNil)))
    (tIfS (tB (tCall sp0 [] E0 (tCons (tVar 0) (tCons (tVar 4) tNil)))) (tRet (tVar 3)) tNext))))
    (tRet (tC .non)))
theorem ok_least_day {f : Addr} {fd : FuncData} {sp0 : Sp} (F : Fun K "least_day" "least_day" s_least_day f fd) (T : Txt K mg C_Giving C_House C_Reader) (A0 : CallOk P w K mg base 6 "can_be_served" ["house", "wishes"] sp0) {sp : Sp} (len : ∀ vs H Q E, sp vs H Q E → vs.length = 3)
    (pure : ∀ vs H Q E, sp vs H Q E → t_least_day K C_Giving C_House C_Reader sp0 { nx := fun _ H' => Q .non H', rt := Q } (start ["house", "wishes", "applicant", "day", "narrowed"] vs) H) : FnOk P w K mg base CX0 7 f fd ["house", "wishes", "applicant"] sp := by
  obtain ⟨f0, fd0, g0, k0, b0, G0⟩ := A0.ex
  refine F.ok sc_least_day len (fun cdv A outer s H vs Q E hr h => ⟨t_least_day K C_Giving C_House C_Reader sp0, ?_, pure vs H Q E h⟩)
  have hu := hu_of hr
  exact (pss_cons (ps_for PassesOwn.never rfl (pi_list (pe_dget hu (pv 1) (pv 2) (fun _ _ => rfl))) (pg_name (i := 3) sc_least_day.nd rfl (Or.inl rfl)) (pss_cons (ps_set (i := 4) sc_least_day.nd rfl (Or.inl rfl) (pe_callTy call_dictD (by rfl) T.b_dict (by decide +kernel) (pa_cons (pv 1) pa_nil)))
      (pss_cons (ps_dput hu (pv 4) (pv 2) (pe_lst (pa_cons (pv 3) pa_nil)) rfl)
      (pss_one (ps_if (pt_val (pe_call G0 (hr.mono (by decide)) (by rfl) g0 k0 b0 .nil pass0 (pa_cons (pv 0) (pa_cons (pv 4) pa_nil)))) (pss_one (ps_ret (pv 3))) pss_nil)))))
      (pss_one (ps_ret pe_non)))

/-! ### told_giving: level 8; slots 0 house 1 applicants 2 wishes 3 told 4 applicant 5 day -/
abbrev s_told_giving : Stmt := top 32
theorem sc_told_giving : FnScope ["house", "applicants", "wishes", "told", "applicant", "day"] ["house", "applicants"] (defScope s_told_giving) := ⟨rfl, rfl, rfl, by decide +kernel, rfl, by decide +kernel, by decide +kernel⟩
def t_told_giving (K : PySem.W.Frag) (C_Giving C_House C_Reader : Addr) (sp0 sp1 : Sp) : TS :=
    (tSeq (tAsg (tCall sp0 [] E0 (tCons (tVar 0) (tCons (tVar 1) tNil))) (gName 2))
    (tSeq (tAsg tDNewK (gName 3))
    (tSeq (tFor (iList K (tVar 1)) (gName 4) (tSeq (tAsg (tCall sp1 [] E0 (tCons (tVar 0) (tCons (tVar 2) (tCons (tVar 4) tNil)))) (gName 5))
    (tSeq (sDPut (tVar 2) (tVar 4) (tLst (tCons (tVar 5) tNil)))
    (sDPut (tVar 3) (tVar 4) (tVar 5)))))
    (tRet (tVar 3)))))
theorem ok_told_giving {f : Addr} {fd : FuncData} {sp0 sp1 : Sp} (F : Fun K "told_giving" "told_giving" s_told_giving f fd) (T : Txt K mg C_Giving C_House C_Reader) (A0 : CallOk P w K mg base 1 "wishes_of" ["house", "applicants"] sp0) (A1 : CallOk P w K mg base 7 "least_day" ["house", "wishes", "applicant"] sp1) {sp : Sp} (len : ∀ vs H Q E, sp vs H Q E → vs.length = 2)
    (pure : ∀ vs H Q E, sp vs H Q E → t_told_giving K C_Giving C_House C_Reader sp0 sp1 { nx := fun _ H' => Q .non H', rt := Q } (start ["house", "applicants", "wishes", "told", "applicant", "day"] vs) H) : FnOk P w K mg base CX0 8 f fd ["house", "applicants"] sp := by
  obtain ⟨f0, fd0, g0, k0, b0, G0⟩ := A0.ex
  obtain ⟨f1, fd1, g1, k1, b1, G1⟩ := A1.ex
  refine F.ok sc_told_giving len (fun cdv A outer s H vs Q E hr h => ⟨t_told_giving K C_Giving C_House C_Reader sp0 sp1, ?_, pure vs H Q E h⟩)
  have hu := hu_of hr
  exact (pss_cons (ps_set (i := 2) sc_told_giving.nd rfl (Or.inl rfl) (pe_call G0 (hr.mono (by decide)) (by rfl) g0 k0 b0 .nil pass0 (pa_cons (pv 0) (pa_cons (pv 1) pa_nil))))
      (pss_cons (ps_set (i := 3) sc_told_giving.nd rfl (Or.inl rfl) pe_dnewK)
      (pss_cons (ps_for PassesOwn.never rfl (pi_list (pv 1)) (pg_name (i := 4) sc_told_giving.nd rfl (Or.inl rfl)) (pss_cons (ps_set (i := 5) sc_told_giving.nd rfl (Or.inl rfl) (pe_call G1 (hr.mono (by decide)) (by rfl) g1 k1 b1 .nil pass0 (pa_cons (pv 0) (pa_cons (pv 2) (pa_cons (pv 4) pa_nil)))))
      (pss_cons (ps_dput hu (pv 2) (pv 4) (pe_lst (pa_cons (pv 5) pa_nil)) rfl)
      (pss_one (ps_dput hu (pv 3) (pv 4) (pv 5) rfl)))))
      (pss_one (ps_ret (pv 3))))))

/-! ### loads_of: level 1; slots 0 house 1 day_of 2 loads 3 applicant 4 load 5 day -/
abbrev s_loads_of : Stmt := top 33
theorem sc_loads_of : FnScope ["house", "day_of", "loads", "applicant", "load", "day"] ["house", "day_of"] (defScope s_loads_of) := ⟨rfl, rfl, rfl, by decide +kernel, rfl, by decide +kernel, by decide +kernel⟩
def t_loads_of (K : PySem.W.Frag) (C_Giving C_House C_Reader : Addr) : TS :=
    (tSeq (tAsg (tLc (iRng1 (tCons (tFld K (tVar 0) "day_count") tNil)) (gName 5) tYes (tOp rRep (tLst (tCons (tC (.int 0)) tNil)) (tOp rPlus (tC (.int 1)) (tC (.int (4))))) [5]) (gName 2))
    (tSeq (tLock (tFor (iKeys (tVar 1)) (gName 3) (tSeq (tAsg (tOp (rIxL K) (tVar 2) (tDGet (tVar 1) (tVar 3))) (gName 4))
    (tSeq (tAugS (tVar 4) (tC (.int 0)) (tC (.int 1)) (rGetL K) (ipI fun i j => i + j) rSetL)
    (tAugS (tVar 4) (tOp rPlus (tC (.int 1)) (tOp (rIxL K) (tFld K (tVar 0) "kind_of") (tVar 3))) (tC (.int 1)) (rGetL K) (ipI fun i j => i + j) rSetL)))))
    (tRet (tVar 2))))
theorem ok_loads_of {f : Addr} {fd : FuncData}  (F : Fun K "loads_of" "loads_of" s_loads_of f fd) (T : Txt K mg C_Giving C_House C_Reader) {sp : Sp} (len : ∀ vs H Q E, sp vs H Q E → vs.length = 2)
    (pure : ∀ vs H Q E, sp vs H Q E → t_loads_of K C_Giving C_House C_Reader { nx := fun _ H' => Q .non H', rt := Q } (start ["house", "day_of", "loads", "applicant", "load", "day"] vs) H) : FnOk P w K mg base CX0 1 f fd ["house", "day_of"] sp := by
  refine F.ok sc_loads_of len (fun cdv A outer s H vs Q E hr h => ⟨t_loads_of K C_Giving C_House C_Reader, ?_, pure vs H Q E h⟩)
  have hu := hu_of hr
  exact (pss_cons (ps_setLc (i := 2) (own := [("day", 5)]) (g := gName 5) (tt := tYes) (te := (tOp rRep (tLst (tCons (tC (.int 0)) tNil)) (tOp rPlus (tC (.int 1)) (tC (.int (4)))))) rfl sc_loads_of.nd rfl rfl (sw_true rfl rfl rfl (by decide +kernel)) (pi_range1 (by rfl) T.b_range (pa_cons (pe_fld (pv 0) rfl) pa_nil)) (blkOk_by (N := ["house", "day_of", "loads", "applicant", "load", "day"]) (sc := defScope s_loads_of) (by decide +kernel)) (fun _ _ _ _ _ => pg_name (i := 5) sc_loads_of.nd rfl (Or.inl rfl)) (fun _ _ _ _ _ => pts_nil) (fun _ _ _ _ _ => (pe_op op_rep (pe_lst (pa_cons pe_int pa_nil)) (pe_op op_add pe_int (pe_const (by rfl) T.c_KINDS)))))
      (pss_cons (ps_lock (ps_for PassesOwn.never rfl (pi_keys (pv 1)) (pg_name (i := 3) sc_loads_of.nd rfl (Or.inl rfl)) (pss_cons (ps_set (i := 4) sc_loads_of.nd rfl (Or.inl rfl) (pe_ix ix_list (pv 2) (pe_dget hu (pv 1) (pv 3) (fun _ _ => rfl)) (fun _ _ => rfl)))
      (pss_cons (ps_augS (pv 4) pe_int get_list pe_int ip_add set_list)
      (pss_one (ps_augS (pv 4) (pe_op op_add pe_int (pe_ix ix_list (pe_fld (pv 0) rfl) (pv 3) (fun _ _ => rfl))) get_list pe_int ip_add set_list))))))
      (pss_one (ps_ret (pv 2)))))

/-! ### with_count: level 1; slots 0 numbers -/
abbrev s_with_count : Stmt := top 42
theorem sc_with_count : FnScope ["numbers"] ["numbers"] (defScope s_with_count) := ⟨rfl, rfl, rfl, by decide +kernel, rfl, by decide +kernel, by decide +kernel⟩
def t_with_count (K : PySem.W.Frag) (C_Giving C_House C_Reader : Addr) : TS :=
    (tRet (tOp rCat (tLst (tCons (tCB (rLen K) (tCons (tVar 0) tNil)) tNil)) (tVar 0)))
theorem ok_with_count {f : Addr} {fd : FuncData}  (F : Fun K "with_count" "with_count" s_with_count f fd) (T : Txt K mg C_Giving C_House C_Reader) {sp : Sp} (len : ∀ vs H Q E, sp vs H Q E → vs.length = 1)
    (pure : ∀ vs H Q E, sp vs H Q E → t_with_count K C_Giving C_House C_Reader { nx := fun _ H' => Q .non H', rt := Q } (start ["numbers"] vs) H) : FnOk P w K mg base CX0 1 f fd ["numbers"] sp := by
  refine F.ok sc_with_count len (fun cdv A outer s H vs Q E hr h => ⟨t_with_count K C_Giving C_House C_Reader, ?_, pure vs H Q E h⟩)
  exact (pss_one (ps_ret (pe_op op_cat (pe_lst (pa_cons (pe_callB call_len_seq (by rfl) T.b_len PySem.boot_len (pa_cons (pv 0) pa_nil)) pa_nil)) (pv 0))))

/-! ### are_days_to_come: level 2; slots 0 house 1 days -/
abbrev s_are_days_to_come : Stmt := top 43
theorem sc_are_days_to_come : FnScope ["house", "days"] ["house", "days"] (defScope s_are_days_to_come) := ⟨rfl, rfl, rfl, by decide +kernel, rfl, by decide +kernel, by decide +kernel⟩
def t_are_days_to_come (K : PySem.W.Frag) (C_Giving C_House C_Reader : Addr) (sp0 : Sp) : TS :=
    (tRet (tAndV (tOp rGtI (tCB (rLen K) (tCons (tVar 1) tNil)) (tC (.int 0))) (tAndV (tCall sp0 [] E0 (tCons (tVar 1) tNil)) (tAndV (tOp rGeI (tOp (rIxL K) (tVar 1) (tC (.int 0))) (tC (.int 0))) (tOp rLtI (tOp (rIxL K) (tVar 1) (tUn (rU fun i => .int (-i)) (tC (.int 1)))) (tFld K (tVar 0) "day_count"))))))
theorem ok_are_days_to_come {f : Addr} {fd : FuncData} {sp0 : Sp} (F : Fun K "are_days_to_come" "are_days_to_come" s_are_days_to_come f fd) (T : Txt K mg C_Giving C_House C_Reader) (A0 : CallOk P w K mg base 1 "is_rising" ["numbers"] sp0) {sp : Sp} (len : ∀ vs H Q E, sp vs H Q E → vs.length = 2)
    (pure : ∀ vs H Q E, sp vs H Q E → t_are_days_to_come K C_Giving C_House C_Reader sp0 { nx := fun _ H' => Q .non H', rt := Q } (start ["house", "days"] vs) H) : FnOk P w K mg base CX0 2 f fd ["house", "days"] sp := by
  obtain ⟨f0, fd0, g0, k0, b0, G0⟩ := A0.ex
  refine F.ok sc_are_days_to_come len (fun cdv A outer s H vs Q E hr h => ⟨t_are_days_to_come K C_Giving C_House C_Reader sp0, ?_, pure vs H Q E h⟩)
  exact (pss_one (ps_ret (pe_and (pe_cmpR op_gt (pe_callB call_len_seq (by rfl) T.b_len PySem.boot_len (pa_cons (pv 1) pa_nil)) pe_int (nomark _)) (pe_and (pe_call G0 (hr.mono (by decide)) (by rfl) g0 k0 b0 .nil pass0 (pa_cons (pv 1) pa_nil)) (pe_and (pe_cmpR op_ge (pe_ix ix_list (pv 1) pe_int (fun _ _ => rfl)) pe_int (nomark _)) (pe_one (pe_cmpR op_lt (pe_ix ix_list (pv 1) (pe_un un_neg pe_int) (fun _ _ => rfl)) (pe_fld (pv 0) rfl) (nomark _))))))))

/-! ### are_in_row: level 2; slots 0 house 1 applicants 2 applicant -/
abbrev s_are_in_row : Stmt := top 44
theorem sc_are_in_row : FnScope ["house", "applicants", "applicant"] ["house", "applicants"] (defScope s_are_in_row) := ⟨rfl, rfl, rfl, by decide +kernel, rfl, by decide +kernel, by decide +kernel⟩
def t_are_in_row (K : PySem.W.Frag) (C_Giving C_House C_Reader : Addr) (sp0 : Sp) : TS :=
    (tRet (tAndV (tCall sp0 [] E0 (tCons (tVar 1) tNil)) (tCB (rAll K) (tCons (tLc (iList K (tVar 1)) (gName 2) tYes (tOp (rIn K false) (tVar 2) (tFld K (tVar 0) "row")) [2]) tNil))))
theorem ok_are_in_row {f : Addr} {fd : FuncData} {sp0 : Sp} (F : Fun K "are_in_row" "are_in_row" s_are_in_row f fd) (T : Txt K mg C_Giving C_House C_Reader) (A0 : CallOk P w K mg base 1 "is_rising" ["numbers"] sp0) {sp : Sp} (len : ∀ vs H Q E, sp vs H Q E → vs.length = 2)
    (pure : ∀ vs H Q E, sp vs H Q E → t_are_in_row K C_Giving C_House C_Reader sp0 { nx := fun _ H' => Q .non H', rt := Q } (start ["house", "applicants", "applicant"] vs) H) : FnOk P w K mg base CX0 2 f fd ["house", "applicants"] sp := by
  obtain ⟨f0, fd0, g0, k0, b0, G0⟩ := A0.ex
  refine F.ok sc_are_in_row len (fun cdv A outer s H vs Q E hr h => ⟨t_are_in_row K C_Giving C_House C_Reader sp0, ?_, pure vs H Q E h⟩)
  exact (pss_one (ps_ret (pe_and (pe_call G0 (hr.mono (by decide)) (by rfl) g0 k0 b0 .nil pass0 (pa_cons (pv 1) pa_nil)) (pe_one (pe_callB (cr_all rfl) (by rfl) T.b_all (by decide +kernel) (pa_cons (pe_lc (own := [("applicant", 2)]) (g := gName 2) (tt := tYes) (te := (tOp (rIn K false) (tVar 2) (tFld K (tVar 0) "row"))) rfl sc_are_in_row.nd (pi_list (pv 1)) (blkOk_by (N := ["house", "applicants", "applicant"]) (sc := defScope s_are_in_row) (by decide +kernel)) (fun _ _ _ _ _ => pg_name (i := 2) sc_are_in_row.nd rfl (Or.inl rfl)) (fun _ _ _ _ _ => pts_nil) (fun _ _ _ _ _ => (pe_cmpR op_in_seq (pv 2) (pe_fld (pv 0) rfl) (by rfl)))) pa_nil))))))

/-! ### are_days_or_none: level 3; slots 0 house 1 days 2 day -/
abbrev s_are_days_or_none : Stmt := top 45
theorem sc_are_days_or_none : FnScope ["house", "days", "day"] ["house", "days"] (defScope s_are_days_or_none) := ⟨rfl, rfl, rfl, by decide +kernel, rfl, by decide +kernel, by decide +kernel⟩
def t_are_days_or_none (K : PySem.W.Frag) (C_Giving C_House C_Reader : Addr) (sp0 : Sp) : TS :=
    (tRet (tAndV (tOp rEq (tCB (rLen K) (tCons (tVar 1) tNil)) (tCB (rLen K) (tCons (tFld K (tVar 0) "row") tNil))) (tCB (rAll K) (tCons (tLc (iList K (tVar 1)) (gName 2) tYes (tOrV (tCall sp0 [] E0 (tCons (tVar 2) tNil)) (tOp rEq (tVar 2) (tC (.int (-1))))) [2]) tNil))))
theorem ok_are_days_or_none {f : Addr} {fd : FuncData} {sp0 : Sp} (F : Fun K "are_days_or_none" "are_days_or_none" s_are_days_or_none f fd) (T : Txt K mg C_Giving C_House C_Reader) (A0 : CallOk P w K mg base 2 "is_day" ["number"] sp0) {sp : Sp} (len : ∀ vs H Q E, sp vs H Q E → vs.length = 2)
    (pure : ∀ vs H Q E, sp vs H Q E → t_are_days_or_none K C_Giving C_House C_Reader sp0 { nx := fun _ H' => Q .non H', rt := Q } (start ["house", "days", "day"] vs) H) : FnOk P w K mg base CX0 3 f fd ["house", "days"] sp := by
  obtain ⟨f0, fd0, g0, k0, b0, G0⟩ := A0.ex
  refine F.ok sc_are_days_or_none len (fun cdv A outer s H vs Q E hr h => ⟨t_are_days_or_none K C_Giving C_House C_Reader sp0, ?_, pure vs H Q E h⟩)
  exact (pss_one (ps_ret (pe_and (pe_cmpR op_eq (pe_callB call_len_seq (by rfl) T.b_len PySem.boot_len (pa_cons (pv 1) pa_nil)) (pe_callB call_len_seq (by rfl) T.b_len PySem.boot_len (pa_cons (pe_fld (pv 0) rfl) pa_nil)) (nomark _)) (pe_one (pe_callB (cr_all rfl) (by rfl) T.b_all (by decide +kernel) (pa_cons (pe_lc (own := [("day", 2)]) (g := gName 2) (tt := tYes) (te := (tOrV (tCall sp0 [] E0 (tCons (tVar 2) tNil)) (tOp rEq (tVar 2) (tC (.int (-1)))))) rfl sc_are_days_or_none.nd (pi_list (pv 1)) (blkOk_by (N := ["house", "days", "day"]) (sc := defScope s_are_days_or_none) (by decide +kernel)) (fun _ _ _ _ _ => pg_name (i := 2) sc_are_days_or_none.nd rfl (Or.inl rfl)) (fun _ _ _ _ _ => pts_nil) (fun _ _ _ _ _ => (pe_or (pe_call G0 (hr.mono (by decide)) (by rfl) g0 k0 b0 .nil pass0 (pa_cons (pv 2) pa_nil)) (pe_one (pe_cmpR op_eq (pv 2) (pe_const (by rfl) T.c_NO_DAY) (nomark _)))))) pa_nil))))))

/-! ### leave: level 1; slots 0 house 1 applicant -/
abbrev s_leave : Stmt := top 53
theorem sc_leave : FnScope ["house", "applicant"] ["house", "applicant"] (defScope s_leave) := ⟨rfl, rfl, rfl, by decide +kernel, rfl, by decide +kernel, by decide +kernel⟩
def t_leave (K : PySem.W.Frag) (C_Giving C_House C_Reader : Addr) : TS :=
    (tSeq (tDrop (tBM K "list" rRemI (tFld K (tVar 0) "row") (tCons (tVar 1) tNil)))
    (tRet (tLst (tCons (tCB (rLen K) (tCons (tFld K (tVar 0) "row") tNil)) tNil))))
theorem ok_leave {f : Addr} {fd : FuncData}  (F : Fun K "leave" "leave" s_leave f fd) (T : Txt K mg C_Giving C_House C_Reader) {sp : Sp} (len : ∀ vs H Q E, sp vs H Q E → vs.length = 2)
    (pure : ∀ vs H Q E, sp vs H Q E → t_leave K C_Giving C_House C_Reader { nx := fun _ H' => Q .non H', rt := Q } (start ["house", "applicant"] vs) H) : FnOk P w K mg base CX0 1 f fd ["house", "applicant"] sp := by
  refine F.ok sc_leave len (fun cdv A outer s H vs Q E hr h => ⟨t_leave K C_Giving C_House C_Reader, ?_, pure vs H Q E h⟩)
  exact (pss_cons (ps_expr (pe_bm PySem.F.plainAttrs_list PySem.F.slot_list_remove PySem.F.type_list_remove mt_remove (pe_fld (pv 0) rfl) (pa_cons (pv 1) pa_nil)))
      (pss_one (ps_ret (pe_lst (pa_cons (pe_callB call_len_seq (by rfl) T.b_len PySem.boot_len (pa_cons (pe_fld (pv 0) rfl) pa_nil)) pa_nil)))))

/-! ### call_row: level 2; slots 0 house 1 reader -/
abbrev s_call_row : Stmt := top 56
theorem sc_call_row : FnScope ["house", "reader"] ["house", "reader"] (defScope s_call_row) := ⟨rfl, rfl, rfl, by decide +kernel, rfl, by decide +kernel, by decide +kernel⟩
def t_call_row (K : PySem.W.Frag) (C_Giving C_House C_Reader : Addr) (sp0 : Sp) : TS :=
    (tRet (tCall sp0 [] E0 (tCons (tFld K (tVar 0) "row") tNil)))
theorem ok_call_row {f : Addr} {fd : FuncData} {sp0 : Sp} (F : Fun K "call_row" "call_row" s_call_row f fd) (T : Txt K mg C_Giving C_House C_Reader) (A0 : CallOk P w K mg base 1 "with_count" ["numbers"] sp0) {sp : Sp} (len : ∀ vs H Q E, sp vs H Q E → vs.length = 2)
    (pure : ∀ vs H Q E, sp vs H Q E → t_call_row K C_Giving C_House C_Reader sp0 { nx := fun _ H' => Q .non H', rt := Q } (start ["house", "reader"] vs) H) : FnOk P w K mg base CX0 2 f fd ["house", "reader"] sp := by
  obtain ⟨f0, fd0, g0, k0, b0, G0⟩ := A0.ex
  refine F.ok sc_call_row len (fun cdv A outer s H vs Q E hr h => ⟨t_call_row K C_Giving C_House C_Reader sp0, ?_, pure vs H Q E h⟩)
  exact (pss_one (ps_ret (pe_call G0 (hr.mono (by decide)) (by rfl) g0 k0 b0 .nil pass0 (pa_cons (pe_fld (pv 0) rfl) pa_nil))))

/-! ### call_served: level 7; slots 0 house 1 reader -/
abbrev s_call_served : Stmt := top 57
theorem sc_call_served : FnScope ["house", "reader"] ["house", "reader"] (defScope s_call_served) := ⟨rfl, rfl, rfl, by decide +kernel, rfl, by decide +kernel, by decide +kernel⟩
def t_call_served (K : PySem.W.Frag) (C_Giving C_House C_Reader : Addr) (sp0 sp1 : Sp) : TS :=
    (tRet (tCall sp0 [] E0 (tCons (tCall sp1 [] E0 (tCons (tVar 0) tNil)) tNil)))
theorem ok_call_served {f : Addr} {fd : FuncData} {sp0 sp1 : Sp} (F : Fun K "call_served" "call_served" s_call_served f fd) (T : Txt K mg C_Giving C_House C_Reader) (A0 : CallOk P w K mg base 1 "with_count" ["numbers"] sp0) (A1 : CallOk P w K mg base 6 "served" ["house"] sp1) {sp : Sp} (len : ∀ vs H Q E, sp vs H Q E → vs.length = 2)
    (pure : ∀ vs H Q E, sp vs H Q E → t_call_served K C_Giving C_House C_Reader sp0 sp1 { nx := fun _ H' => Q .non H', rt := Q } (start ["house", "reader"] vs) H) : FnOk P w K mg base CX0 7 f fd ["house", "reader"] sp := by
  obtain ⟨f0, fd0, g0, k0, b0, G0⟩ := A0.ex
  obtain ⟨f1, fd1, g1, k1, b1, G1⟩ := A1.ex
  refine F.ok sc_call_served len (fun cdv A outer s H vs Q E hr h => ⟨t_call_served K C_Giving C_House C_Reader sp0 sp1, ?_, pure vs H Q E h⟩)
  exact (pss_one (ps_ret (pe_call G0 (hr.mono (by decide)) (by rfl) g0 k0 b0 .nil pass0 (pa_cons (pe_call G1 (hr.mono (by decide)) (by rfl) g1 k1 b1 .nil pass0 (pa_cons (pv 0) pa_nil)) pa_nil))))

/-! ### call_days: level 9; slots 0 house 1 reader 2 applicants 3 told 4 answer 5 applicant -/
abbrev s_call_days : Stmt := top 58
theorem sc_call_days : FnScope ["house", "reader", "applicants", "told", "answer", "applicant"] ["house", "reader"] (defScope s_call_days) := ⟨rfl, rfl, rfl, by decide +kernel, rfl, by decide +kernel, by decide +kernel⟩
def t_call_days (K : PySem.W.Frag) (C_Giving C_House C_Reader : Addr) (sp0 sp1 : Sp) : TS :=
    (tSeq (tAsg (tCall sp0 [] E0 (tCons (tVar 0) tNil)) (gName 2))
    (tSeq (tAsg (tCall sp1 [] E0 (tCons (tVar 0) (tCons (tVar 2) tNil))) (gName 3))
    (tSeq (tAsg (tLst (tCons (tCB (rLen K) (tCons (tVar 2) tNil)) tNil)) (gName 4))
    (tSeq (tFor (iList K (tVar 2)) (gName 5) (tSeq (tDrop (tBM K "list" rAppend (tVar 4) (tCons (tVar 5) tNil)))
    (tDrop (tBM K "list" rAppend (tVar 4) (tCons (tDGet (tVar 3) (tVar 5)) tNil)))))
    (tRet (tVar 4))))))
theorem ok_call_days {f : Addr} {fd : FuncData} {sp0 sp1 : Sp} (F : Fun K "call_days" "call_days" s_call_days f fd) (T : Txt K mg C_Giving C_House C_Reader) (A0 : CallOk P w K mg base 6 "served" ["house"] sp0) (A1 : CallOk P w K mg base 8 "told_giving" ["house", "applicants"] sp1) {sp : Sp} (len : ∀ vs H Q E, sp vs H Q E → vs.length = 2)
    (pure : ∀ vs H Q E, sp vs H Q E → t_call_days K C_Giving C_House C_Reader sp0 sp1 { nx := fun _ H' => Q .non H', rt := Q } (start ["house", "reader", "applicants", "told", "answer", "applicant"] vs) H) : FnOk P w K mg base CX0 9 f fd ["house", "reader"] sp := by
  obtain ⟨f0, fd0, g0, k0, b0, G0⟩ := A0.ex
  obtain ⟨f1, fd1, g1, k1, b1, G1⟩ := A1.ex
  refine F.ok sc_call_days len (fun cdv A outer s H vs Q E hr h => ⟨t_call_days K C_Giving C_House C_Reader sp0 sp1, ?_, pure vs H Q E h⟩)
  have hu := hu_of hr
  exact (pss_cons (ps_set (i := 2) sc_call_days.nd rfl (Or.inl rfl) (pe_call G0 (hr.mono (by decide)) (by rfl) g0 k0 b0 .nil pass0 (pa_cons (pv 0) pa_nil)))
      (pss_cons (ps_set (i := 3) sc_call_days.nd rfl (Or.inl rfl) (pe_call G1 (hr.mono (by decide)) (by rfl) g1 k1 b1 .nil pass0 (pa_cons (pv 0) (pa_cons (pv 2) pa_nil))))
      (pss_cons (ps_set (i := 4) sc_call_days.nd rfl (Or.inl rfl) (pe_lst (pa_cons (pe_callB call_len_seq (by rfl) T.b_len PySem.boot_len (pa_cons (pv 2) pa_nil)) pa_nil)))
      (pss_cons (ps_for PassesOwn.never rfl (pi_list (pv 2)) (pg_name (i := 5) sc_call_days.nd rfl (Or.inl rfl)) (pss_cons (ps_expr (pe_bm PySem.F.plainAttrs_list PySem.F.slot_list_append PySem.F.type_list_append mt_append (pv 4) (pa_cons (pv 5) pa_nil)))
      (pss_one (ps_expr (pe_bm PySem.F.plainAttrs_list PySem.F.slot_list_append PySem.F.type_list_append mt_append (pv 4) (pa_cons (pe_dget hu (pv 3) (pv 5) (fun _ _ => rfl)) pa_nil))))))
      (pss_one (ps_ret (pv 4)))))))

/-! ### why: level 7; slots 0 house 1 applicant 2 taken 3 ahead 4 together 5 other -/
abbrev s_why : Stmt := top 59
theorem sc_why : FnScope ["house", "applicant", "taken", "ahead", "together", "other"] ["house", "applicant"] (defScope s_why) := ⟨rfl, rfl, rfl, by decide +kernel, rfl, by decide +kernel, by decide +kernel⟩
def t_why (K : PySem.W.Frag) (C_Giving C_House C_Reader : Addr) (sp0 sp1 sp2 : Sp) : TS :=
    (tSeq (tAsg (tCall sp0 [] E0 (tCons (tVar 0) tNil)) (gName 2))
    (tSeq (tIfS (tTest (tOp (rIn K false) (tVar 1) (tVar 2))) (tRet (tLst (tCons (tC (.int 0)) tNil))) tNext)
    (tSeq (tAsg (tSl (rSlL K) (tFld K (tVar 0) "row") tNoPart (tPart (tBM K "list" (rIndex K) (tFld K (tVar 0) "row") (tCons (tVar 1) tNil)))) (gName 3))
    (tSeq (tAsg (tOp rCat (tLc (iList K (tVar 3)) (gName 5) (tTest (tOp (rIn K false) (tVar 5) (tVar 2))) (tVar 5) [5]) (tLst (tCons (tVar 1) tNil))) (gName 4))
    (tRet (tOp rCat (tLst (tCons (tC (.int 1)) tNil)) (tCall sp1 [] E0 (tCons (tCall sp2 [] E0 (tCons (tVar 0) (tCons (tVar 4) tNil))) tNil))))))))
theorem ok_why {f : Addr} {fd : FuncData} {sp0 sp1 sp2 : Sp} (F : Fun K "why" "why" s_why f fd) (T : Txt K mg C_Giving C_House C_Reader) (A0 : CallOk P w K mg base 6 "served" ["house"] sp0) (A1 : CallOk P w K mg base 1 "with_count" ["numbers"] sp1) (A2 : CallOk P w K mg base 4 "told_crowd" ["house", "applicants"] sp2) {sp : Sp} (len : ∀ vs H Q E, sp vs H Q E → vs.length = 2)
    (pure : ∀ vs H Q E, sp vs H Q E → t_why K C_Giving C_House C_Reader sp0 sp1 sp2 { nx := fun _ H' => Q .non H', rt := Q } (start ["house", "applicant", "taken", "ahead", "together", "other"] vs) H) : FnOk P w K mg base CX0 7 f fd ["house", "applicant"] sp := by
  obtain ⟨f0, fd0, g0, k0, b0, G0⟩ := A0.ex
  obtain ⟨f1, fd1, g1, k1, b1, G1⟩ := A1.ex
  obtain ⟨f2, fd2, g2, k2, b2, G2⟩ := A2.ex
  refine F.ok sc_why len (fun cdv A outer s H vs Q E hr h => ⟨t_why K C_Giving C_House C_Reader sp0 sp1 sp2, ?_, pure vs H Q E h⟩)
  exact (pss_cons (ps_set (i := 2) sc_why.nd rfl (Or.inr rfl) (pe_call G0 (hr.mono (by decide)) (by rfl) g0 k0 b0 .nil pass0 (pa_cons (pv 0) pa_nil)))
      (pss_cons (ps_if (pt_cmpR op_in_seq (pv 1) (pv 2) (by rfl)) (pss_one (ps_ret (pe_lst (pa_cons pe_int pa_nil)))) pss_nil)
      (pss_cons (ps_set (i := 3) sc_why.nd rfl (Or.inl rfl) (pe_slice sl_list (pe_fld (pv 0) rfl) po_none (po_some (pe_bm PySem.F.plainAttrs_list PySem.F.slot_list_index PySem.F.type_list_index mt_index (pe_fld (pv 0) rfl) (pa_cons (pv 1) pa_nil)))))
      (pss_cons (ps_set (i := 4) sc_why.nd rfl (Or.inl rfl) (pe_op op_cat (pe_lc (own := [("other", 5)]) (g := gName 5) (tt := (tTest (tOp (rIn K false) (tVar 5) (tVar 2)))) (te := (tVar 5)) rfl sc_why.nd (pi_list (pv 3)) (blkOk_by (N := ["house", "applicant", "taken", "ahead", "together", "other"]) (sc := defScope s_why) (by decide +kernel)) (fun _ _ _ _ _ => pg_name (i := 5) sc_why.nd rfl (Or.inl rfl)) (fun _ _ _ _ _ => (pts_one (pt_cmpR op_in_seq (pv 5) (pv 2) (by rfl)))) (fun _ _ _ _ _ => (pv 5))) (pe_lst (pa_cons (pv 1) pa_nil))))
      (pss_one (ps_ret (pe_op op_cat (pe_lst (pa_cons pe_int pa_nil)) (pe_call G1 (hr.mono (by decide)) (by rfl) g1 k1 b1 .nil pass0 (pa_cons (pe_call G2 (hr.mono (by decide)) (by rfl) g2 k2 b2 .nil pass0 (pa_cons (pv 0) (pa_cons (pv 4) pa_nil))) pa_nil)))))))))

/-! ### call_loads: level 9; slots 0 house 1 reader 2 answer 3 load -/
abbrev s_call_loads : Stmt := top 70
theorem sc_call_loads : FnScope ["house", "reader", "answer", "load"] ["house", "reader"] (defScope s_call_loads) := ⟨rfl, rfl, rfl, by decide +kernel, rfl, by decide +kernel, by decide +kernel⟩
def t_call_loads (K : PySem.W.Frag) (C_Giving C_House C_Reader : Addr) (sp0 sp1 sp2 : Sp) : TS :=
    (tSeq (tAsg (tLst tNil) (gName 2))
    (tSeq (tFor (iList K (tCall sp0 [] E0 (tCons (tVar 0) (tCons (tCall sp1 [] E0 (tCons (tVar 0) (tCons (tCall sp2 [] E0 (tCons (tVar 0) tNil)) tNil))) tNil)))) (gName 3) (tDrop (tBM K "list" rExtend (tVar 2) (tCons (tVar 3) tNil))))
    (tRet (tVar 2))))
theorem ok_call_loads {f : Addr} {fd : FuncData} {sp0 sp1 sp2 : Sp} (F : Fun K "call_loads" "call_loads" s_call_loads f fd) (T : Txt K mg C_Giving C_House C_Reader) (A0 : CallOk P w K mg base 1 "loads_of" ["house", "day_of"] sp0) (A1 : CallOk P w K mg base 8 "told_giving" ["house", "applicants"] sp1) (A2 : CallOk P w K mg base 6 "served" ["house"] sp2) {sp : Sp} (len : ∀ vs H Q E, sp vs H Q E → vs.length = 2)
    (pure : ∀ vs H Q E, sp vs H Q E → t_call_loads K C_Giving C_House C_Reader sp0 sp1 sp2 { nx := fun _ H' => Q .non H', rt := Q } (start ["house", "reader", "answer", "load"] vs) H) : FnOk P w K mg base CX0 9 f fd ["house", "reader"] sp := by
  obtain ⟨f0, fd0, g0, k0, b0, G0⟩ := A0.ex
  obtain ⟨f1, fd1, g1, k1, b1, G1⟩ := A1.ex
  obtain ⟨f2, fd2, g2, k2, b2, G2⟩ := A2.ex
  refine F.ok sc_call_loads len (fun cdv A outer s H vs Q E hr h => ⟨t_call_loads K C_Giving C_House C_Reader sp0 sp1 sp2, ?_, pure vs H Q E h⟩)
  exact (pss_cons (ps_set (i := 2) sc_call_loads.nd rfl (Or.inl rfl) (pe_lst pa_nil))
      (pss_cons (ps_for PassesOwn.never rfl (pi_list (pe_call G0 (hr.mono (by decide)) (by rfl) g0 k0 b0 .nil pass0 (pa_cons (pv 0) (pa_cons (pe_call G1 (hr.mono (by decide)) (by rfl) g1 k1 b1 .nil pass0 (pa_cons (pv 0) (pa_cons (pe_call G2 (hr.mono (by decide)) (by rfl) g2 k2 b2 .nil pass0 (pa_cons (pv 0) pa_nil)) pa_nil))) pa_nil)))) (pg_name (i := 3) sc_call_loads.nd rfl (Or.inl rfl)) (pss_one (ps_expr (pe_bm PySem.F.plainAttrs_list PySem.F.slot_list_extend PySem.F.type_list_extend mt_extend (pv 2) (pa_cons (pv 3) pa_nil)))))
      (pss_one (ps_ret (pv 2)))))

/-! ### House.renew: level 1; slots 0 self 1 day_count 2 day -/
abbrev s_House_renew : Stmt := inClass (top 75) 1
theorem sc_House_renew : FnScope ["self", "day_count", "day"] ["self", "day_count"] (defScope s_House_renew) := ⟨rfl, rfl, rfl, by decide +kernel, rfl, by decide +kernel, by decide +kernel⟩
def t_House_renew (K : PySem.W.Frag) (C_Giving C_House C_Reader : Addr) : TS :=
    (tSeq (sFld K (tVar 0) (tVar 1) "day_count")
    (tSeq (sFld K (tVar 0) (tOp rRep (tLst (tCons (tC (.int 0)) tNil)) (tVar 1)) "places")
    (tSeq (sFld K (tVar 0) (tLc (iRng1 (tCons (tVar 1) tNil)) (gName 2) tYes (tOp rRep (tLst (tCons (tC (.int (9))) tNil)) (tC (.int (4)))) [2]) "quotas")
    (tSeq (sFld K (tVar 0) (tLst tNil) "kind_of")
    (tSeq (sFld K (tVar 0) (tLst tNil) "days_of")
    (sFld K (tVar 0) (tLst tNil) "row"))))))
theorem ok_House_renew {f : Addr} {fd : FuncData}  (F : Fun K "renew" "House.renew" s_House_renew f fd) (T : Txt K mg C_Giving C_House C_Reader) {sp : Sp} (len : ∀ vs H Q E, sp vs H Q E → vs.length = 2)
    (pure : ∀ vs H Q E, sp vs H Q E → t_House_renew K C_Giving C_House C_Reader { nx := fun _ H' => Q .non H', rt := Q } (start ["self", "day_count", "day"] vs) H) : FnOk P w K mg base CX0 1 f fd ["self", "day_count"] sp := by
  refine F.ok sc_House_renew len (fun cdv A outer s H vs Q E hr h => ⟨t_House_renew K C_Giving C_House C_Reader, ?_, pure vs H Q E h⟩)
  exact (pss_cons (ps_fld (pv 0) (pv 1) rfl)
      (pss_cons (ps_fld (pv 0) (pe_op op_rep (pe_lst (pa_cons pe_int pa_nil)) (pv 1)) rfl)
      (pss_cons (ps_fld (pv 0) (pe_lc (own := [("day", 2)]) (g := gName 2) (tt := tYes) (te := (tOp rRep (tLst (tCons (tC (.int (9))) tNil)) (tC (.int (4))))) rfl sc_House_renew.nd (pi_range1 (by rfl) T.b_range (pa_cons (pv 1) pa_nil)) (blkOk_by (N := ["self", "day_count", "day"]) (sc := defScope s_House_renew) (by decide +kernel)) (fun _ _ _ _ _ => pg_name (i := 2) sc_House_renew.nd rfl (Or.inl rfl)) (fun _ _ _ _ _ => pts_nil) (fun _ _ _ _ _ => (pe_op op_rep (pe_lst (pa_cons (pe_const (by rfl) T.c_MOST_OF_KIND) pa_nil)) (pe_const (by rfl) T.c_KINDS)))) rfl)
      (pss_cons (ps_fld (pv 0) (pe_lst pa_nil) rfl)
      (pss_cons (ps_fld (pv 0) (pe_lst pa_nil) rfl)
      (pss_one (ps_fld (pv 0) (pe_lst pa_nil) rfl)))))))

/-! ### House.__init__: level 2; slots 0 self -/
abbrev s_House_init : Stmt := inClass (top 75) 0
theorem sc_House_init : FnScope ["self"] ["self"] (defScope s_House_init) := ⟨rfl, rfl, rfl, by decide +kernel, rfl, by decide +kernel, by decide +kernel⟩
def t_House_init (K : PySem.W.Frag) (C_Giving C_House C_Reader : Addr) (sp0 : Sp) : TS :=
    (tDrop (tMeth C_House "renew" sp0 [] E0 (tVar 0) (tCons (tC (.int 1)) tNil)))
theorem ok_House_init {f : Addr} {fd : FuncData} {sp0 : Sp} (F : Fun K "__init__" "House.__init__" s_House_init f fd) (T : Txt K mg C_Giving C_House C_Reader) (A0 : MethOk P w K mg base 1 C_House "renew" ["self", "day_count"] sp0) {sp : Sp} (len : ∀ vs H Q E, sp vs H Q E → vs.length = 1)
    (pure : ∀ vs H Q E, sp vs H Q E → t_House_init K C_Giving C_House C_Reader sp0 { nx := fun _ H' => Q .non H', rt := Q } (start ["self"] vs) H) : FnOk P w K mg base CX0 2 f fd ["self"] sp := by
  obtain ⟨f0, fd0, m0, b0, G0⟩ := A0.ex
  refine F.ok sc_House_init len (fun cdv A outer s H vs Q E hr h => ⟨t_House_init K C_Giving C_House C_Reader sp0, ?_, pure vs H Q E h⟩)
  exact (pss_one (ps_expr (pe_meth (pv 0) T.cl_House m0 G0 (hr.mono (by decide)) b0 .nil pass0 (pa_cons pe_int pa_nil))))

/-! ### House.twin: level 4; slots 0 self 1 other 2 quotas -/
abbrev s_House_twin : Stmt := inClass (top 75) 2
theorem sc_House_twin : FnScope ["self", "other", "quotas"] ["self"] (defScope s_House_twin) := ⟨rfl, rfl, rfl, by decide +kernel, rfl, by decide +kernel, by decide +kernel⟩
def t_House_twin (K : PySem.W.Frag) (C_Giving C_House C_Reader : Addr) (sp0 : Sp) : TS :=
    (tSeq (tAsg (tMake C_House sp0 [] E0 tNil) (gName 1))
    (tSeq (sFld K (tVar 1) (tFld K (tVar 0) "day_count") "day_count")
    (tSeq (sFld K (tVar 1) (tCB (rListOf K) (tCons (tFld K (tVar 0) "places") tNil)) "places")
    (tSeq (sFld K (tVar 1) (tLc (iList K (tFld K (tVar 0) "quotas")) (gName 2) tYes (tCB (rListOf K) (tCons (tVar 2) tNil)) [2]) "quotas")
    (tSeq (sFld K (tVar 1) (tCB (rListOf K) (tCons (tFld K (tVar 0) "kind_of") tNil)) "kind_of")
    (tSeq (sFld K (tVar 1) (tCB (rListOf K) (tCons (tFld K (tVar 0) "days_of") tNil)) "days_of")
    (tSeq (sFld K (tVar 1) (tCB (rListOf K) (tCons (tFld K (tVar 0) "row") tNil)) "row")
    (tRet (tVar 1)))))))))
theorem ok_House_twin {f : Addr} {fd : FuncData} {sp0 : Sp} (F : Fun K "twin" "House.twin" s_House_twin f fd) (T : Txt K mg C_Giving C_House C_Reader) (A0 : MakeOk P w K mg base 2 "House" C_House ["self"] sp0) {sp : Sp} (len : ∀ vs H Q E, sp vs H Q E → vs.length = 1)
    (pure : ∀ vs H Q E, sp vs H Q E → t_House_twin K C_Giving C_House C_Reader sp0 { nx := fun _ H' => Q .non H', rt := Q } (start ["self", "other", "quotas"] vs) H) : FnOk P w K mg base CX0 4 f fd ["self"] sp := by
  obtain ⟨f0, fd0, m0, g0, b0, G0⟩ := A0.ex
  refine F.ok sc_House_twin len (fun cdv A outer s H vs Q E hr h => ⟨t_House_twin K C_Giving C_House C_Reader sp0, ?_, pure vs H Q E h⟩)
  exact (pss_cons (ps_set (i := 1) sc_House_twin.nd rfl (Or.inl rfl) (pe_make0 m0 G0 (hr.mono (by decide)) (by rfl) g0 b0 .nil pass0))
      (pss_cons (ps_fld (pv 1) (pe_fld (pv 0) rfl) rfl)
      (pss_cons (ps_fld (pv 1) (pe_callTy call_list_of (by rfl) T.b_list (by decide +kernel) (pa_cons (pe_fld (pv 0) rfl) pa_nil)) rfl)
      (pss_cons (ps_fld (pv 1) (pe_lc (own := [("quotas", 2)]) (g := gName 2) (tt := tYes) (te := (tCB (rListOf K) (tCons (tVar 2) tNil))) rfl sc_House_twin.nd (pi_list (pe_fld (pv 0) rfl)) (blkOk_by (N := ["self", "other", "quotas"]) (sc := defScope s_House_twin) (by decide +kernel)) (fun _ _ _ _ _ => pg_name (i := 2) sc_House_twin.nd rfl (Or.inl rfl)) (fun _ _ _ _ _ => pts_nil) (fun _ _ _ _ _ => (pe_callTy call_list_of (by rfl) T.b_list (by decide +kernel) (pa_cons (pv 2) pa_nil)))) rfl)
      (pss_cons (ps_fld (pv 1) (pe_callTy call_list_of (by rfl) T.b_list (by decide +kernel) (pa_cons (pe_fld (pv 0) rfl) pa_nil)) rfl)
      (pss_cons (ps_fld (pv 1) (pe_callTy call_list_of (by rfl) T.b_list (by decide +kernel) (pa_cons (pe_fld (pv 0) rfl) pa_nil)) rfl)
      (pss_cons (ps_fld (pv 1) (pe_callTy call_list_of (by rfl) T.b_list (by decide +kernel) (pa_cons (pe_fld (pv 0) rfl) pa_nil)) rfl)
      (pss_one (ps_ret (pv 1))))))))))

/-! ### would_place_do: level 7; slots 0 house 1 applicant 2 day 3 tried -/
abbrev s_would_place_do : Stmt := top 37
theorem sc_would_place_do : FnScope ["house", "applicant", "day", "tried"] ["house", "applicant", "day"] (defScope s_would_place_do) := ⟨rfl, rfl, rfl, by decide +kernel, rfl, by decide +kernel, by decide +kernel⟩
def t_would_place_do (K : PySem.W.Frag) (C_Giving C_House C_Reader : Addr) (sp0 sp1 : Sp) : TS :=
    (tSeq (tAsg (tMeth C_House "twin" sp0 [] E0 (tVar 0) tNil) (gName 3))
    (tSeq (tAugS (tFld K (tVar 3) "places") (tVar 2) (tC (.int 1)) (rGetL K) (ipI fun i j => i + j) rSetL)
    (tRet (tOp (rIn K false) (tVar 1) (tCall sp1 [] E0 (tCons (tVar 3) tNil))))))
theorem ok_would_place_do {f : Addr} {fd : FuncData} {sp0 sp1 : Sp} (F : Fun K "would_place_do" "would_place_do" s_would_place_do f fd) (T : Txt K mg C_Giving C_House C_Reader) (A0 : MethOk P w K mg base 4 C_House "twin" ["self"] sp0) (A1 : CallOk P w K mg base 6 "served" ["house"] sp1) {sp : Sp} (len : ∀ vs H Q E, sp vs H Q E → vs.length = 3)
    (pure : ∀ vs H Q E, sp vs H Q E → t_would_place_do K C_Giving C_House C_Reader sp0 sp1 { nx := fun _ H' => Q .non H', rt := Q } (start ["house", "applicant", "day", "tried"] vs) H) : FnOk P w K mg base CX0 7 f fd ["house", "applicant", "day"] sp := by
  obtain ⟨f0, fd0, m0, b0, G0⟩ := A0.ex
  obtain ⟨f1, fd1, g1, k1, b1, G1⟩ := A1.ex
  refine F.ok sc_would_place_do len (fun cdv A outer s H vs Q E hr h => ⟨t_would_place_do K C_Giving C_House C_Reader sp0 sp1, ?_, pure vs H Q E h⟩)
  exact (pss_cons (ps_set (i := 3) sc_would_place_do.nd rfl (Or.inl rfl) (pe_meth0 (pv 0) T.cl_House m0 G0 (hr.mono (by decide)) b0 .nil pass0))
      (pss_cons (ps_augS (pe_fld (pv 3) rfl) (pv 2) get_list pe_int ip_add set_list)
      (pss_one (ps_ret (pe_cmpR op_in_seq (pv 1) (pe_call G1 (hr.mono (by decide)) (by rfl) g1 k1 b1 .nil pass0 (pa_cons (pv 3) pa_nil)) (by rfl))))))

/-! ### would_quota_do: level 7; slots 0 house 1 applicant 2 day 3 kind 4 tried -/
abbrev s_would_quota_do : Stmt := top 38
theorem sc_would_quota_do : FnScope ["house", "applicant", "day", "kind", "tried"] ["house", "applicant", "day", "kind"] (defScope s_would_quota_do) := ⟨rfl, rfl, rfl, by decide +kernel, rfl, by decide +kernel, by decide +kernel⟩
def t_would_quota_do (K : PySem.W.Frag) (C_Giving C_House C_Reader : Addr) (sp0 sp1 : Sp) : TS :=
    (tSeq (tAsg (tMeth C_House "twin" sp0 [] E0 (tVar 0) tNil) (gName 4))
    (tSeq (tAugS (tOp (rIxL K) (tFld K (tVar 4) "quotas") (tVar 2)) (tVar 3) (tC (.int 1)) (rGetL K) (ipI fun i j => i + j) rSetL)
    (tRet (tOp (rIn K false) (tVar 1) (tCall sp1 [] E0 (tCons (tVar 4) tNil))))))
theorem ok_would_quota_do {f : Addr} {fd : FuncData} {sp0 sp1 : Sp} (F : Fun K "would_quota_do" "would_quota_do" s_would_quota_do f fd) (T : Txt K mg C_Giving C_House C_Reader) (A0 : MethOk P w K mg base 4 C_House "twin" ["self"] sp0) (A1 : CallOk P w K mg base 6 "served" ["house"] sp1) {sp : Sp} (len : ∀ vs H Q E, sp vs H Q E → vs.length = 4)
    (pure : ∀ vs H Q E, sp vs H Q E → t_would_quota_do K C_Giving C_House C_Reader sp0 sp1 { nx := fun _ H' => Q .non H', rt := Q } (start ["house", "applicant", "day", "kind", "tried"] vs) H) : FnOk P w K mg base CX0 7 f fd ["house", "applicant", "day", "kind"] sp := by
  obtain ⟨f0, fd0, m0, b0, G0⟩ := A0.ex
  obtain ⟨f1, fd1, g1, k1, b1, G1⟩ := A1.ex
  refine F.ok sc_would_quota_do len (fun cdv A outer s H vs Q E hr h => ⟨t_would_quota_do K C_Giving C_House C_Reader sp0 sp1, ?_, pure vs H Q E h⟩)
  exact (pss_cons (ps_set (i := 4) sc_would_quota_do.nd rfl (Or.inl rfl) (pe_meth0 (pv 0) T.cl_House m0 G0 (hr.mono (by decide)) b0 .nil pass0))
      (pss_cons (ps_augS (pe_ix ix_list (pe_fld (pv 4) rfl) (pv 2) (fun _ _ => rfl)) (pv 3) get_list pe_int ip_add set_list)
      (pss_one (ps_ret (pe_cmpR op_in_seq (pv 1) (pe_call G1 (hr.mono (by decide)) (by rfl) g1 k1 b1 .nil pass0 (pa_cons (pv 4) pa_nil)) (by rfl))))))

/-! ### what_is_lacking: level 8; slots 0 house 1 applicant 2 found 3 day 4 kind -/
abbrev s_what_is_lacking : Stmt := top 39
theorem sc_what_is_lacking : FnScope ["house", "applicant", "found", "day", "kind"] ["house", "applicant"] (defScope s_what_is_lacking) := ⟨rfl, rfl, rfl, by decide +kernel, rfl, by decide +kernel, by decide +kernel⟩
def t_what_is_lacking (K : PySem.W.Frag) (C_Giving C_House C_Reader : Addr) (sp0 sp1 : Sp) : TS :=
    (tSeq (tAsg (tLst tNil) (gName 2))
    (tSeq (tFor (iRng1 (tCons (tFld K (tVar 0) "day_count") tNil)) (gName 3) (tSeq (tIfS (tB (tCall sp0 [] E0 (tCons (tVar 0) (tCons (tVar 1) (tCons (tVar 3) tNil))))) (tDrop (tBM K "list" rAppend (tVar 2) (tCons (tLst (tCons (tVar 3) (tCons (tC (.int (-1))) tNil))) tNil))) tNext)
    (tFor (iRng1 (tCons (tC (.int (4))) tNil)) (gName 4) (tIfS (tB (tCall sp1 [] E0 (tCons (tVar 0) (tCons (tVar 1) (tCons (tVar 3) (tCons (tVar 4) tNil)))))) (tDrop (tBM K "list" rAppend (tVar 2) (tCons (tLst (tCons (tVar 3) (tCons (tVar 4) tNil))) tNil))) tNext))))
    (tRet (tVar 2))))
theorem ok_what_is_lacking {f : Addr} {fd : FuncData} {sp0 sp1 : Sp} (F : Fun K "what_is_lacking" "what_is_lacking" s_what_is_lacking f fd) (T : Txt K mg C_Giving C_House C_Reader) (A0 : CallOk P w K mg base 7 "would_place_do" ["house", "applicant", "day"] sp0) (A1 : CallOk P w K mg base 7 "would_quota_do" ["house", "applicant", "day", "kind"] sp1) {sp : Sp} (len : ∀ vs H Q E, sp vs H Q E → vs.length = 2)
    (pure : ∀ vs H Q E, sp vs H Q E → t_what_is_lacking K C_Giving C_House C_Reader sp0 sp1 { nx := fun _ H' => Q .non H', rt := Q } (start ["house", "applicant", "found", "day", "kind"] vs) H) : FnOk P w K mg base CX0 8 f fd ["house", "applicant"] sp := by
  obtain ⟨f0, fd0, g0, k0, b0, G0⟩ := A0.ex
  obtain ⟨f1, fd1, g1, k1, b1, G1⟩ := A1.ex
  refine F.ok sc_what_is_lacking len (fun cdv A outer s H vs Q E hr h => ⟨t_what_is_lacking K C_Giving C_House C_Reader sp0 sp1, ?_, pure vs H Q E h⟩)
  exact (pss_cons (ps_set (i := 2) sc_what_is_lacking.nd rfl (Or.inl rfl) (pe_lst pa_nil))
      (pss_cons (ps_for PassesOwn.never rfl (pi_range1 (by rfl) T.b_range (pa_cons (pe_fld (pv 0) rfl) pa_nil)) (pg_name (i := 3) sc_what_is_lacking.nd rfl (Or.inl rfl)) (pss_cons (ps_if (pt_val (pe_call G0 (hr.mono (by decide)) (by rfl) g0 k0 b0 .nil pass0 (pa_cons (pv 0) (pa_cons (pv 1) (pa_cons (pv 3) pa_nil))))) (pss_one (ps_expr (pe_bm PySem.F.plainAttrs_list PySem.F.slot_list_append PySem.F.type_list_append mt_append (pv 2) (pa_cons (pe_lst (pa_cons (pv 3) (pa_cons (pe_const (by rfl) T.c_ANY_KIND) pa_nil))) pa_nil)))) pss_nil)
      (pss_one (ps_for PassesOwn.never rfl (pi_range1 (by rfl) T.b_range (pa_cons (pe_const (by rfl) T.c_KINDS) pa_nil)) (pg_name (i := 4) sc_what_is_lacking.nd rfl (Or.inl rfl)) (pss_one (ps_if (pt_val (pe_call G1 (hr.mono (by decide)) (by rfl) g1 k1 b1 .nil pass0 (pa_cons (pv 0) (pa_cons (pv 1) (pa_cons (pv 3) (pa_cons (pv 4) pa_nil)))))) (pss_one (ps_expr (pe_bm PySem.F.plainAttrs_list PySem.F.slot_list_append PySem.F.type_list_append mt_append (pv 2) (pa_cons (pe_lst (pa_cons (pv 3) (pa_cons (pv 4) pa_nil))) pa_nil)))) pss_nil))))))
      (pss_one (ps_ret (pv 2)))))

/-! ### farthest_place: level 7; slots 0 house 1 applicant 2 others 3 place 4 tried 5 other -/
abbrev s_farthest_place : Stmt := top 40
theorem sc_farthest_place : FnScope ["house", "applicant", "others", "place", "tried", "other"] ["house", "applicant"] (defScope s_farthest_place) := ⟨rfl, rfl, rfl, by decide +kernel, rfl, by decide +kernel, by decide +kernel⟩
def t_farthest_place (K : PySem.W.Frag) (C_Giving C_House C_Reader : Addr) (sp0 sp1 : Sp) : TS :=
    (tSeq (tAsg (tLc (iList K (tFld K (tVar 0) "row")) (gName 5) (tTest (tOp rNe (tVar 5) (tVar 1))) (tVar 5) [5]) (gName 2))
    (tSeq (tFor (iRng3 (tCons (tCB (rLen K) (tCons (tVar 2) tNil)) (tCons (tUn (rU fun i => .int (-i)) (tC (.int 1))) (tCons (tUn (rU fun i => .int (-i)) (tC (.int 1))) tNil)))) (gName 3) (tSeq (tAsg (tMeth C_House "twin" sp0 [] E0 (tVar 0) tNil) (gName 4))
    (tSeq (sFld K (tVar 4) (tOp rCat (tOp rCat (tSl (rSlL K) (tVar 2) tNoPart (tPart (tVar 3))) (tLst (tCons (tVar 1) tNil))) (tSl (rSlL K) (tVar 2) (tPart (tVar 3)) tNoPart)) "row")
    (tIfS (tTest (tOp (rIn K false) (tVar 1) (tCall sp1 [] E0 (tCons (tVar 4) tNil)))) (tRet (tVar 3)) tNext))))
    (tRet (tC (.int (-1))))))
theorem ok_farthest_place {f : Addr} {fd : FuncData} {sp0 sp1 : Sp} (F : Fun K "farthest_place" "farthest_place" s_farthest_place f fd) (T : Txt K mg C_Giving C_House C_Reader) (A0 : MethOk P w K mg base 4 C_House "twin" ["self"] sp0) (A1 : CallOk P w K mg base 6 "served" ["house"] sp1) {sp : Sp} (len : ∀ vs H Q E, sp vs H Q E → vs.length = 2)
    (pure : ∀ vs H Q E, sp vs H Q E → t_farthest_place K C_Giving C_House C_Reader sp0 sp1 { nx := fun _ H' => Q .non H', rt := Q } (start ["house", "applicant", "others", "place", "tried", "other"] vs) H) : FnOk P w K mg base CX0 7 f fd ["house", "applicant"] sp := by
  obtain ⟨f0, fd0, m0, b0, G0⟩ := A0.ex
  obtain ⟨f1, fd1, g1, k1, b1, G1⟩ := A1.ex
  refine F.ok sc_farthest_place len (fun cdv A outer s H vs Q E hr h => ⟨t_farthest_place K C_Giving C_House C_Reader sp0 sp1, ?_, pure vs H Q E h⟩)
  exact (pss_cons (ps_setLc (i := 2) (own := [("other", 5)]) (g := gName 5) (tt := (tTest (tOp rNe (tVar 5) (tVar 1)))) (te := (tVar 5)) rfl sc_farthest_place.nd rfl rfl (sw_true rfl rfl rfl (by decide +kernel)) (pi_list (pe_fld (pv 0) rfl)) (blkOk_by (N := ["house", "applicant", "others", "place", "tried", "other"]) (sc := defScope s_farthest_place) (by decide +kernel)) (fun _ _ _ _ _ => pg_name (i := 5) sc_farthest_place.nd rfl (Or.inl rfl)) (fun _ _ _ _ _ => (pts_one (pt_cmpR op_ne (pv 5) (pv 1) (nomark _)))) (fun _ _ _ _ _ => (pv 5)))
      (pss_cons (ps_for PassesOwn.never rfl (pi_range3 (by rfl) T.b_range (pa_cons (pe_callB call_len_seq (by rfl) T.b_len PySem.boot_len (pa_cons (pv 2) pa_nil)) (pa_cons (pe_un un_neg pe_int) (pa_cons (pe_un un_neg pe_int) pa_nil)))) (pg_name (i := 3) sc_farthest_place.nd rfl (Or.inl rfl)) (pss_cons (ps_set (i := 4) sc_farthest_place.nd rfl (Or.inl rfl) (pe_meth0 (pv 0) T.cl_House m0 G0 (hr.mono (by decide)) b0 .nil pass0))
      (pss_cons (ps_fld (pv 4) (pe_op op_cat (pe_op op_cat (pe_slice sl_list (pv 2) po_none (po_some (pv 3))) (pe_lst (pa_cons (pv 1) pa_nil))) (pe_slice sl_list (pv 2) (po_some (pv 3)) po_none)) rfl)
      (pss_one (ps_if (pt_cmpR op_in_seq (pv 1) (pe_call G1 (hr.mono (by decide)) (by rfl) g1 k1 b1 .nil pass0 (pa_cons (pv 4) pa_nil)) (by rfl)) (pss_one (ps_ret (pv 3))) pss_nil)))))
      (pss_one (ps_ret (pe_const (by rfl) T.c_NO_PLACE)))))

/-! ### lacking: level 9; slots 0 house 1 applicant 2 pairs 3 answer 4 pair -/
abbrev s_lacking : Stmt := top 66
theorem sc_lacking : FnScope ["house", "applicant", "pairs", "answer", "pair"] ["house", "applicant"] (defScope s_lacking) := ⟨rfl, rfl, rfl, by decide +kernel, rfl, by decide +kernel, by decide +kernel⟩
def t_lacking (K : PySem.W.Frag) (C_Giving C_House C_Reader : Addr) (sp0 sp1 : Sp) : TS :=
    (tSeq (tIfS (tTest (tOp (rIn K false) (tVar 1) (tCall sp0 [] E0 (tCons (tVar 0) tNil)))) (tRet (tLst (tCons (tC (.int 0)) tNil))) tNext)
    (tSeq (tAsg (tCall sp1 [] E0 (tCons (tVar 0) (tCons (tVar 1) tNil))) (gName 2))
    (tSeq (tAsg (tLst (tCons (tC (.int 1)) (tCons (tCB (rLen K) (tCons (tVar 2) tNil)) tNil))) (gName 3))
    (tSeq (tFor (iList K (tVar 2)) (gName 4) (tDrop (tBM K "list" rExtend (tVar 3) (tCons (tVar 4) tNil))))
    (tRet (tVar 3))))))
theorem ok_lacking {f : Addr} {fd : FuncData} {sp0 sp1 : Sp} (F : Fun K "lacking" "lacking" s_lacking f fd) (T : Txt K mg C_Giving C_House C_Reader) (A0 : CallOk P w K mg base 6 "served" ["house"] sp0) (A1 : CallOk P w K mg base 8 "what_is_lacking" ["house", "applicant"] sp1) {sp : Sp} (len : ∀ vs H Q E, sp vs H Q E → vs.length = 2)
    (pure : ∀ vs H Q E, sp vs H Q E → t_lacking K C_Giving C_House C_Reader sp0 sp1 { nx := fun _ H' => Q .non H', rt := Q } (start ["house", "applicant", "pairs", "answer", "pair"] vs) H) : FnOk P w K mg base CX0 9 f fd ["house", "applicant"] sp := by
  obtain ⟨f0, fd0, g0, k0, b0, G0⟩ := A0.ex
  obtain ⟨f1, fd1, g1, k1, b1, G1⟩ := A1.ex
  refine F.ok sc_lacking len (fun cdv A outer s H vs Q E hr h => ⟨t_lacking K C_Giving C_House C_Reader sp0 sp1, ?_, pure vs H Q E h⟩)
  exact (pss_cons (ps_if (pt_cmpR op_in_seq (pv 1) (pe_call G0 (hr.mono (by decide)) (by rfl) g0 k0 b0 .nil pass0 (pa_cons (pv 0) pa_nil)) (by rfl)) (pss_one (ps_ret (pe_lst (pa_cons pe_int pa_nil)))) pss_nil)
      (pss_cons (ps_set (i := 2) sc_lacking.nd rfl (Or.inl rfl) (pe_call G1 (hr.mono (by decide)) (by rfl) g1 k1 b1 .nil pass0 (pa_cons (pv 0) (pa_cons (pv 1) pa_nil))))
      (pss_cons (ps_set (i := 3) sc_lacking.nd rfl (Or.inl rfl) (pe_lst (pa_cons pe_int (pa_cons (pe_callB call_len_seq (by rfl) T.b_len PySem.boot_len (pa_cons (pv 2) pa_nil)) pa_nil))))
      (pss_cons (ps_for PassesOwn.never rfl (pi_list (pv 2)) (pg_name (i := 4) sc_lacking.nd rfl (Or.inl rfl)) (pss_one (ps_expr (pe_bm PySem.F.plainAttrs_list PySem.F.slot_list_extend PySem.F.type_list_extend mt_extend (pv 3) (pa_cons (pv 4) pa_nil)))))
      (pss_one (ps_ret (pv 3)))))))

/-! ### far: level 8; slots 0 house 1 applicant -/
abbrev s_far : Stmt := top 68
theorem sc_far : FnScope ["house", "applicant"] ["house", "applicant"] (defScope s_far) := ⟨rfl, rfl, rfl, by decide +kernel, rfl, by decide +kernel, by decide +kernel⟩
def t_far (K : PySem.W.Frag) (C_Giving C_House C_Reader : Addr) (sp0 : Sp) : TS :=
    (tRet (tLst (tCons (tCall sp0 [] E0 (tCons (tVar 0) (tCons (tVar 1) tNil))) tNil)))
theorem ok_far {f : Addr} {fd : FuncData} {sp0 : Sp} (F : Fun K "far" "far" s_far f fd) (T : Txt K mg C_Giving C_House C_Reader) (A0 : CallOk P w K mg base 7 "farthest_place" ["house", "applicant"] sp0) {sp : Sp} (len : ∀ vs H Q E, sp vs H Q E → vs.length = 2)
    (pure : ∀ vs H Q E, sp vs H Q E → t_far K C_Giving C_House C_Reader sp0 { nx := fun _ H' => Q .non H', rt := Q } (start ["house", "applicant"] vs) H) : FnOk P w K mg base CX0 8 f fd ["house", "applicant"] sp := by
  obtain ⟨f0, fd0, g0, k0, b0, G0⟩ := A0.ex
  refine F.ok sc_far len (fun cdv A outer s H vs Q E hr h => ⟨t_far K C_Giving C_House C_Reader sp0, ?_, pure vs H Q E h⟩)
  exact (pss_one (ps_ret (pe_lst (pa_cons (pe_call G0 (hr.mono (by decide)) (by rfl) g0 k0 b0 .nil pass0 (pa_cons (pv 0) (pa_cons (pv 1) pa_nil))) pa_nil))))

/-! ### House.limits_of: level 1; slots 0 self 1 day -/
abbrev s_House_limits_of : Stmt := inClass (top 75) 3
theorem sc_House_limits_of : FnScope ["self", "day"] ["self", "day"] (defScope s_House_limits_of) := ⟨rfl, rfl, rfl, by decide +kernel, rfl, by decide +kernel, by decide +kernel⟩
def t_House_limits_of (K : PySem.W.Frag) (C_Giving C_House C_Reader : Addr) : TS :=
    (tRet (tOp rCat (tLst (tCons (tOp (rIxL K) (tFld K (tVar 0) "places") (tVar 1)) tNil)) (tOp (rIxL K) (tFld K (tVar 0) "quotas") (tVar 1))))
theorem ok_House_limits_of {f : Addr} {fd : FuncData}  (F : Fun K "limits_of" "House.limits_of" s_House_limits_of f fd) (T : Txt K mg C_Giving C_House C_Reader) {sp : Sp} (len : ∀ vs H Q E, sp vs H Q E → vs.length = 2)
    (pure : ∀ vs H Q E, sp vs H Q E → t_House_limits_of K C_Giving C_House C_Reader { nx := fun _ H' => Q .non H', rt := Q } (start ["self", "day"] vs) H) : FnOk P w K mg base CX0 1 f fd ["self", "day"] sp := by
  refine F.ok sc_House_limits_of len (fun cdv A outer s H vs Q E hr h => ⟨t_House_limits_of K C_Giving C_House C_Reader, ?_, pure vs H Q E h⟩)
  exact (pss_one (ps_ret (pe_op op_cat (pe_lst (pa_cons (pe_ix ix_list (pe_fld (pv 0) rfl) (pv 1) (fun _ _ => rfl)) pa_nil)) (pe_ix ix_list (pe_fld (pv 0) rfl) (pv 1) (fun _ _ => rfl)))))

/-! ### is_giving: level 2; slots 0 house 1 day_of 2 applicant 3 day 4 load 5 many 6 most -/
abbrev s_is_giving : Stmt := top 34
theorem sc_is_giving : FnScope ["house", "day_of", "applicant", "day", "load", "many", "most"] ["house", "day_of"] (defScope s_is_giving) := ⟨rfl, rfl, rfl, by decide +kernel, rfl, by decide +kernel, by decide +kernel⟩
def t_is_giving (K : PySem.W.Frag) (C_Giving C_House C_Reader : Addr) (sp0 sp1 : Sp) : TS :=
    (tSeq (tLock (tFor (iKeys (tVar 1)) (gName 2) (tIfS (tTest (tOp (rIn K true) (tDGet (tVar 1) (tVar 2)) (tOp (rIxL K) (tFld K (tVar 0) "days_of") (tVar 2)))) (tRet (tC (.bl false))) tNext)))
    (tSeq (tFor (iEnum K (tCons (tCall sp0 [] E0 (tCons (tVar 0) (tCons (tVar 1) tNil))) tNil)) (gTup K 2 (gCons (gName 3) (gCons (gName 4) gNil))) (tFor (iZip K (tCons (tVar 4) (tCons (tMeth C_House "limits_of" sp1 [] E0 (tVar 0) (tCons (tVar 3) tNil)) tNil))) (gTup K 2 (gCons (gName 5) (gCons (gName 6) gNil))) (tIfS (tTest (tOp rGtI (tVar 5) (tVar 6))) (tRet (tC (.bl false))) tNext)))
    (tRet (tC (.bl true)))))
theorem ok_is_giving {f : Addr} {fd : FuncData} {sp0 sp1 : Sp} (F : Fun K "is_giving" "is_giving" s_is_giving f fd) (T : Txt K mg C_Giving C_House C_Reader) (A0 : CallOk P w K mg base 1 "loads_of" ["house", "day_of"] sp0) (A1 : MethOk P w K mg base 1 C_House "limits_of" ["self", "day"] sp1) {sp : Sp} (len : ∀ vs H Q E, sp vs H Q E → vs.length = 2)
    (pure : ∀ vs H Q E, sp vs H Q E → t_is_giving K C_Giving C_House C_Reader sp0 sp1 { nx := fun _ H' => Q .non H', rt := Q } (start ["house", "day_of", "applicant", "day", "load", "many", "most"] vs) H) : FnOk P w K mg base CX0 2 f fd ["house", "day_of"] sp := by
  obtain ⟨f0, fd0, g0, k0, b0, G0⟩ := A0.ex
  obtain ⟨f1, fd1, m1, b1, G1⟩ := A1.ex
  refine F.ok sc_is_giving len (fun cdv A outer s H vs Q E hr h => ⟨t_is_giving K C_Giving C_House C_Reader sp0 sp1, ?_, pure vs H Q E h⟩)
  have hu := hu_of hr
  exact (pss_cons (ps_lock (ps_for PassesOwn.never rfl (pi_keys (pv 1)) (pg_name (i := 2) sc_is_giving.nd rfl (Or.inl rfl)) (pss_one (ps_if (pt_cmpR op_notIn_seq (pe_dget hu (pv 1) (pv 2) (fun _ _ => rfl)) (pe_ix ix_list (pe_fld (pv 0) rfl) (pv 2) (fun _ _ => rfl)) (by rfl)) (pss_one (ps_ret pe_bl)) pss_nil))))
      (pss_cons (ps_for PassesOwn.never rfl (pi_enum (by rfl) T.b_enumerate (pa_cons (pe_call G0 (hr.mono (by decide)) (by rfl) g0 k0 b0 .nil pass0 (pa_cons (pv 0) (pa_cons (pv 1) pa_nil))) pa_nil)) (pg_tup rfl (pgs_cons (pg_name (i := 3) sc_is_giving.nd rfl (Or.inl rfl)) (pgs_cons (pg_name (i := 4) sc_is_giving.nd rfl (Or.inl rfl)) pgs_nil))) (pss_one (ps_for PassesOwn.never rfl (pi_zip (by rfl) T.b_zip (pa_cons (pv 4) (pa_cons (pe_meth (pv 0) T.cl_House m1 G1 (hr.mono (by decide)) b1 .nil pass0 (pa_cons (pv 3) pa_nil)) pa_nil))) (pg_tup rfl (pgs_cons (pg_name (i := 5) sc_is_giving.nd rfl (Or.inl rfl)) (pgs_cons (pg_name (i := 6) sc_is_giving.nd rfl (Or.inl rfl)) pgs_nil))) (pss_one (ps_if (pt_cmpR op_gt (pv 5) (pv 6) (nomark _)) (pss_one (ps_ret pe_bl)) pss_nil)))))
      (pss_one (ps_ret pe_bl))))

/-! ### call_told: level 2; slots 0 house 1 reader 2 answer 3 day 4 applicant -/
abbrev s_call_told : Stmt := top 71
theorem sc_call_told : FnScope ["house", "reader", "answer", "day", "applicant"] ["house", "reader"] (defScope s_call_told) := ⟨rfl, rfl, rfl, by decide +kernel, rfl, by decide +kernel, by decide +kernel⟩
def t_call_told (K : PySem.W.Frag) (C_Giving C_House C_Reader : Addr) (sp0 sp1 : Sp) : TS :=
    (tSeq (tAsg (tLst (tCons (tFld K (tVar 0) "day_count") tNil)) (gName 2))
    (tSeq (tFor (iRng1 (tCons (tFld K (tVar 0) "day_count") tNil)) (gName 3) (tDrop (tBM K "list" rExtend (tVar 2) (tCons (tMeth C_House "limits_of" sp0 [] E0 (tVar 0) (tCons (tVar 3) tNil)) tNil))))
    (tSeq (tDrop (tBM K "list" rAppend (tVar 2) (tCons (tCB (rLen K) (tCons (tFld K (tVar 0) "row") tNil)) tNil)))
    (tSeq (tFor (iList K (tFld K (tVar 0) "row")) (gName 4) (tSeq (tDrop (tBM K "list" rAppend (tVar 2) (tCons (tVar 4) tNil)))
    (tSeq (tDrop (tBM K "list" rAppend (tVar 2) (tCons (tOp (rIxL K) (tFld K (tVar 0) "kind_of") (tVar 4)) tNil)))
    (tDrop (tBM K "list" rExtend (tVar 2) (tCons (tCall sp1 [] E0 (tCons (tOp (rIxL K) (tFld K (tVar 0) "days_of") (tVar 4)) tNil)) tNil))))))
    (tRet (tVar 2))))))
theorem ok_call_told {f : Addr} {fd : FuncData} {sp0 sp1 : Sp} (F : Fun K "call_told" "call_told" s_call_told f fd) (T : Txt K mg C_Giving C_House C_Reader) (A0 : MethOk P w K mg base 1 C_House "limits_of" ["self", "day"] sp0) (A1 : CallOk P w K mg base 1 "with_count" ["numbers"] sp1) {sp : Sp} (len : ∀ vs H Q E, sp vs H Q E → vs.length = 2)
    (pure : ∀ vs H Q E, sp vs H Q E → t_call_told K C_Giving C_House C_Reader sp0 sp1 { nx := fun _ H' => Q .non H', rt := Q } (start ["house", "reader", "answer", "day", "applicant"] vs) H) : FnOk P w K mg base CX0 2 f fd ["house", "reader"] sp := by
  obtain ⟨f0, fd0, m0, b0, G0⟩ := A0.ex
  obtain ⟨f1, fd1, g1, k1, b1, G1⟩ := A1.ex
  refine F.ok sc_call_told len (fun cdv A outer s H vs Q E hr h => ⟨t_call_told K C_Giving C_House C_Reader sp0 sp1, ?_, pure vs H Q E h⟩)
  exact (pss_cons (ps_set (i := 2) sc_call_told.nd rfl (Or.inl rfl) (pe_lst (pa_cons (pe_fld (pv 0) rfl) pa_nil)))
      (pss_cons (ps_for PassesOwn.never rfl (pi_range1 (by rfl) T.b_range (pa_cons (pe_fld (pv 0) rfl) pa_nil)) (pg_name (i := 3) sc_call_told.nd rfl (Or.inl rfl)) (pss_one (ps_expr (pe_bm PySem.F.plainAttrs_list PySem.F.slot_list_extend PySem.F.type_list_extend mt_extend (pv 2) (pa_cons (pe_meth (pv 0) T.cl_House m0 G0 (hr.mono (by decide)) b0 .nil pass0 (pa_cons (pv 3) pa_nil)) pa_nil)))))
      (pss_cons (ps_expr (pe_bm PySem.F.plainAttrs_list PySem.F.slot_list_append PySem.F.type_list_append mt_append (pv 2) (pa_cons (pe_callB call_len_seq (by rfl) T.b_len PySem.boot_len (pa_cons (pe_fld (pv 0) rfl) pa_nil)) pa_nil)))
      (pss_cons (ps_for PassesOwn.never rfl (pi_list (pe_fld (pv 0) rfl)) (pg_name (i := 4) sc_call_told.nd rfl (Or.inl rfl)) (pss_cons (ps_expr (pe_bm PySem.F.plainAttrs_list PySem.F.slot_list_append PySem.F.type_list_append mt_append (pv 2) (pa_cons (pv 4) pa_nil)))
      (pss_cons (ps_expr (pe_bm PySem.F.plainAttrs_list PySem.F.slot_list_append PySem.F.type_list_append mt_append (pv 2) (pa_cons (pe_ix ix_list (pe_fld (pv 0) rfl) (pv 4) (fun _ _ => rfl)) pa_nil)))
      (pss_one (ps_expr (pe_bm PySem.F.plainAttrs_list PySem.F.slot_list_extend PySem.F.type_list_extend mt_extend (pv 2) (pa_cons (pe_call G1 (hr.mono (by decide)) (by rfl) g1 k1 b1 .nil pass0 (pa_cons (pe_ix ix_list (pe_fld (pv 0) rfl) (pv 4) (fun _ _ => rfl)) pa_nil)) pa_nil)))))))
      (pss_one (ps_ret (pv 2)))))))

/-! ### House.applied: level 1; slots 0 self -/
abbrev s_House_applied : Stmt := inClass (top 75) 4
theorem sc_House_applied : FnScope ["self"] ["self"] (defScope s_House_applied) := ⟨rfl, rfl, rfl, by decide +kernel, rfl, by decide +kernel, by decide +kernel⟩
def t_House_applied (K : PySem.W.Frag) (C_Giving C_House C_Reader : Addr) : TS :=
    (tRet (tCB (rLen K) (tCons (tFld K (tVar 0) "kind_of") tNil)))
theorem ok_House_applied {f : Addr} {fd : FuncData}  (F : Fun K "applied" "House.applied" s_House_applied f fd) (T : Txt K mg C_Giving C_House C_Reader) {sp : Sp} (len : ∀ vs H Q E, sp vs H Q E → vs.length = 1)
    (pure : ∀ vs H Q E, sp vs H Q E → t_House_applied K C_Giving C_House C_Reader { nx := fun _ H' => Q .non H', rt := Q } (start ["self"] vs) H) : FnOk P w K mg base CX0 1 f fd ["self"] sp := by
  refine F.ok sc_House_applied len (fun cdv A outer s H vs Q E hr h => ⟨t_House_applied K C_Giving C_House C_Reader, ?_, pure vs H Q E h⟩)
  exact (pss_one (ps_ret (pe_callB call_len_seq (by rfl) T.b_len PySem.boot_len (pa_cons (pe_fld (pv 0) rfl) pa_nil))))

/-! ### House.admit: level 2; slots 0 self 1 kind 2 days 3 applicant -/
abbrev s_House_admit : Stmt := inClass (top 75) 5
theorem sc_House_admit : FnScope ["self", "kind", "days", "applicant"] ["self", "kind", "days"] (defScope s_House_admit) := ⟨rfl, rfl, rfl, by decide +kernel, rfl, by decide +kernel, by decide +kernel⟩
def t_House_admit (K : PySem.W.Frag) (C_Giving C_House C_Reader : Addr) (sp0 : Sp) : TS :=
    (tSeq (tAsg (tMeth C_House "applied" sp0 [] E0 (tVar 0) tNil) (gName 3))
    (tSeq (tDrop (tBM K "list" rAppend (tFld K (tVar 0) "kind_of") (tCons (tVar 1) tNil)))
    (tSeq (tDrop (tBM K "list" rAppend (tFld K (tVar 0) "days_of") (tCons (tVar 2) tNil)))
    (tSeq (tDrop (tBM K "list" rAppend (tFld K (tVar 0) "row") (tCons (tVar 3) tNil)))
    (tRet (tVar 3))))))
theorem ok_House_admit {f : Addr} {fd : FuncData} {sp0 : Sp} (F : Fun K "admit" "House.admit" s_House_admit f fd) (T : Txt K mg C_Giving C_House C_Reader) (A0 : MethOk P w K mg base 1 C_House "applied" ["self"] sp0) {sp : Sp} (len : ∀ vs H Q E, sp vs H Q E → vs.length = 3)
    (pure : ∀ vs H Q E, sp vs H Q E → t_House_admit K C_Giving C_House C_Reader sp0 { nx := fun _ H' => Q .non H', rt := Q } (start ["self", "kind", "days", "applicant"] vs) H) : FnOk P w K mg base CX0 2 f fd ["self", "kind", "days"] sp := by
  obtain ⟨f0, fd0, m0, b0, G0⟩ := A0.ex
  refine F.ok sc_House_admit len (fun cdv A outer s H vs Q E hr h => ⟨t_House_admit K C_Giving C_House C_Reader sp0, ?_, pure vs H Q E h⟩)
  exact (pss_cons (ps_set (i := 3) sc_House_admit.nd rfl (Or.inl rfl) (pe_meth0 (pv 0) T.cl_House m0 G0 (hr.mono (by decide)) b0 .nil pass0))
      (pss_cons (ps_expr (pe_bm PySem.F.plainAttrs_list PySem.F.slot_list_append PySem.F.type_list_append mt_append (pe_fld (pv 0) rfl) (pa_cons (pv 1) pa_nil)))
      (pss_cons (ps_expr (pe_bm PySem.F.plainAttrs_list PySem.F.slot_list_append PySem.F.type_list_append mt_append (pe_fld (pv 0) rfl) (pa_cons (pv 2) pa_nil)))
      (pss_cons (ps_expr (pe_bm PySem.F.plainAttrs_list PySem.F.slot_list_append PySem.F.type_list_append mt_append (pe_fld (pv 0) rfl) (pa_cons (pv 3) pa_nil)))
      (pss_one (ps_ret (pv 3)))))))

/-! ### day_if_applied: level 9; slots 0 house 1 kind 2 days 3 tried 4 applicant -/
abbrev s_day_if_applied : Stmt := top 36
theorem sc_day_if_applied : FnScope ["house", "kind", "days", "tried", "applicant"] ["house", "kind", "days"] (defScope s_day_if_applied) := ⟨rfl, rfl, rfl, by decide +kernel, rfl, by decide +kernel, by decide +kernel⟩
def t_day_if_applied (K : PySem.W.Frag) (C_Giving C_House C_Reader : Addr) (sp0 sp1 sp2 sp3 : Sp) : TS :=
    (tSeq (tAsg (tMeth C_House "twin" sp0 [] E0 (tVar 0) tNil) (gName 3))
    (tSeq (tAsg (tMeth C_House "admit" sp1 [] E0 (tVar 3) (tCons (tVar 1) (tCons (tVar 2) tNil))) (gName 4))
    (tRet (tDGet1 (tCall sp2 [] E0 (tCons (tVar 3) (tCons (tCall sp3 [] E0 (tCons (tVar 3) tNil)) tNil))) (tVar 4)))))
theorem ok_day_if_applied {f : Addr} {fd : FuncData} {sp0 sp1 sp2 sp3 : Sp} (F : Fun K "day_if_applied" "day_if_applied" s_day_if_applied f fd) (T : Txt K mg C_Giving C_House C_Reader) (A0 : MethOk P w K mg base 4 C_House "twin" ["self"] sp0) (A1 : MethOk P w K mg base 2 C_House "admit" ["self", "kind", "days"] sp1) (A2 : CallOk P w K mg base 8 "told_giving" ["house", "applicants"] sp2) (A3 : CallOk P w K mg base 6 "served" ["house"] sp3) {sp : Sp} (len : ∀ vs H Q E, sp vs H Q E → vs.length = 3)
    (pure : ∀ vs H Q E, sp vs H Q E → t_day_if_applied K C_Giving C_House C_Reader sp0 sp1 sp2 sp3 { nx := fun _ H' => Q .non H', rt := Q } (start ["house", "kind", "days", "tried", "applicant"] vs) H) : FnOk P w K mg base CX0 9 f fd ["house", "kind", "days"] sp := by
  obtain ⟨f0, fd0, m0, b0, G0⟩ := A0.ex
  obtain ⟨f1, fd1, m1, b1, G1⟩ := A1.ex
  obtain ⟨f2, fd2, g2, k2, b2, G2⟩ := A2.ex
  obtain ⟨f3, fd3, g3, k3, b3, G3⟩ := A3.ex
  refine F.ok sc_day_if_applied len (fun cdv A outer s H vs Q E hr h => ⟨t_day_if_applied K C_Giving C_House C_Reader sp0 sp1 sp2 sp3, ?_, pure vs H Q E h⟩)
  have hu := hu_of hr
  exact (pss_cons (ps_set (i := 3) sc_day_if_applied.nd rfl (Or.inl rfl) (pe_meth0 (pv 0) T.cl_House m0 G0 (hr.mono (by decide)) b0 .nil pass0))
      (pss_cons (ps_set (i := 4) sc_day_if_applied.nd rfl (Or.inl rfl) (pe_meth (pv 3) T.cl_House m1 G1 (hr.mono (by decide)) b1 .nil pass0 (pa_cons (pv 1) (pa_cons (pv 2) pa_nil))))
      (pss_one (ps_ret (pe_dget1 hu (pe_call G2 (hr.mono (by decide)) (by rfl) g2 k2 b2 .nil pass0 (pa_cons (pv 3) (pa_cons (pe_call G3 (hr.mono (by decide)) (by rfl) g3 k3 b3 .nil pass0 (pa_cons (pv 3) pa_nil)) pa_nil))) (pv 4) ⟨rfl, rfl, rfl, rfl⟩)))))

/-! ### apply: level 3; slots 0 house 1 kind 2 days -/
abbrev s_apply : Stmt := top 51
theorem sc_apply : FnScope ["house", "kind", "days"] ["house", "kind", "days"] (defScope s_apply) := ⟨rfl, rfl, rfl, by decide +kernel, rfl, by decide +kernel, by decide +kernel⟩
def t_apply (K : PySem.W.Frag) (C_Giving C_House C_Reader : Addr) (sp0 : Sp) : TS :=
    (tRet (tLst (tCons (tMeth C_House "admit" sp0 [] E0 (tVar 0) (tCons (tVar 1) (tCons (tVar 2) tNil))) tNil)))
theorem ok_apply {f : Addr} {fd : FuncData} {sp0 : Sp} (F : Fun K "apply" "apply" s_apply f fd) (T : Txt K mg C_Giving C_House C_Reader) (A0 : MethOk P w K mg base 2 C_House "admit" ["self", "kind", "days"] sp0) {sp : Sp} (len : ∀ vs H Q E, sp vs H Q E → vs.length = 3)
    (pure : ∀ vs H Q E, sp vs H Q E → t_apply K C_Giving C_House C_Reader sp0 { nx := fun _ H' => Q .non H', rt := Q } (start ["house", "kind", "days"] vs) H) : FnOk P w K mg base CX0 3 f fd ["house", "kind", "days"] sp := by
  obtain ⟨f0, fd0, m0, b0, G0⟩ := A0.ex
  refine F.ok sc_apply len (fun cdv A outer s H vs Q E hr h => ⟨t_apply K C_Giving C_House C_Reader sp0, ?_, pure vs H Q E h⟩)
  exact (pss_one (ps_ret (pe_lst (pa_cons (pe_meth (pv 0) T.cl_House m0 G0 (hr.mono (by decide)) b0 .nil pass0 (pa_cons (pv 1) (pa_cons (pv 2) pa_nil))) pa_nil))))

/-! ### would: level 10; slots 0 house 1 kind 2 days 3 day -/
abbrev s_would : Stmt := top 64
theorem sc_would : FnScope ["house", "kind", "days", "day"] ["house", "kind", "days"] (defScope s_would) := ⟨rfl, rfl, rfl, by decide +kernel, rfl, by decide +kernel, by decide +kernel⟩
def t_would (K : PySem.W.Frag) (C_Giving C_House C_Reader : Addr) (sp0 : Sp) : TS :=
    (tSeq (tAsg (tCall sp0 [] E0 (tCons (tVar 0) (tCons (tVar 1) (tCons (tVar 2) tNil)))) (gName 3))
    (tSeq (tIfS (tB (tIsN (tVar 3))) (tRet (tLst (tCons (tC (.int 0)) tNil))) tNext)
    (tRet (tLst (tCons (tC (.int 1)) (tCons (tVar 3) tNil))))))
theorem ok_would {f : Addr} {fd : FuncData} {sp0 : Sp} (F : Fun K "would" "would" s_would f fd) (T : Txt K mg C_Giving C_House C_Reader) (A0 : CallOk P w K mg base 9 "day_if_applied" ["house", "kind", "days"] sp0) {sp : Sp} (len : ∀ vs H Q E, sp vs H Q E → vs.length = 3)
    (pure : ∀ vs H Q E, sp vs H Q E → t_would K C_Giving C_House C_Reader sp0 { nx := fun _ H' => Q .non H', rt := Q } (start ["house", "kind", "days", "day"] vs) H) : FnOk P w K mg base CX0 10 f fd ["house", "kind", "days"] sp := by
  obtain ⟨f0, fd0, g0, k0, b0, G0⟩ := A0.ex
  refine F.ok sc_would len (fun cdv A outer s H vs Q E hr h => ⟨t_would K C_Giving C_House C_Reader sp0, ?_, pure vs H Q E h⟩)
  exact (pss_cons (ps_set (i := 3) sc_would.nd rfl (Or.inl rfl) (pe_call G0 (hr.mono (by decide)) (by rfl) g0 k0 b0 .nil pass0 (pa_cons (pv 0) (pa_cons (pv 1) (pa_cons (pv 2) pa_nil)))))
      (pss_cons (ps_if (pt_cmp (pc_isN (pv 3))) (pss_one (ps_ret (pe_lst (pa_cons pe_int pa_nil)))) pss_nil)
      (pss_one (ps_ret (pe_lst (pa_cons pe_int (pa_cons (pv 3) pa_nil)))))))

/-! ### House.put_ahead: level 1; slots 0 self 1 applicant 2 other 3 place -/
abbrev s_House_put_ahead : Stmt := inClass (top 75) 6
theorem sc_House_put_ahead : FnScope ["self", "applicant", "other", "place"] ["self", "applicant", "other"] (defScope s_House_put_ahead) := ⟨rfl, rfl, rfl, by decide +kernel, rfl, by decide +kernel, by decide +kernel⟩
def t_House_put_ahead (K : PySem.W.Frag) (C_Giving C_House C_Reader : Addr) : TS :=
    (tSeq (tDrop (tBM K "list" rRemI (tFld K (tVar 0) "row") (tCons (tVar 1) tNil)))
    (tSeq (tAsg (tBM K "list" (rIndex K) (tFld K (tVar 0) "row") (tCons (tVar 2) tNil)) (gName 3))
    (tSeq (tDrop (tBM K "list" rInsert (tFld K (tVar 0) "row") (tCons (tVar 3) (tCons (tVar 1) tNil))))
    (tRet (tVar 3)))))
theorem ok_House_put_ahead {f : Addr} {fd : FuncData}  (F : Fun K "put_ahead" "House.put_ahead" s_House_put_ahead f fd) (T : Txt K mg C_Giving C_House C_Reader) {sp : Sp} (len : ∀ vs H Q E, sp vs H Q E → vs.length = 3)
    (pure : ∀ vs H Q E, sp vs H Q E → t_House_put_ahead K C_Giving C_House C_Reader { nx := fun _ H' => Q .non H', rt := Q } (start ["self", "applicant", "other", "place"] vs) H) : FnOk P w K mg base CX0 1 f fd ["self", "applicant", "other"] sp := by
  refine F.ok sc_House_put_ahead len (fun cdv A outer s H vs Q E hr h => ⟨t_House_put_ahead K C_Giving C_House C_Reader, ?_, pure vs H Q E h⟩)
  exact (pss_cons (ps_expr (pe_bm PySem.F.plainAttrs_list PySem.F.slot_list_remove PySem.F.type_list_remove mt_remove (pe_fld (pv 0) rfl) (pa_cons (pv 1) pa_nil)))
      (pss_cons (ps_set (i := 3) sc_House_put_ahead.nd rfl (Or.inl rfl) (pe_bm PySem.F.plainAttrs_list PySem.F.slot_list_index PySem.F.type_list_index mt_index (pe_fld (pv 0) rfl) (pa_cons (pv 2) pa_nil)))
      (pss_cons (ps_expr (pe_bm PySem.F.plainAttrs_list PySem.F.slot_list_insert PySem.F.type_list_insert mt_insert (pe_fld (pv 0) rfl) (pa_cons (pv 3) (pa_cons (pv 1) pa_nil))))
      (pss_one (ps_ret (pv 3))))))

/-! ### Reader.__init__: level 1; slots 0 self 1 numbers -/
abbrev s_Reader_init : Stmt := inClass (top 77) 0
theorem sc_Reader_init : FnScope ["self", "numbers"] ["self", "numbers"] (defScope s_Reader_init) := ⟨rfl, rfl, rfl, by decide +kernel, rfl, by decide +kernel, by decide +kernel⟩
def t_Reader_init (K : PySem.W.Frag) (C_Giving C_House C_Reader : Addr) : TS :=
    (tSeq (sFld K (tVar 0) (tVar 1) "numbers")
    (sFld K (tVar 0) (tC (.int 0)) "at"))
theorem ok_Reader_init {f : Addr} {fd : FuncData}  (F : Fun K "__init__" "Reader.__init__" s_Reader_init f fd) (T : Txt K mg C_Giving C_House C_Reader) {sp : Sp} (len : ∀ vs H Q E, sp vs H Q E → vs.length = 2)
    (pure : ∀ vs H Q E, sp vs H Q E → t_Reader_init K C_Giving C_House C_Reader { nx := fun _ H' => Q .non H', rt := Q } (start ["self", "numbers"] vs) H) : FnOk P w K mg base CX0 1 f fd ["self", "numbers"] sp := by
  refine F.ok sc_Reader_init len (fun cdv A outer s H vs Q E hr h => ⟨t_Reader_init K C_Giving C_House C_Reader, ?_, pure vs H Q E h⟩)
  exact (pss_cons (ps_fld (pv 0) (pv 1) rfl)
      (pss_one (ps_fld (pv 0) pe_int rfl)))

/-! ### Reader.is_at_end: level 1; slots 0 self -/
abbrev s_Reader_is_at_end : Stmt := inClass (top 77) 1
theorem sc_Reader_is_at_end : FnScope ["self"] ["self"] (defScope s_Reader_is_at_end) := ⟨rfl, rfl, rfl, by decide +kernel, rfl, by decide +kernel, by decide +kernel⟩
def t_Reader_is_at_end (K : PySem.W.Frag) (C_Giving C_House C_Reader : Addr) : TS :=
    (tRet (tOp rGeI (tFld K (tVar 0) "at") (tCB (rLen K) (tCons (tFld K (tVar 0) "numbers") tNil))))
theorem ok_Reader_is_at_end {f : Addr} {fd : FuncData}  (F : Fun K "is_at_end" "Reader.is_at_end" s_Reader_is_at_end f fd) (T : Txt K mg C_Giving C_House C_Reader) {sp : Sp} (len : ∀ vs H Q E, sp vs H Q E → vs.length = 1)
    (pure : ∀ vs H Q E, sp vs H Q E → t_Reader_is_at_end K C_Giving C_House C_Reader { nx := fun _ H' => Q .non H', rt := Q } (start ["self"] vs) H) : FnOk P w K mg base CX0 1 f fd ["self"] sp := by
  refine F.ok sc_Reader_is_at_end len (fun cdv A outer s H vs Q E hr h => ⟨t_Reader_is_at_end K C_Giving C_House C_Reader, ?_, pure vs H Q E h⟩)
  exact (pss_one (ps_ret (pe_cmpR op_ge (pe_fld (pv 0) rfl) (pe_callB call_len_seq (by rfl) T.b_len PySem.boot_len (pa_cons (pe_fld (pv 0) rfl) pa_nil)) (nomark _))))

/-! ### Reader.take_number: level 1; slots 0 self 1 number -/
abbrev s_Reader_take_number : Stmt := inClass (top 77) 2
theorem sc_Reader_take_number : FnScope ["self", "number"] ["self"] (defScope s_Reader_take_number) := ⟨rfl, rfl, rfl, by decide +kernel, rfl, by decide +kernel, by decide +kernel⟩
def t_Reader_take_number (K : PySem.W.Frag) (C_Giving C_House C_Reader : Addr) : TS :=
    (tSeq (tAsg (tOp (rIxL K) (tFld K (tVar 0) "numbers") (tFld K (tVar 0) "at")) (gName 1))
    (tSeq (sFldAug K (tVar 0) (tC (.int 1)) L2.rAdd "at")
    (tRet (tVar 1))))
theorem ok_Reader_take_number {f : Addr} {fd : FuncData}  (F : Fun K "take_number" "Reader.take_number" s_Reader_take_number f fd) (T : Txt K mg C_Giving C_House C_Reader) {sp : Sp} (len : ∀ vs H Q E, sp vs H Q E → vs.length = 1)
    (pure : ∀ vs H Q E, sp vs H Q E → t_Reader_take_number K C_Giving C_House C_Reader { nx := fun _ H' => Q .non H', rt := Q } (start ["self", "number"] vs) H) : FnOk P w K mg base CX0 1 f fd ["self"] sp := by
  refine F.ok sc_Reader_take_number len (fun cdv A outer s H vs Q E hr h => ⟨t_Reader_take_number K C_Giving C_House C_Reader, ?_, pure vs H Q E h⟩)
  exact (pss_cons (ps_set (i := 1) sc_Reader_take_number.nd rfl (Or.inl rfl) (pe_ix ix_list (pe_fld (pv 0) rfl) (pe_fld (pv 0) rfl) (fun _ _ => rfl)))
      (pss_cons (ps_fldaug (pv 0) pe_int in_add)
      (pss_one (ps_ret (pv 1)))))

/-! ### about_applicant: level 10; slots 0 house 1 reader 2 answer_about 3 applicant -/
abbrev s_about_applicant : Stmt := top 46
theorem sc_about_applicant : FnScope ["house", "reader", "answer_about", "applicant"] ["house", "reader", "answer_about"] (defScope s_about_applicant) := ⟨rfl, rfl, rfl, by decide +kernel, rfl, by decide +kernel, by decide +kernel⟩
def t_about_applicant (K : PySem.W.Frag) (C_Giving C_House C_Reader : Addr) (sp0 sp1 : Sp) (SA : Addr → Option Sp) : TS :=
    (tSeq (tAsg (tMeth C_Reader "take_number" sp0 [] E0 (tVar 1) tNil) (gName 3))
    (tSeq (tIfS (tNot (tB (tCall sp1 [] E0 (tCons (tVar 3) tNil)))) (tRet (tLst (tCons (tC (.int (-1))) tNil))) tNext)
    (tSeq (tIfS (tTest (tOp (rIn K true) (tVar 3) (tFld K (tVar 0) "row"))) (tRet (tLst (tCons (tC (.int (-4))) tNil))) tNext)
    (tRet (tCallA 2 SA (tCons (tVar 0) (tCons (tVar 3) tNil)))))))
theorem ok_about_applicant {f : Addr} {fd : FuncData} {sp0 sp1 : Sp} (F : Fun K "about_applicant" "about_applicant" s_about_applicant f fd) (T : Txt K mg C_Giving C_House C_Reader) (A0 : MethOk P w K mg base 1 C_Reader "take_number" ["self"] sp0) (A1 : CallOk P w K mg base 2 "is_applicant" ["number"] sp1) {SA : Addr → Option Sp} (hA : ∀ f sp, SA f = some sp → Held P w K mg base 9 f sp) {sp : Sp} (len : ∀ vs H Q E, sp vs H Q E → vs.length = 3)
    (pure : ∀ vs H Q E, sp vs H Q E → t_about_applicant K C_Giving C_House C_Reader sp0 sp1 SA { nx := fun _ H' => Q .non H', rt := Q } (start ["house", "reader", "answer_about", "applicant"] vs) H) : FnOk P w K mg base CX0 10 f fd ["house", "reader", "answer_about"] sp := by
  obtain ⟨f0, fd0, m0, b0, G0⟩ := A0.ex
  obtain ⟨f1, fd1, g1, k1, b1, G1⟩ := A1.ex
  refine F.ok sc_about_applicant len (fun cdv A outer s H vs Q E hr h => ⟨t_about_applicant K C_Giving C_House C_Reader sp0 sp1 SA, ?_, pure vs H Q E h⟩)
  exact (pss_cons (ps_set (i := 3) sc_about_applicant.nd rfl (Or.inl rfl) (pe_meth0 (pv 1) T.cl_Reader m0 G0 (hr.mono (by decide)) b0 .nil pass0))
      (pss_cons (ps_if (pt_not (pt_val (pe_call G1 (hr.mono (by decide)) (by rfl) g1 k1 b1 .nil pass0 (pa_cons (pv 3) pa_nil)))) (pss_one (ps_ret (pe_lst (pa_cons (pe_const (by rfl) T.c_OUT_OF_RANGE) pa_nil)))) pss_nil)
      (pss_cons (ps_if (pt_cmpR op_notIn_seq (pv 3) (pe_fld (pv 0) rfl) (by rfl)) (pss_one (ps_ret (pe_lst (pa_cons (pe_const (by rfl) T.c_NOT_THERE) pa_nil)))) pss_nil)
      (pss_one (ps_ret (pe_callA hA (hr.mono (by decide)) (by rfl) (Or.inl rfl) (pa_cons (pv 0) (pa_cons (pv 3) pa_nil))))))))

/-! ### call_house: level 2; slots 0 house 1 reader 2 day_count -/
abbrev s_call_house : Stmt := top 48
theorem sc_call_house : FnScope ["house", "reader", "day_count"] ["house", "reader"] (defScope s_call_house) := ⟨rfl, rfl, rfl, by decide +kernel, rfl, by decide +kernel, by decide +kernel⟩
def t_call_house (K : PySem.W.Frag) (C_Giving C_House C_Reader : Addr) (sp0 sp1 sp2 : Sp) : TS :=
    (tSeq (tAsg (tMeth C_Reader "take_number" sp0 [] E0 (tVar 1) tNil) (gName 2))
    (tSeq (tIfS (tNot (tB (tCall sp1 [] E0 (tCons (tVar 2) (tCons (tC (.int 1)) (tCons (tC (.int (8))) tNil)))))) (tRet (tLst (tCons (tC (.int (-1))) tNil))) tNext)
    (tSeq (tDrop (tMeth C_House "renew" sp2 [] E0 (tVar 0) (tCons (tVar 2) tNil)))
    (tRet (tLst (tCons (tVar 2) tNil))))))
theorem ok_call_house {f : Addr} {fd : FuncData} {sp0 sp1 sp2 : Sp} (F : Fun K "call_house" "call_house" s_call_house f fd) (T : Txt K mg C_Giving C_House C_Reader) (A0 : MethOk P w K mg base 1 C_Reader "take_number" ["self"] sp0) (A1 : CallOk P w K mg base 1 "is_within" ["number", "least", "greatest"] sp1) (A2 : MethOk P w K mg base 1 C_House "renew" ["self", "day_count"] sp2) {sp : Sp} (len : ∀ vs H Q E, sp vs H Q E → vs.length = 2)
    (pure : ∀ vs H Q E, sp vs H Q E → t_call_house K C_Giving C_House C_Reader sp0 sp1 sp2 { nx := fun _ H' => Q .non H', rt := Q } (start ["house", "reader", "day_count"] vs) H) : FnOk P w K mg base CX0 2 f fd ["house", "reader"] sp := by
  obtain ⟨f0, fd0, m0, b0, G0⟩ := A0.ex
  obtain ⟨f1, fd1, g1, k1, b1, G1⟩ := A1.ex
  obtain ⟨f2, fd2, m2, b2, G2⟩ := A2.ex
  refine F.ok sc_call_house len (fun cdv A outer s H vs Q E hr h => ⟨t_call_house K C_Giving C_House C_Reader sp0 sp1 sp2, ?_, pure vs H Q E h⟩)
  exact (pss_cons (ps_set (i := 2) sc_call_house.nd rfl (Or.inl rfl) (pe_meth0 (pv 1) T.cl_Reader m0 G0 (hr.mono (by decide)) b0 .nil pass0))
      (pss_cons (ps_if (pt_not (pt_val (pe_call G1 (hr.mono (by decide)) (by rfl) g1 k1 b1 .nil pass0 (pa_cons (pv 2) (pa_cons pe_int (pa_cons (pe_const (by rfl) T.c_MOST_DAYS) pa_nil)))))) (pss_one (ps_ret (pe_lst (pa_cons (pe_const (by rfl) T.c_OUT_OF_RANGE) pa_nil)))) pss_nil)
      (pss_cons (ps_expr (pe_meth (pv 0) T.cl_House m2 G2 (hr.mono (by decide)) b2 .nil pass0 (pa_cons (pv 2) pa_nil)))
      (pss_one (ps_ret (pe_lst (pa_cons (pv 2) pa_nil)))))))

/-! ### call_places: level 3; slots 0 house 1 reader 2 day 3 places 4 before -/
abbrev s_call_places : Stmt := top 49
theorem sc_call_places : FnScope ["house", "reader", "day", "places", "before"] ["house", "reader"] (defScope s_call_places) := ⟨rfl, rfl, rfl, by decide +kernel, rfl, by decide +kernel, by decide +kernel⟩
def t_call_places (K : PySem.W.Frag) (C_Giving C_House C_Reader : Addr) (sp0 sp1 sp2 : Sp) : TS :=
    (tSeq (tAsg (tMeth C_Reader "take_number" sp0 [] E0 (tVar 1) tNil) (gName 2))
    (tSeq (tAsg (tMeth C_Reader "take_number" sp0 [] E0 (tVar 1) tNil) (gName 3))
    (tSeq (tIfS (tNot (tAnd (tB (tCall sp2 [] E0 (tCons (tVar 2) tNil))) (tB (tCall sp1 [] E0 (tCons (tVar 3) (tCons (tC (.int 0)) (tCons (tC (.int (9))) tNil))))))) (tRet (tLst (tCons (tC (.int (-1))) tNil))) tNext)
    (tSeq (tIfS (tTest (tOp rGeI (tVar 2) (tFld K (tVar 0) "day_count"))) (tRet (tLst (tCons (tC (.int (-4))) tNil))) tNext)
    (tSeq (tAsg (tOp (rIxL K) (tFld K (tVar 0) "places") (tVar 2)) (gName 4))
    (tSeq (tAsg (tVar 3) (gSub (tFld K (tVar 0) "places") (tVar 2) rSetL))
    (tRet (tLst (tCons (tVar 4) tNil)))))))))
theorem ok_call_places {f : Addr} {fd : FuncData} {sp0 sp1 sp2 : Sp} (F : Fun K "call_places" "call_places" s_call_places f fd) (T : Txt K mg C_Giving C_House C_Reader) (A0 : MethOk P w K mg base 1 C_Reader "take_number" ["self"] sp0) (A1 : CallOk P w K mg base 1 "is_within" ["number", "least", "greatest"] sp1) (A2 : CallOk P w K mg base 2 "is_day" ["number"] sp2) {sp : Sp} (len : ∀ vs H Q E, sp vs H Q E → vs.length = 2)
    (pure : ∀ vs H Q E, sp vs H Q E → t_call_places K C_Giving C_House C_Reader sp0 sp1 sp2 { nx := fun _ H' => Q .non H', rt := Q } (start ["house", "reader", "day", "places", "before"] vs) H) : FnOk P w K mg base CX0 3 f fd ["house", "reader"] sp := by
  obtain ⟨f0, fd0, m0, b0, G0⟩ := A0.ex
  obtain ⟨f1, fd1, g1, k1, b1, G1⟩ := A1.ex
  obtain ⟨f2, fd2, g2, k2, b2, G2⟩ := A2.ex
  refine F.ok sc_call_places len (fun cdv A outer s H vs Q E hr h => ⟨t_call_places K C_Giving C_House C_Reader sp0 sp1 sp2, ?_, pure vs H Q E h⟩)
  exact (pss_cons (ps_set (i := 2) sc_call_places.nd rfl (Or.inl rfl) (pe_meth0 (pv 1) T.cl_Reader m0 G0 (hr.mono (by decide)) b0 .nil pass0))
      (pss_cons (ps_set (i := 3) sc_call_places.nd rfl (Or.inl rfl) (pe_meth0 (pv 1) T.cl_Reader m0 G0 (hr.mono (by decide)) b0 .nil pass0))
      (pss_cons (ps_if (pt_not (PW.pt (pw_and (pt_val (pe_call G2 (hr.mono (by decide)) (by rfl) g2 k2 b2 .nil pass0 (pa_cons (pv 2) pa_nil))) (pw_and1 (pt_val (pe_call G1 (hr.mono (by decide)) (by rfl) g1 k1 b1 .nil pass0 (pa_cons (pv 3) (pa_cons pe_int (pa_cons (pe_const (by rfl) T.c_MOST_PLACES) pa_nil))))))))) (pss_one (ps_ret (pe_lst (pa_cons (pe_const (by rfl) T.c_OUT_OF_RANGE) pa_nil)))) pss_nil)
      (pss_cons (ps_if (pt_cmpR op_ge (pv 2) (pe_fld (pv 0) rfl) (nomark _)) (pss_one (ps_ret (pe_lst (pa_cons (pe_const (by rfl) T.c_NOT_THERE) pa_nil)))) pss_nil)
      (pss_cons (ps_set (i := 4) sc_call_places.nd rfl (Or.inl rfl) (pe_ix ix_list (pe_fld (pv 0) rfl) (pv 2) (fun _ _ => rfl)))
      (pss_cons (ps_asg (pv 3) (pg_sub (pe_fld (pv 0) rfl) (pv 2) set_list))
      (pss_one (ps_ret (pe_lst (pa_cons (pv 4) pa_nil))))))))))

/-! ### call_quota: level 3; slots 0 house 1 reader 2 kind 3 day 4 quota 5 before -/
abbrev s_call_quota : Stmt := top 50
theorem sc_call_quota : FnScope ["house", "reader", "kind", "day", "quota", "before"] ["house", "reader"] (defScope s_call_quota) := ⟨rfl, rfl, rfl, by decide +kernel, rfl, by decide +kernel, by decide +kernel⟩
def t_call_quota (K : PySem.W.Frag) (C_Giving C_House C_Reader : Addr) (sp0 sp1 sp2 sp3 : Sp) : TS :=
    (tSeq (tAsg (tMeth C_Reader "take_number" sp0 [] E0 (tVar 1) tNil) (gName 2))
    (tSeq (tAsg (tMeth C_Reader "take_number" sp0 [] E0 (tVar 1) tNil) (gName 3))
    (tSeq (tAsg (tMeth C_Reader "take_number" sp0 [] E0 (tVar 1) tNil) (gName 4))
    (tSeq (tIfS (tNot (tAnd (tB (tCall sp3 [] E0 (tCons (tVar 2) tNil))) (tAnd (tB (tCall sp2 [] E0 (tCons (tVar 3) tNil))) (tB (tCall sp1 [] E0 (tCons (tVar 4) (tCons (tC (.int 0)) (tCons (tC (.int (9))) tNil)))))))) (tRet (tLst (tCons (tC (.int (-1))) tNil))) tNext)
    (tSeq (tIfS (tTest (tOp rGeI (tVar 3) (tFld K (tVar 0) "day_count"))) (tRet (tLst (tCons (tC (.int (-4))) tNil))) tNext)
    (tSeq (tAsg (tOp (rIxL K) (tOp (rIxL K) (tFld K (tVar 0) "quotas") (tVar 3)) (tVar 2)) (gName 5))
    (tSeq (tAsg (tVar 4) (gSub (tOp (rIxL K) (tFld K (tVar 0) "quotas") (tVar 3)) (tVar 2) rSetL))
    (tRet (tLst (tCons (tVar 5) tNil))))))))))
theorem ok_call_quota {f : Addr} {fd : FuncData} {sp0 sp1 sp2 sp3 : Sp} (F : Fun K "call_quota" "call_quota" s_call_quota f fd) (T : Txt K mg C_Giving C_House C_Reader) (A0 : MethOk P w K mg base 1 C_Reader "take_number" ["self"] sp0) (A1 : CallOk P w K mg base 1 "is_within" ["number", "least", "greatest"] sp1) (A2 : CallOk P w K mg base 2 "is_day" ["number"] sp2) (A3 : CallOk P w K mg base 2 "is_kind" ["number"] sp3) {sp : Sp} (len : ∀ vs H Q E, sp vs H Q E → vs.length = 2)
    (pure : ∀ vs H Q E, sp vs H Q E → t_call_quota K C_Giving C_House C_Reader sp0 sp1 sp2 sp3 { nx := fun _ H' => Q .non H', rt := Q } (start ["house", "reader", "kind", "day", "quota", "before"] vs) H) : FnOk P w K mg base CX0 3 f fd ["house", "reader"] sp := by
  obtain ⟨f0, fd0, m0, b0, G0⟩ := A0.ex
  obtain ⟨f1, fd1, g1, k1, b1, G1⟩ := A1.ex
  obtain ⟨f2, fd2, g2, k2, b2, G2⟩ := A2.ex
  obtain ⟨f3, fd3, g3, k3, b3, G3⟩ := A3.ex
  refine F.ok sc_call_quota len (fun cdv A outer s H vs Q E hr h => ⟨t_call_quota K C_Giving C_House C_Reader sp0 sp1 sp2 sp3, ?_, pure vs H Q E h⟩)
  exact (pss_cons (ps_set (i := 2) sc_call_quota.nd rfl (Or.inl rfl) (pe_meth0 (pv 1) T.cl_Reader m0 G0 (hr.mono (by decide)) b0 .nil pass0))
      (pss_cons (ps_set (i := 3) sc_call_quota.nd rfl (Or.inl rfl) (pe_meth0 (pv 1) T.cl_Reader m0 G0 (hr.mono (by decide)) b0 .nil pass0))
      (pss_cons (ps_set (i := 4) sc_call_quota.nd rfl (Or.inl rfl) (pe_meth0 (pv 1) T.cl_Reader m0 G0 (hr.mono (by decide)) b0 .nil pass0))
      (pss_cons (ps_if (pt_not (PW.pt (pw_and (pt_val (pe_call G3 (hr.mono (by decide)) (by rfl) g3 k3 b3 .nil pass0 (pa_cons (pv 2) pa_nil))) (pw_and (pt_val (pe_call G2 (hr.mono (by decide)) (by rfl) g2 k2 b2 .nil pass0 (pa_cons (pv 3) pa_nil))) (pw_and1 (pt_val (pe_call G1 (hr.mono (by decide)) (by rfl) g1 k1 b1 .nil pass0 (pa_cons (pv 4) (pa_cons pe_int (pa_cons (pe_const (by rfl) T.c_MOST_OF_KIND) pa_nil)))))))))) (pss_one (ps_ret (pe_lst (pa_cons (pe_const (by rfl) T.c_OUT_OF_RANGE) pa_nil)))) pss_nil)
      (pss_cons (ps_if (pt_cmpR op_ge (pv 3) (pe_fld (pv 0) rfl) (nomark _)) (pss_one (ps_ret (pe_lst (pa_cons (pe_const (by rfl) T.c_NOT_THERE) pa_nil)))) pss_nil)
      (pss_cons (ps_set (i := 5) sc_call_quota.nd rfl (Or.inl rfl) (pe_ix ix_list (pe_ix ix_list (pe_fld (pv 0) rfl) (pv 3) (fun _ _ => rfl)) (pv 2) (fun _ _ => rfl)))
      (pss_cons (ps_asg (pv 4) (pg_sub (pe_ix ix_list (pe_fld (pv 0) rfl) (pv 3) (fun _ _ => rfl)) (pv 2) set_list))
      (pss_one (ps_ret (pe_lst (pa_cons (pv 5) pa_nil)))))))))))

/-! ### call_leave: level 11; slots 0 house 1 reader -/
abbrev s_call_leave : Stmt := top 54
theorem sc_call_leave : FnScope ["house", "reader"] ["house", "reader"] (defScope s_call_leave) := ⟨rfl, rfl, rfl, by decide +kernel, rfl, by decide +kernel, by decide +kernel⟩
def t_call_leave (K : PySem.W.Frag) (C_Giving C_House C_Reader : Addr) (sp0 : Sp) (fv_leave : Addr) : TS :=
    (tRet (tCall sp0 [] E0 (tCons (tVar 0) (tCons (tVar 1) (tCons (tC (.ref fv_leave)) tNil)))))
theorem ok_call_leave {f : Addr} {fd : FuncData} {sp0 : Sp} (F : Fun K "call_leave" "call_leave" s_call_leave f fd) (T : Txt K mg C_Giving C_House C_Reader) (A0 : CallOk P w K mg base 10 "about_applicant" ["house", "reader", "answer_about"] sp0) {fv_leave : Addr} (gv_leave : mg "leave" = some (.ref fv_leave)) {sp : Sp} (len : ∀ vs H Q E, sp vs H Q E → vs.length = 2)
    (pure : ∀ vs H Q E, sp vs H Q E → t_call_leave K C_Giving C_House C_Reader sp0 fv_leave { nx := fun _ H' => Q .non H', rt := Q } (start ["house", "reader"] vs) H) : FnOk P w K mg base CX0 11 f fd ["house", "reader"] sp := by
  obtain ⟨f0, fd0, g0, k0, b0, G0⟩ := A0.ex
  refine F.ok sc_call_leave len (fun cdv A outer s H vs Q E hr h => ⟨t_call_leave K C_Giving C_House C_Reader sp0 fv_leave, ?_, pure vs H Q E h⟩)
  exact (pss_one (ps_ret (pe_call G0 (hr.mono (by decide)) (by rfl) g0 k0 b0 .nil pass0 (pa_cons (pv 0) (pa_cons (pv 1) (pa_cons (pe_tab (by rfl) gv_leave) pa_nil))))))

/-! ### call_ahead: level 3; slots 0 house 1 reader 2 applicant 3 other -/
abbrev s_call_ahead : Stmt := top 55
theorem sc_call_ahead : FnScope ["house", "reader", "applicant", "other"] ["house", "reader"] (defScope s_call_ahead) := ⟨rfl, rfl, rfl, by decide +kernel, rfl, by decide +kernel, by decide +kernel⟩
def t_call_ahead (K : PySem.W.Frag) (C_Giving C_House C_Reader : Addr) (sp0 sp1 sp2 : Sp) : TS :=
    (tSeq (tAsg (tMeth C_Reader "take_number" sp0 [] E0 (tVar 1) tNil) (gName 2))
    (tSeq (tAsg (tMeth C_Reader "take_number" sp0 [] E0 (tVar 1) tNil) (gName 3))
    (tSeq (tIfS (tNot (tAnd (tB (tCall sp1 [] E0 (tCons (tVar 2) tNil))) (tB (tCall sp1 [] E0 (tCons (tVar 3) tNil))))) (tRet (tLst (tCons (tC (.int (-1))) tNil))) tNext)
    (tSeq (tIfS (tOr (tTest (tOp (rIn K true) (tVar 2) (tFld K (tVar 0) "row"))) (tTest (tOp (rIn K true) (tVar 3) (tFld K (tVar 0) "row")))) (tRet (tLst (tCons (tC (.int (-4))) tNil))) tNext)
    (tSeq (tIfS (tTest (tOp rEq (tVar 2) (tVar 3))) (tRet (tLst (tCons (tC (.int (-5))) tNil))) tNext)
    (tRet (tLst (tCons (tMeth C_House "put_ahead" sp2 [] E0 (tVar 0) (tCons (tVar 2) (tCons (tVar 3) tNil))) tNil))))))))
theorem ok_call_ahead {f : Addr} {fd : FuncData} {sp0 sp1 sp2 : Sp} (F : Fun K "call_ahead" "call_ahead" s_call_ahead f fd) (T : Txt K mg C_Giving C_House C_Reader) (A0 : MethOk P w K mg base 1 C_Reader "take_number" ["self"] sp0) (A1 : CallOk P w K mg base 2 "is_applicant" ["number"] sp1) (A2 : MethOk P w K mg base 1 C_House "put_ahead" ["self", "applicant", "other"] sp2) {sp : Sp} (len : ∀ vs H Q E, sp vs H Q E → vs.length = 2)
    (pure : ∀ vs H Q E, sp vs H Q E → t_call_ahead K C_Giving C_House C_Reader sp0 sp1 sp2 { nx := fun _ H' => Q .non H', rt := Q } (start ["house", "reader", "applicant", "other"] vs) H) : FnOk P w K mg base CX0 3 f fd ["house", "reader"] sp := by
  obtain ⟨f0, fd0, m0, b0, G0⟩ := A0.ex
  obtain ⟨f1, fd1, g1, k1, b1, G1⟩ := A1.ex
  obtain ⟨f2, fd2, m2, b2, G2⟩ := A2.ex
  refine F.ok sc_call_ahead len (fun cdv A outer s H vs Q E hr h => ⟨t_call_ahead K C_Giving C_House C_Reader sp0 sp1 sp2, ?_, pure vs H Q E h⟩)
  exact (pss_cons (ps_set (i := 2) sc_call_ahead.nd rfl (Or.inl rfl) (pe_meth0 (pv 1) T.cl_Reader m0 G0 (hr.mono (by decide)) b0 .nil pass0))
      (pss_cons (ps_set (i := 3) sc_call_ahead.nd rfl (Or.inl rfl) (pe_meth0 (pv 1) T.cl_Reader m0 G0 (hr.mono (by decide)) b0 .nil pass0))
      (pss_cons (ps_if (pt_not (PW.pt (pw_and (pt_val (pe_call G1 (hr.mono (by decide)) (by rfl) g1 k1 b1 .nil pass0 (pa_cons (pv 2) pa_nil))) (pw_and1 (pt_val (pe_call G1 (hr.mono (by decide)) (by rfl) g1 k1 b1 .nil pass0 (pa_cons (pv 3) pa_nil))))))) (pss_one (ps_ret (pe_lst (pa_cons (pe_const (by rfl) T.c_OUT_OF_RANGE) pa_nil)))) pss_nil)
      (pss_cons (ps_if (PW.pt (pw_or (pt_cmpR op_notIn_seq (pv 2) (pe_fld (pv 0) rfl) (by rfl)) (pw_or1 (pt_cmpR op_notIn_seq (pv 3) (pe_fld (pv 0) rfl) (by rfl))))) (pss_one (ps_ret (pe_lst (pa_cons (pe_const (by rfl) T.c_NOT_THERE) pa_nil)))) pss_nil)
      (pss_cons (ps_if (pt_cmpR op_eq (pv 2) (pv 3) (nomark _)) (pss_one (ps_ret (pe_lst (pa_cons (pe_const (by rfl) T.c_SAME_APPLICANT) pa_nil)))) pss_nil)
      (pss_one (ps_ret (pe_lst (pa_cons (pe_meth (pv 0) T.cl_House m2 G2 (hr.mono (by decide)) b2 .nil pass0 (pa_cons (pv 2) (pa_cons (pv 3) pa_nil))) pa_nil)))))))))

/-! ### call_why: level 11; slots 0 house 1 reader -/
abbrev s_call_why : Stmt := top 60
theorem sc_call_why : FnScope ["house", "reader"] ["house", "reader"] (defScope s_call_why) := ⟨rfl, rfl, rfl, by decide +kernel, rfl, by decide +kernel, by decide +kernel⟩
def t_call_why (K : PySem.W.Frag) (C_Giving C_House C_Reader : Addr) (sp0 : Sp) (fv_why : Addr) : TS :=
    (tRet (tCall sp0 [] E0 (tCons (tVar 0) (tCons (tVar 1) (tCons (tC (.ref fv_why)) tNil)))))
theorem ok_call_why {f : Addr} {fd : FuncData} {sp0 : Sp} (F : Fun K "call_why" "call_why" s_call_why f fd) (T : Txt K mg C_Giving C_House C_Reader) (A0 : CallOk P w K mg base 10 "about_applicant" ["house", "reader", "answer_about"] sp0) {fv_why : Addr} (gv_why : mg "why" = some (.ref fv_why)) {sp : Sp} (len : ∀ vs H Q E, sp vs H Q E → vs.length = 2)
    (pure : ∀ vs H Q E, sp vs H Q E → t_call_why K C_Giving C_House C_Reader sp0 fv_why { nx := fun _ H' => Q .non H', rt := Q } (start ["house", "reader"] vs) H) : FnOk P w K mg base CX0 11 f fd ["house", "reader"] sp := by
  obtain ⟨f0, fd0, g0, k0, b0, G0⟩ := A0.ex
  refine F.ok sc_call_why len (fun cdv A outer s H vs Q E hr h => ⟨t_call_why K C_Giving C_House C_Reader sp0 fv_why, ?_, pure vs H Q E h⟩)
  exact (pss_one (ps_ret (pe_call G0 (hr.mono (by decide)) (by rfl) g0 k0 b0 .nil pass0 (pa_cons (pv 0) (pa_cons (pv 1) (pa_cons (pe_tab (by rfl) gv_why) pa_nil))))))

/-! ### call_lacking: level 11; slots 0 house 1 reader -/
abbrev s_call_lacking : Stmt := top 67
theorem sc_call_lacking : FnScope ["house", "reader"] ["house", "reader"] (defScope s_call_lacking) := ⟨rfl, rfl, rfl, by decide +kernel, rfl, by decide +kernel, by decide +kernel⟩
def t_call_lacking (K : PySem.W.Frag) (C_Giving C_House C_Reader : Addr) (sp0 : Sp) (fv_lacking : Addr) : TS :=
    (tRet (tCall sp0 [] E0 (tCons (tVar 0) (tCons (tVar 1) (tCons (tC (.ref fv_lacking)) tNil)))))
theorem ok_call_lacking {f : Addr} {fd : FuncData} {sp0 : Sp} (F : Fun K "call_lacking" "call_lacking" s_call_lacking f fd) (T : Txt K mg C_Giving C_House C_Reader) (A0 : CallOk P w K mg base 10 "about_applicant" ["house", "reader", "answer_about"] sp0) {fv_lacking : Addr} (gv_lacking : mg "lacking" = some (.ref fv_lacking)) {sp : Sp} (len : ∀ vs H Q E, sp vs H Q E → vs.length = 2)
    (pure : ∀ vs H Q E, sp vs H Q E → t_call_lacking K C_Giving C_House C_Reader sp0 fv_lacking { nx := fun _ H' => Q .non H', rt := Q } (start ["house", "reader"] vs) H) : FnOk P w K mg base CX0 11 f fd ["house", "reader"] sp := by
  obtain ⟨f0, fd0, g0, k0, b0, G0⟩ := A0.ex
  refine F.ok sc_call_lacking len (fun cdv A outer s H vs Q E hr h => ⟨t_call_lacking K C_Giving C_House C_Reader sp0 fv_lacking, ?_, pure vs H Q E h⟩)
  exact (pss_one (ps_ret (pe_call G0 (hr.mono (by decide)) (by rfl) g0 k0 b0 .nil pass0 (pa_cons (pv 0) (pa_cons (pv 1) (pa_cons (pe_tab (by rfl) gv_lacking) pa_nil))))))

/-! ### call_far: level 11; slots 0 house 1 reader -/
abbrev s_call_far : Stmt := top 69
theorem sc_call_far : FnScope ["house", "reader"] ["house", "reader"] (defScope s_call_far) := ⟨rfl, rfl, rfl, by decide +kernel, rfl, by decide +kernel, by decide +kernel⟩
def t_call_far (K : PySem.W.Frag) (C_Giving C_House C_Reader : Addr) (sp0 : Sp) (fv_far : Addr) : TS :=
    (tRet (tCall sp0 [] E0 (tCons (tVar 0) (tCons (tVar 1) (tCons (tC (.ref fv_far)) tNil)))))
theorem ok_call_far {f : Addr} {fd : FuncData} {sp0 : Sp} (F : Fun K "call_far" "call_far" s_call_far f fd) (T : Txt K mg C_Giving C_House C_Reader) (A0 : CallOk P w K mg base 10 "about_applicant" ["house", "reader", "answer_about"] sp0) {fv_far : Addr} (gv_far : mg "far" = some (.ref fv_far)) {sp : Sp} (len : ∀ vs H Q E, sp vs H Q E → vs.length = 2)
    (pure : ∀ vs H Q E, sp vs H Q E → t_call_far K C_Giving C_House C_Reader sp0 fv_far { nx := fun _ H' => Q .non H', rt := Q } (start ["house", "reader"] vs) H) : FnOk P w K mg base CX0 11 f fd ["house", "reader"] sp := by
  obtain ⟨f0, fd0, g0, k0, b0, G0⟩ := A0.ex
  refine F.ok sc_call_far len (fun cdv A outer s H vs Q E hr h => ⟨t_call_far K C_Giving C_House C_Reader sp0 fv_far, ?_, pure vs H Q E h⟩)
  exact (pss_one (ps_ret (pe_call G0 (hr.mono (by decide)) (by rfl) g0 k0 b0 .nil pass0 (pa_cons (pv 0) (pa_cons (pv 1) (pa_cons (pe_tab (by rfl) gv_far) pa_nil))))))

/-! ### Reader.take_list: level 2; slots 0 self 1 many 2 begin -/
abbrev s_Reader_take_list : Stmt := inClass (top 77) 3
theorem sc_Reader_take_list : FnScope ["self", "many", "begin"] ["self"] (defScope s_Reader_take_list) := ⟨rfl, rfl, rfl, by decide +kernel, rfl, by decide +kernel, by decide +kernel⟩
def t_Reader_take_list (K : PySem.W.Frag) (C_Giving C_House C_Reader : Addr) (sp0 : Sp) : TS :=
    (tSeq (tAsg (tMeth C_Reader "take_number" sp0 [] E0 (tVar 0) tNil) (gName 1))
    (tSeq (tAsg (tFld K (tVar 0) "at") (gName 2))
    (tSeq (sFldAug K (tVar 0) (tVar 1) L2.rAdd "at")
    (tRet (tSl (rSlL K) (tFld K (tVar 0) "numbers") (tPart (tVar 2)) (tPart (tFld K (tVar 0) "at")))))))
theorem ok_Reader_take_list {f : Addr} {fd : FuncData} {sp0 : Sp} (F : Fun K "take_list" "Reader.take_list" s_Reader_take_list f fd) (T : Txt K mg C_Giving C_House C_Reader) (A0 : MethOk P w K mg base 1 C_Reader "take_number" ["self"] sp0) {sp : Sp} (len : ∀ vs H Q E, sp vs H Q E → vs.length = 1)
    (pure : ∀ vs H Q E, sp vs H Q E → t_Reader_take_list K C_Giving C_House C_Reader sp0 { nx := fun _ H' => Q .non H', rt := Q } (start ["self", "many", "begin"] vs) H) : FnOk P w K mg base CX0 2 f fd ["self"] sp := by
  obtain ⟨f0, fd0, m0, b0, G0⟩ := A0.ex
  refine F.ok sc_Reader_take_list len (fun cdv A outer s H vs Q E hr h => ⟨t_Reader_take_list K C_Giving C_House C_Reader sp0, ?_, pure vs H Q E h⟩)
  exact (pss_cons (ps_set (i := 1) sc_Reader_take_list.nd rfl (Or.inl rfl) (pe_meth0 (pv 0) T.cl_Reader m0 G0 (hr.mono (by decide)) b0 .nil pass0))
      (pss_cons (ps_set (i := 2) sc_Reader_take_list.nd rfl (Or.inl rfl) (pe_fld (pv 0) rfl))
      (pss_cons (ps_fldaug (pv 0) (pv 1) in_add)
      (pss_one (ps_ret (pe_slice sl_list (pe_fld (pv 0) rfl) (po_some (pv 2)) (po_some (pe_fld (pv 0) rfl))))))))

/-! ### about_newcomer: level 11; slots 0 house 1 reader 2 answer_about 3 kind 4 days -/
abbrev s_about_newcomer : Stmt := top 47
theorem sc_about_newcomer : FnScope ["house", "reader", "answer_about", "kind", "days"] ["house", "reader", "answer_about"] (defScope s_about_newcomer) := ⟨rfl, rfl, rfl, by decide +kernel, rfl, by decide +kernel, by decide +kernel⟩
def t_about_newcomer (K : PySem.W.Frag) (C_Giving C_House C_Reader : Addr) (sp0 sp1 sp2 sp3 sp4 : Sp) (SA : Addr → Option Sp) : TS :=
    (tSeq (tAsg (tMeth C_Reader "take_number" sp0 [] E0 (tVar 1) tNil) (gName 3))
    (tSeq (tAsg (tMeth C_Reader "take_list" sp1 [] E0 (tVar 1) tNil) (gName 4))
    (tSeq (tIfS (tNot (tB (tCall sp2 [] E0 (tCons (tVar 3) tNil)))) (tRet (tLst (tCons (tC (.int (-1))) tNil))) tNext)
    (tSeq (tIfS (tNot (tB (tCall sp3 [] E0 (tCons (tVar 0) (tCons (tVar 4) tNil))))) (tRet (tLst (tCons (tC (.int (-2))) tNil))) tNext)
    (tSeq (tIfS (tOr (tTest (tOp rGeI (tCB (rLen K) (tCons (tFld K (tVar 0) "row") tNil)) (tC (.int (8))))) (tTest (tOp rGeI (tMeth C_House "applied" sp4 [] E0 (tVar 0) tNil) (tC (.int (20)))))) (tRet (tLst (tCons (tC (.int (-7))) tNil))) tNext)
    (tRet (tCallA 2 SA (tCons (tVar 0) (tCons (tVar 3) (tCons (tVar 4) tNil))))))))))
theorem ok_about_newcomer {f : Addr} {fd : FuncData} {sp0 sp1 sp2 sp3 sp4 : Sp} (F : Fun K "about_newcomer" "about_newcomer" s_about_newcomer f fd) (T : Txt K mg C_Giving C_House C_Reader) (A0 : MethOk P w K mg base 1 C_Reader "take_number" ["self"] sp0) (A1 : MethOk P w K mg base 2 C_Reader "take_list" ["self"] sp1) (A2 : CallOk P w K mg base 2 "is_kind" ["number"] sp2) (A3 : CallOk P w K mg base 2 "are_days_to_come" ["house", "days"] sp3) (A4 : MethOk P w K mg base 1 C_House "applied" ["self"] sp4) {SA : Addr → Option Sp} (hA : ∀ f sp, SA f = some sp → Held P w K mg base 10 f sp) {sp : Sp} (len : ∀ vs H Q E, sp vs H Q E → vs.length = 3)
    (pure : ∀ vs H Q E, sp vs H Q E → t_about_newcomer K C_Giving C_House C_Reader sp0 sp1 sp2 sp3 sp4 SA { nx := fun _ H' => Q .non H', rt := Q } (start ["house", "reader", "answer_about", "kind", "days"] vs) H) : FnOk P w K mg base CX0 11 f fd ["house", "reader", "answer_about"] sp := by
  obtain ⟨f0, fd0, m0, b0, G0⟩ := A0.ex
  obtain ⟨f1, fd1, m1, b1, G1⟩ := A1.ex
  obtain ⟨f2, fd2, g2, k2, b2, G2⟩ := A2.ex
  obtain ⟨f3, fd3, g3, k3, b3, G3⟩ := A3.ex
  obtain ⟨f4, fd4, m4, b4, G4⟩ := A4.ex
  refine F.ok sc_about_newcomer len (fun cdv A outer s H vs Q E hr h => ⟨t_about_newcomer K C_Giving C_House C_Reader sp0 sp1 sp2 sp3 sp4 SA, ?_, pure vs H Q E h⟩)
  exact (pss_cons (ps_set (i := 3) sc_about_newcomer.nd rfl (Or.inl rfl) (pe_meth0 (pv 1) T.cl_Reader m0 G0 (hr.mono (by decide)) b0 .nil pass0))
      (pss_cons (ps_set (i := 4) sc_about_newcomer.nd rfl (Or.inl rfl) (pe_meth0 (pv 1) T.cl_Reader m1 G1 (hr.mono (by decide)) b1 .nil pass0))
      (pss_cons (ps_if (pt_not (pt_val (pe_call G2 (hr.mono (by decide)) (by rfl) g2 k2 b2 .nil pass0 (pa_cons (pv 3) pa_nil)))) (pss_one (ps_ret (pe_lst (pa_cons (pe_const (by rfl) T.c_OUT_OF_RANGE) pa_nil)))) pss_nil)
      (pss_cons (ps_if (pt_not (pt_val (pe_call G3 (hr.mono (by decide)) (by rfl) g3 k3 b3 .nil pass0 (pa_cons (pv 0) (pa_cons (pv 4) pa_nil))))) (pss_one (ps_ret (pe_lst (pa_cons (pe_const (by rfl) T.c_LIST_NOT_AS_TOLD) pa_nil)))) pss_nil)
      (pss_cons (ps_if (PW.pt (pw_or (pt_cmpR op_ge (pe_callB call_len_seq (by rfl) T.b_len PySem.boot_len (pa_cons (pe_fld (pv 0) rfl) pa_nil)) (pe_const (by rfl) T.c_MOST_IN_ROW) (nomark _)) (pw_or1 (pt_cmpR op_ge (pe_meth0 (pv 0) T.cl_House m4 G4 (hr.mono (by decide)) b4 .nil pass0) (pe_const (by rfl) T.c_MOST_APPLIED) (nomark _))))) (pss_one (ps_ret (pe_lst (pa_cons (pe_const (by rfl) T.c_NO_MORE_APPLY) pa_nil)))) pss_nil)
      (pss_one (ps_ret (pe_callA hA (hr.mono (by decide)) (by rfl) (Or.inl rfl) (pa_cons (pv 0) (pa_cons (pv 3) (pa_cons (pv 4) pa_nil)))))))))))

/-! ### call_apply: level 12; slots 0 house 1 reader -/
abbrev s_call_apply : Stmt := top 52
theorem sc_call_apply : FnScope ["house", "reader"] ["house", "reader"] (defScope s_call_apply) := ⟨rfl, rfl, rfl, by decide +kernel, rfl, by decide +kernel, by decide +kernel⟩
def t_call_apply (K : PySem.W.Frag) (C_Giving C_House C_Reader : Addr) (sp0 : Sp) (fv_apply : Addr) : TS :=
    (tRet (tCall sp0 [] E0 (tCons (tVar 0) (tCons (tVar 1) (tCons (tC (.ref fv_apply)) tNil)))))
theorem ok_call_apply {f : Addr} {fd : FuncData} {sp0 : Sp} (F : Fun K "call_apply" "call_apply" s_call_apply f fd) (T : Txt K mg C_Giving C_House C_Reader) (A0 : CallOk P w K mg base 11 "about_newcomer" ["house", "reader", "answer_about"] sp0) {fv_apply : Addr} (gv_apply : mg "apply" = some (.ref fv_apply)) {sp : Sp} (len : ∀ vs H Q E, sp vs H Q E → vs.length = 2)
    (pure : ∀ vs H Q E, sp vs H Q E → t_call_apply K C_Giving C_House C_Reader sp0 fv_apply { nx := fun _ H' => Q .non H', rt := Q } (start ["house", "reader"] vs) H) : FnOk P w K mg base CX0 12 f fd ["house", "reader"] sp := by
  obtain ⟨f0, fd0, g0, k0, b0, G0⟩ := A0.ex
  refine F.ok sc_call_apply len (fun cdv A outer s H vs Q E hr h => ⟨t_call_apply K C_Giving C_House C_Reader sp0 fv_apply, ?_, pure vs H Q E h⟩)
  exact (pss_one (ps_ret (pe_call G0 (hr.mono (by decide)) (by rfl) g0 k0 b0 .nil pass0 (pa_cons (pv 0) (pa_cons (pv 1) (pa_cons (pe_tab (by rfl) gv_apply) pa_nil))))))

/-! ### call_can: level 9; slots 0 house 1 reader 2 applicants 3 in_order 4 told 5 applicant -/
abbrev s_call_can : Stmt := top 61
theorem sc_call_can : FnScope ["house", "reader", "applicants", "in_order", "told", "applicant"] ["house", "reader"] (defScope s_call_can) := ⟨rfl, rfl, rfl, by decide +kernel, rfl, by decide +kernel, by decide +kernel⟩
def t_call_can (K : PySem.W.Frag) (C_Giving C_House C_Reader : Addr) (sp0 sp1 sp2 sp3 sp4 sp5 sp6 : Sp) : TS :=
    (tSeq (tAsg (tMeth C_Reader "take_list" sp0 [] E0 (tVar 1) tNil) (gName 2))
    (tSeq (tIfS (tNot (tB (tCall sp1 [] E0 (tCons (tVar 0) (tCons (tVar 2) tNil))))) (tRet (tLst (tCons (tC (.int (-2))) tNil))) tNext)
    (tSeq (tAsg (tLc (iList K (tFld K (tVar 0) "row")) (gName 5) (tTest (tOp (rIn K false) (tVar 5) (tVar 2))) (tVar 5) [5]) (gName 3))
    (tSeq (tIfS (tNot (tB (tCall sp2 [] E0 (tCons (tVar 0) (tCons (tCall sp3 [] E0 (tCons (tVar 0) (tCons (tVar 3) tNil))) tNil))))) (tRet (tOp rCat (tLst (tCons (tC (.int 0)) tNil)) (tCall sp4 [] E0 (tCons (tCall sp5 [] E0 (tCons (tVar 0) (tCons (tVar 3) tNil))) tNil)))) tNext)
    (tSeq (tAsg (tCall sp6 [] E0 (tCons (tVar 0) (tCons (tVar 3) tNil))) (gName 4))
    (tRet (tOp rCat (tLst (tCons (tC (.int 1)) tNil)) (tCall sp4 [] E0 (tCons (tLc (iList K (tVar 3)) (gName 5) tYes (tDGet (tVar 4) (tVar 5)) [5]) tNil)))))))))
theorem ok_call_can {f : Addr} {fd : FuncData} {sp0 sp1 sp2 sp3 sp4 sp5 sp6 : Sp} (F : Fun K "call_can" "call_can" s_call_can f fd) (T : Txt K mg C_Giving C_House C_Reader) (A0 : MethOk P w K mg base 2 C_Reader "take_list" ["self"] sp0) (A1 : CallOk P w K mg base 2 "are_in_row" ["house", "applicants"] sp1) (A2 : CallOk P w K mg base 6 "can_be_served" ["house", "wishes"] sp2) (A3 : CallOk P w K mg base 1 "wishes_of" ["house", "applicants"] sp3) (A4 : CallOk P w K mg base 1 "with_count" ["numbers"] sp4) (A5 : CallOk P w K mg base 4 "told_crowd" ["house", "applicants"] sp5) (A6 : CallOk P w K mg base 8 "told_giving" ["house", "applicants"] sp6) {sp : Sp} (len : ∀ vs H Q E, sp vs H Q E → vs.length = 2)
    (pure : ∀ vs H Q E, sp vs H Q E → t_call_can K C_Giving C_House C_Reader sp0 sp1 sp2 sp3 sp4 sp5 sp6 { nx := fun _ H' => Q .non H', rt := Q } (start ["house", "reader", "applicants", "in_order", "told", "applicant"] vs) H) : FnOk P w K mg base CX0 9 f fd ["house", "reader"] sp := by
  obtain ⟨f0, fd0, m0, b0, G0⟩ := A0.ex
  obtain ⟨f1, fd1, g1, k1, b1, G1⟩ := A1.ex
  obtain ⟨f2, fd2, g2, k2, b2, G2⟩ := A2.ex
  obtain ⟨f3, fd3, g3, k3, b3, G3⟩ := A3.ex
  obtain ⟨f4, fd4, g4, k4, b4, G4⟩ := A4.ex
  obtain ⟨f5, fd5, g5, k5, b5, G5⟩ := A5.ex
  obtain ⟨f6, fd6, g6, k6, b6, G6⟩ := A6.ex
  refine F.ok sc_call_can len (fun cdv A outer s H vs Q E hr h => ⟨t_call_can K C_Giving C_House C_Reader sp0 sp1 sp2 sp3 sp4 sp5 sp6, ?_, pure vs H Q E h⟩)
  have hu := hu_of hr
  exact (pss_cons (ps_set (i := 2) sc_call_can.nd rfl (Or.inr rfl) (pe_meth0 (pv 1) T.cl_Reader m0 G0 (hr.mono (by decide)) b0 .nil pass0))
      (pss_cons (ps_if (pt_not (pt_val (pe_call G1 (hr.mono (by decide)) (by rfl) g1 k1 b1 .nil pass0 (pa_cons (pv 0) (pa_cons (pv 2) pa_nil))))) (pss_one (ps_ret (pe_lst (pa_cons (pe_const (by rfl) T.c_LIST_NOT_AS_TOLD) pa_nil)))) pss_nil)
      (pss_cons (ps_setLc (i := 3) (own := [("applicant", 5)]) (g := gName 5) (tt := (tTest (tOp (rIn K false) (tVar 5) (tVar 2)))) (te := (tVar 5)) rfl sc_call_can.nd rfl rfl (sw_true rfl rfl rfl (by decide +kernel)) (pi_list (pe_fld (pv 0) rfl)) (blkOk_by (N := ["house", "reader", "applicants", "in_order", "told", "applicant"]) (sc := defScope s_call_can) (by decide +kernel)) (fun _ _ _ _ _ => pg_name (i := 5) sc_call_can.nd rfl (Or.inl rfl)) (fun _ _ _ _ _ => (pts_one (pt_cmpR op_in_seq (pv 5) (pv 2) (by rfl)))) (fun _ _ _ _ _ => (pv 5)))
      (pss_cons (ps_if (pt_not (pt_val (pe_call G2 (hr.mono (by decide)) (by rfl) g2 k2 b2 .nil pass0 (pa_cons (pv 0) (pa_cons (pe_call G3 (hr.mono (by decide)) (by rfl) g3 k3 b3 .nil pass0 (pa_cons (pv 0) (pa_cons (pv 3) pa_nil))) pa_nil))))) (pss_one (ps_ret (pe_op op_cat (pe_lst (pa_cons pe_int pa_nil)) (pe_call G4 (hr.mono (by decide)) (by rfl) g4 k4 b4 .nil pass0 (pa_cons (pe_call G5 (hr.mono (by decide)) (by rfl) g5 k5 b5 .nil pass0 (pa_cons (pv 0) (pa_cons (pv 3) pa_nil))) pa_nil))))) pss_nil)
      (pss_cons (ps_set (i := 4) sc_call_can.nd rfl (Or.inr rfl) (pe_call G6 (hr.mono (by decide)) (by rfl) g6 k6 b6 .nil pass0 (pa_cons (pv 0) (pa_cons (pv 3) pa_nil))))
      (pss_one (ps_ret (pe_op op_cat (pe_lst (pa_cons pe_int pa_nil)) (pe_call G4 (hr.mono (by decide)) (by rfl) g4 k4 b4 .nil pass0 (pa_cons (pe_lc (own := [("applicant", 5)]) (g := gName 5) (tt := tYes) (te := (tDGet (tVar 4) (tVar 5))) rfl sc_call_can.nd (pi_list (pv 3)) (blkOk_by (N := ["house", "reader", "applicants", "in_order", "told", "applicant"]) (sc := defScope s_call_can) (by decide +kernel)) (fun _ _ _ _ _ => pg_name (i := 5) sc_call_can.nd rfl (Or.inl rfl)) (fun _ _ _ _ _ => pts_nil) (fun _ _ _ _ _ => (pe_dget hu (pv 4) (pv 5) (fun _ _ => rfl)))) pa_nil))))))))))

/-! ### call_room: level 3; slots 0 house 1 reader 2 applicants 3 rooms -/
abbrev s_call_room : Stmt := top 62
theorem sc_call_room : FnScope ["house", "reader", "applicants", "rooms"] ["house", "reader"] (defScope s_call_room) := ⟨rfl, rfl, rfl, by decide +kernel, rfl, by decide +kernel, by decide +kernel⟩
def t_call_room (K : PySem.W.Frag) (C_Giving C_House C_Reader : Addr) (sp0 sp1 sp2 : Sp) : TS :=
    (tSeq (tAsg (tMeth C_Reader "take_list" sp0 [] E0 (tVar 1) tNil) (gName 2))
    (tSeq (tIfS (tNot (tB (tCall sp1 [] E0 (tCons (tVar 0) (tCons (tVar 2) tNil))))) (tRet (tLst (tCons (tC (.int (-2))) tNil))) tNext)
    (tSeq (tAsg (tCall sp2 [] E0 (tCons (tVar 0) (tCons (tVar 2) tNil))) (gName 3))
    (tRet (tOp rCat (tLst (tCons (tCB (rLen K) (tCons (tVar 2) tNil)) (tCons (tCB (rSum K) (tCons (tVar 3) tNil)) tNil))) (tVar 3))))))
theorem ok_call_room {f : Addr} {fd : FuncData} {sp0 sp1 sp2 : Sp} (F : Fun K "call_room" "call_room" s_call_room f fd) (T : Txt K mg C_Giving C_House C_Reader) (A0 : MethOk P w K mg base 2 C_Reader "take_list" ["self"] sp0) (A1 : CallOk P w K mg base 2 "are_in_row" ["house", "applicants"] sp1) (A2 : CallOk P w K mg base 2 "room_by_day" ["house", "applicants"] sp2) {sp : Sp} (len : ∀ vs H Q E, sp vs H Q E → vs.length = 2)
    (pure : ∀ vs H Q E, sp vs H Q E → t_call_room K C_Giving C_House C_Reader sp0 sp1 sp2 { nx := fun _ H' => Q .non H', rt := Q } (start ["house", "reader", "applicants", "rooms"] vs) H) : FnOk P w K mg base CX0 3 f fd ["house", "reader"] sp := by
  obtain ⟨f0, fd0, m0, b0, G0⟩ := A0.ex
  obtain ⟨f1, fd1, g1, k1, b1, G1⟩ := A1.ex
  obtain ⟨f2, fd2, g2, k2, b2, G2⟩ := A2.ex
  refine F.ok sc_call_room len (fun cdv A outer s H vs Q E hr h => ⟨t_call_room K C_Giving C_House C_Reader sp0 sp1 sp2, ?_, pure vs H Q E h⟩)
  exact (pss_cons (ps_set (i := 2) sc_call_room.nd rfl (Or.inl rfl) (pe_meth0 (pv 1) T.cl_Reader m0 G0 (hr.mono (by decide)) b0 .nil pass0))
      (pss_cons (ps_if (pt_not (pt_val (pe_call G1 (hr.mono (by decide)) (by rfl) g1 k1 b1 .nil pass0 (pa_cons (pv 0) (pa_cons (pv 2) pa_nil))))) (pss_one (ps_ret (pe_lst (pa_cons (pe_const (by rfl) T.c_LIST_NOT_AS_TOLD) pa_nil)))) pss_nil)
      (pss_cons (ps_set (i := 3) sc_call_room.nd rfl (Or.inl rfl) (pe_call G2 (hr.mono (by decide)) (by rfl) g2 k2 b2 .nil pass0 (pa_cons (pv 0) (pa_cons (pv 2) pa_nil))))
      (pss_one (ps_ret (pe_op op_cat (pe_lst (pa_cons (pe_callB call_len_seq (by rfl) T.b_len PySem.boot_len (pa_cons (pv 2) pa_nil)) (pa_cons (pe_callB (cr_sum rfl) (by rfl) T.b_sum (by decide +kernel) (pa_cons (pv 3) pa_nil)) pa_nil))) (pv 3)))))))

/-! ### call_check: level 7; slots 0 house 1 reader 2 days 3 day_of 4 applicant 5 day -/
abbrev s_call_check : Stmt := top 63
theorem sc_call_check : FnScope ["house", "reader", "days", "day_of", "applicant", "day"] ["house", "reader"] (defScope s_call_check) := ⟨rfl, rfl, rfl, by decide +kernel, rfl, by decide +kernel, by decide +kernel⟩
def t_call_check (K : PySem.W.Frag) (C_Giving C_House C_Reader : Addr) (sp0 sp1 sp2 sp3 : Sp) : TS :=
    (tSeq (tAsg (tMeth C_Reader "take_list" sp0 [] E0 (tVar 1) tNil) (gName 2))
    (tSeq (tIfS (tNot (tB (tCall sp1 [] E0 (tCons (tVar 0) (tCons (tVar 2) tNil))))) (tRet (tLst (tCons (tC (.int (-2))) tNil))) tNext)
    (tSeq (tAsg tDNewK (gName 3))
    (tSeq (tFor (iZip K (tCons (tFld K (tVar 0) "row") (tCons (tVar 2) tNil))) (gTup K 2 (gCons (gName 4) (gCons (gName 5) gNil))) (tIfS (tTest (tOp rNe (tVar 5) (tC (.int (-1))))) (sDPut (tVar 3) (tVar 4) (tVar 5)) tNext))
    (tSeq (tIfS (tAnd (tTest (tOp (rEqD K) (tCB rListDK (tCons (tVar 3) tNil)) (tCall sp3 [] E0 (tCons (tVar 0) tNil)))) (tB (tCall sp2 [] E0 (tCons (tVar 0) (tCons (tVar 3) tNil))))) (tRet (tLst (tCons (tC (.int 1)) tNil))) tNext)
    (tRet (tLst (tCons (tC (.int 0)) tNil))))))))
theorem ok_call_check {f : Addr} {fd : FuncData} {sp0 sp1 sp2 sp3 : Sp} (F : Fun K "call_check" "call_check" s_call_check f fd) (T : Txt K mg C_Giving C_House C_Reader) (A0 : MethOk P w K mg base 2 C_Reader "take_list" ["self"] sp0) (A1 : CallOk P w K mg base 3 "are_days_or_none" ["house", "days"] sp1) (A2 : CallOk P w K mg base 2 "is_giving" ["house", "day_of"] sp2) (A3 : CallOk P w K mg base 6 "served" ["house"] sp3) {sp : Sp} (len : ∀ vs H Q E, sp vs H Q E → vs.length = 2)
    (pure : ∀ vs H Q E, sp vs H Q E → t_call_check K C_Giving C_House C_Reader sp0 sp1 sp2 sp3 { nx := fun _ H' => Q .non H', rt := Q } (start ["house", "reader", "days", "day_of", "applicant", "day"] vs) H) : FnOk P w K mg base CX0 7 f fd ["house", "reader"] sp := by
  obtain ⟨f0, fd0, m0, b0, G0⟩ := A0.ex
  obtain ⟨f1, fd1, g1, k1, b1, G1⟩ := A1.ex
  obtain ⟨f2, fd2, g2, k2, b2, G2⟩ := A2.ex
  obtain ⟨f3, fd3, g3, k3, b3, G3⟩ := A3.ex
  refine F.ok sc_call_check len (fun cdv A outer s H vs Q E hr h => ⟨t_call_check K C_Giving C_House C_Reader sp0 sp1 sp2 sp3, ?_, pure vs H Q E h⟩)
  have hu := hu_of hr
  exact (pss_cons (ps_set (i := 2) sc_call_check.nd rfl (Or.inl rfl) (pe_meth0 (pv 1) T.cl_Reader m0 G0 (hr.mono (by decide)) b0 .nil pass0))
      (pss_cons (ps_if (pt_not (pt_val (pe_call G1 (hr.mono (by decide)) (by rfl) g1 k1 b1 .nil pass0 (pa_cons (pv 0) (pa_cons (pv 2) pa_nil))))) (pss_one (ps_ret (pe_lst (pa_cons (pe_const (by rfl) T.c_LIST_NOT_AS_TOLD) pa_nil)))) pss_nil)
      (pss_cons (ps_set (i := 3) sc_call_check.nd rfl (Or.inl rfl) pe_dnewK)
      (pss_cons (ps_for PassesOwn.never rfl (pi_zip (by rfl) T.b_zip (pa_cons (pe_fld (pv 0) rfl) (pa_cons (pv 2) pa_nil))) (pg_tup rfl (pgs_cons (pg_name (i := 4) sc_call_check.nd rfl (Or.inl rfl)) (pgs_cons (pg_name (i := 5) sc_call_check.nd rfl (Or.inl rfl)) pgs_nil))) (pss_one (ps_if (pt_cmpR op_ne (pv 5) (pe_const (by rfl) T.c_NO_DAY) (nomark _)) (pss_one (ps_dput hu (pv 3) (pv 4) (pv 5) rfl)) pss_nil)))
      (pss_cons (ps_if (PW.pt (pw_and (pt_cmpR (op_eqD hr.units) (pe_callTy (call_listD rfl) (by rfl) T.b_list (by decide +kernel) (pa_cons (pv 3) pa_nil)) (pe_call G3 (hr.mono (by decide)) (by rfl) g3 k3 b3 .nil pass0 (pa_cons (pv 0) pa_nil)) (nomark _)) (pw_and1 (pt_val (pe_call G2 (hr.mono (by decide)) (by rfl) g2 k2 b2 .nil pass0 (pa_cons (pv 0) (pa_cons (pv 3) pa_nil))))))) (pss_one (ps_ret (pe_lst (pa_cons pe_int pa_nil)))) pss_nil)
      (pss_one (ps_ret (pe_lst (pa_cons pe_int pa_nil)))))))))

/-! ### call_would: level 12; slots 0 house 1 reader -/
abbrev s_call_would : Stmt := top 65
theorem sc_call_would : FnScope ["house", "reader"] ["house", "reader"] (defScope s_call_would) := ⟨rfl, rfl, rfl, by decide +kernel, rfl, by decide +kernel, by decide +kernel⟩
def t_call_would (K : PySem.W.Frag) (C_Giving C_House C_Reader : Addr) (sp0 : Sp) (fv_would : Addr) : TS :=
    (tRet (tCall sp0 [] E0 (tCons (tVar 0) (tCons (tVar 1) (tCons (tC (.ref fv_would)) tNil)))))
theorem ok_call_would {f : Addr} {fd : FuncData} {sp0 : Sp} (F : Fun K "call_would" "call_would" s_call_would f fd) (T : Txt K mg C_Giving C_House C_Reader) (A0 : CallOk P w K mg base 11 "about_newcomer" ["house", "reader", "answer_about"] sp0) {fv_would : Addr} (gv_would : mg "would" = some (.ref fv_would)) {sp : Sp} (len : ∀ vs H Q E, sp vs H Q E → vs.length = 2)
    (pure : ∀ vs H Q E, sp vs H Q E → t_call_would K C_Giving C_House C_Reader sp0 fv_would { nx := fun _ H' => Q .non H', rt := Q } (start ["house", "reader"] vs) H) : FnOk P w K mg base CX0 12 f fd ["house", "reader"] sp := by
  obtain ⟨f0, fd0, g0, k0, b0, G0⟩ := A0.ex
  refine F.ok sc_call_would len (fun cdv A outer s H vs Q E hr h => ⟨t_call_would K C_Giving C_House C_Reader sp0 fv_would, ?_, pure vs H Q E h⟩)
  exact (pss_one (ps_ret (pe_call G0 (hr.mono (by decide)) (by rfl) g0 k0 b0 .nil pass0 (pa_cons (pv 0) (pa_cons (pv 1) (pa_cons (pe_tab (by rfl) gv_would) pa_nil))))))

/-! ### answer_next: level 13; slots 0 house 1 reader 2 call -/
abbrev s_answer_next : Stmt := top 73
theorem sc_answer_next : FnScope ["house", "reader", "call"] ["house", "reader"] (defScope s_answer_next) := ⟨rfl, rfl, rfl, by decide +kernel, rfl, by decide +kernel, by decide +kernel⟩
def t_answer_next (K : PySem.W.Frag) (C_Giving C_House C_Reader : Addr) (sp0 : Sp) (SA : Addr → Option Sp) (a_CALLS : Addr) (D_CALLS : Int → Option Addr) : TS :=
    (tSeq (tAsg (tOp (rTab a_CALLS D_CALLS) (tC (.ref a_CALLS)) (tMeth C_Reader "take_number" sp0 [] E0 (tVar 1) tNil)) (gName 2))
    (tRet (tCallA 2 SA (tCons (tVar 0) (tCons (tVar 1) tNil)))))
theorem ok_answer_next {f : Addr} {fd : FuncData} {sp0 : Sp} (F : Fun K "answer_next" "answer_next" s_answer_next f fd) (T : Txt K mg C_Giving C_House C_Reader) (A0 : MethOk P w K mg base 1 C_Reader "take_number" ["self"] sp0) {SA : Addr → Option Sp} (hA : ∀ f sp, SA f = some sp → Held P w K mg base 12 f sp) {a_CALLS : Addr} {D_CALLS : Int → Option Addr} (X_CALLS : TabOk K mg "CALLS" a_CALLS D_CALLS) {sp : Sp} (len : ∀ vs H Q E, sp vs H Q E → vs.length = 2)
    (pure : ∀ vs H Q E, sp vs H Q E → t_answer_next K C_Giving C_House C_Reader sp0 SA a_CALLS D_CALLS { nx := fun _ H' => Q .non H', rt := Q } (start ["house", "reader", "call"] vs) H) : FnOk P w K mg base CX0 13 f fd ["house", "reader"] sp := by
  obtain ⟨f0, fd0, m0, b0, G0⟩ := A0.ex
  refine F.ok sc_answer_next len (fun cdv A outer s H vs Q E hr h => ⟨t_answer_next K C_Giving C_House C_Reader sp0 SA a_CALLS D_CALLS, ?_, pure vs H Q E h⟩)
  exact (pss_cons (ps_set (i := 2) sc_answer_next.nd rfl (Or.inl rfl) (pe_tabIx X_CALLS (pe_tab (by rfl) X_CALLS.g) (pe_meth0 (pv 1) T.cl_Reader m0 G0 (hr.mono (by decide)) b0 .nil pass0) (fun _ _ => rfl)))
      (pss_one (ps_ret (pe_callA hA (hr.mono (by decide)) (by rfl) (Or.inl rfl) (pa_cons (pv 0) (pa_cons (pv 1) pa_nil))))))

/-! ### answers: level 14; slots 0 calls 1 house 2 reader 3 answered 4 answer -/
abbrev s_answers : Stmt := top 79
theorem sc_answers : FnScope ["calls", "house", "reader", "answered", "answer"] ["calls"] (defScope s_answers) := ⟨rfl, rfl, rfl, by decide +kernel, rfl, by decide +kernel, by decide +kernel⟩
def t_answers (K : PySem.W.Frag) (C_Giving C_House C_Reader : Addr) (sp0 sp1 sp2 sp3 : Sp) : TS :=
    (tSeq (tAsg (tMake C_House sp0 [] E0 tNil) (gName 1))
    (tSeq (tAsg (tMake C_Reader sp1 [] E0 (tCons (tVar 0) tNil)) (gName 2))
    (tSeq (tAsg (tLst tNil) (gName 3))
    (tSeq (tWhile (tNot (tB (tMeth C_Reader "is_at_end" sp2 [] E0 (tVar 2) tNil))) (tSeq (tAsg (tCall sp3 [] E0 (tCons (tVar 1) (tCons (tVar 2) tNil))) (gName 4))
    (tSeq (tDrop (tBM K "list" rAppend (tVar 3) (tCons (tCB (rLen K) (tCons (tVar 4) tNil)) tNil)))
    (tDrop (tBM K "list" rExtend (tVar 3) (tCons (tVar 4) tNil))))))
    (tRet (tVar 3))))))
theorem ok_answers {f : Addr} {fd : FuncData} {sp0 sp1 sp2 sp3 : Sp} (F : Fun K "answers" "answers" s_answers f fd) (T : Txt K mg C_Giving C_House C_Reader) (A0 : MakeOk P w K mg base 2 "House" C_House ["self"] sp0) (A1 : MakeOk P w K mg base 1 "Reader" C_Reader ["self", "numbers"] sp1) (A2 : MethOk P w K mg base 1 C_Reader "is_at_end" ["self"] sp2) (A3 : CallOk P w K mg base 13 "answer_next" ["house", "reader"] sp3) {sp : Sp} (len : ∀ vs H Q E, sp vs H Q E → vs.length = 1)
    (pure : ∀ vs H Q E, sp vs H Q E → t_answers K C_Giving C_House C_Reader sp0 sp1 sp2 sp3 { nx := fun _ H' => Q .non H', rt := Q } (start ["calls", "house", "reader", "answered", "answer"] vs) H) : FnOk P w K mg base CX0 14 f fd ["calls"] sp := by
  obtain ⟨f0, fd0, m0, g0, b0, G0⟩ := A0.ex
  obtain ⟨f1, fd1, m1, g1, b1, G1⟩ := A1.ex
  obtain ⟨f2, fd2, m2, b2, G2⟩ := A2.ex
  obtain ⟨f3, fd3, g3, k3, b3, G3⟩ := A3.ex
  refine F.ok sc_answers len (fun cdv A outer s H vs Q E hr h => ⟨t_answers K C_Giving C_House C_Reader sp0 sp1 sp2 sp3, ?_, pure vs H Q E h⟩)
  exact (pss_cons (ps_set (i := 1) sc_answers.nd rfl (Or.inl rfl) (pe_make0 m0 G0 (hr.mono (by decide)) (by rfl) g0 b0 .nil pass0))
      (pss_cons (ps_set (i := 2) sc_answers.nd rfl (Or.inl rfl) (pe_make m1 G1 (hr.mono (by decide)) (by rfl) g1 b1 .nil pass0 (pa_cons (pv 0) pa_nil)))
      (pss_cons (ps_set (i := 3) sc_answers.nd rfl (Or.inl rfl) (pe_lst pa_nil))
      (pss_cons (ps_while PassesOwn.never (pt_not (pt_val (pe_meth0 (pv 2) T.cl_Reader m2 G2 (hr.mono (by decide)) b2 .nil pass0))) (pss_cons (ps_set (i := 4) sc_answers.nd rfl (Or.inl rfl) (pe_call G3 (hr.mono (by decide)) (by rfl) g3 k3 b3 .nil pass0 (pa_cons (pv 1) (pa_cons (pv 2) pa_nil))))
      (pss_cons (ps_expr (pe_bm PySem.F.plainAttrs_list PySem.F.slot_list_append PySem.F.type_list_append mt_append (pv 3) (pa_cons (pe_callB call_len_seq (by rfl) T.b_len PySem.boot_len (pa_cons (pv 4) pa_nil)) pa_nil)))
      (pss_one (ps_expr (pe_bm PySem.F.plainAttrs_list PySem.F.slot_list_extend PySem.F.type_list_extend mt_extend (pv 3) (pa_cons (pv 4) pa_nil)))))))
      (pss_one (ps_ret (pv 3)))))))
end
end Vp
set_option Elab.async false
set_option linter.all false
set_option maxRecDepth 100000
set_option maxHeartbeats 1000000
/-! How the program's things lie in the heap. -/
namespace Vp
open PySem PySem.Spec PyProof.Rows L2
open Vbkoaf (Person Day)
open Vb (G Q keys)

theorem lk_here {n : Str} {u : V} {fs : List (Str × V)} : List.lookup n ((n, u) :: fs) = some u := by
  simp only [List.lookup, beq_self_eq_true]
theorem lk_past {n f : Str} {u : V} {fs : List (Str × V)} (ne : (n == f) = false) : List.lookup n ((f, u) :: fs) = List.lookup n fs := by
  simp only [List.lookup, ne]
theorem put_here {n : Str} {u y : V} {fs : List (Str × V)} : putF n u ((n, y) :: fs) = (n, u) :: fs := if_pos rfl
theorem put_past {n f : Str} {u y : V} {fs : List (Str × V)} (ne : ¬ f = n) : putF n u ((f, y) :: fs) = (f, y) :: putF n u fs := if_neg ne

/-! ### numbers in lists -/
def nats (l : List Nat) : List V := l.map fun (n : Nat) => V.int (n : Int)
theorem nats_length {l : List Nat} : (nats l).length = l.length := List.length_map ..
theorem nats_get {l : List Nat} {i : Nat} : (nats l)[i]? = (l[i]?).map fun (n : Nat) => V.int (n : Int) := List.getElem?_map ..
theorem nats_append {l m : List Nat} : nats (l ++ m) = nats l ++ nats m := List.map_append ..
theorem nats_some {l : List Nat} {i n : Nat} (h : l[i]? = some n) : (nats l)[i]? = some (V.int (n : Int)) := by rw [nats_get, h]; rfl
theorem of_nats {l : List Nat} {i : Nat} {x : V} (h : (nats l)[i]? = some x) : ∃ n, l[i]? = some n ∧ x = V.int (n : Int) := by
  rw [nats_get] at h
  cases e : l[i]? with
  | none => rw [e] at h; cases h
  | some n => rw [e] at h; exact ⟨n, rfl, (Option.some.inj h).symm⟩
theorem flat_nats (l : List Nat) : (nats l).all flatV = true := by
  rw [List.all_eq_true]
  intro x hx
  obtain ⟨n, _, rfl⟩ := List.mem_map.mp hx
  rfl
theorem take_more {α : Type} {l : List α} {i : Nat} {x : α} (h : l[i]? = some x) : l.take (i + 1) = l.take i ++ [x] := by
  rw [List.take_add_one, h]; rfl

/-! ### dicts with numbers as keys -/
def kvs {β : Type} (f : β → V) (l : List (Nat × β)) : List (Key × V) := l.map fun t => (Sum.inl (t.1 : Int), f t.2)
theorem kvs_length {β : Type} {f : β → V} {l : List (Nat × β)} : (kvs f l).length = l.length := List.length_map ..
theorem kvs_get {β : Type} {f : β → V} {l : List (Nat × β)} {i : Nat} {k : Key} {v : V} (h : (kvs f l)[i]? = some (k, v)) : ∃ t, l[i]? = some t ∧ k = Sum.inl (t.1 : Int) ∧ v = f t.2 := by
  rw [kvs, List.getElem?_map] at h
  cases e : l[i]? with
  | none => rw [e] at h; cases h
  | some t => rw [e] at h; cases h; exact ⟨t, rfl, rfl, rfl⟩
theorem val_kvs {β : Type} {f : β → V} {a : Nat} : ∀ {l : List (Nat × β)}, valV (kvs f l) (Sum.inl (a : Int)) = (l.lookup a).map f
  | [] => rfl
  | (b, v) :: l => by
    by_cases c : a = b
    · subst c
      rw [show kvs f ((a, v) :: l) = (Sum.inl (a : Int), f v) :: kvs f l from rfl, valV_pos rfl]
      simp [List.lookup]
    · have c1 : ¬ (Sum.inl (b : Int) : Key) = Sum.inl (a : Int) := fun z => c (by
        have := Sum.inl.inj z
        omega)
      have c2 : (a == b) = false := by simpa using c
      rw [show kvs f ((b, v) :: l) = (Sum.inl (b : Int), f v) :: kvs f l from rfl, valV_neg c1, val_kvs, List.lookup, c2]
theorem look_none {β : Type} {a : Nat} : ∀ {l : List (Nat × β)}, l.lookup a = none ↔ a ∉ keys l
  | [] => by simp [keys]
  | (b, v) :: l => by
    by_cases c : a = b
    · subst c; simp [List.lookup, Vb.keys_cons]
    · have c2 : (a == b) = false := by simpa using c
      rw [List.lookup, c2, Vb.keys_cons, List.mem_cons]
      simp only [c, false_or]
      exact look_none
theorem look_mem {β : Type} {a : Nat} {v : β} : ∀ {l : List (Nat × β)}, l.lookup a = some v → (a, v) ∈ l
  | [], h => by cases h
  | (b, u) :: l, h => by
    by_cases c : a = b
    · subst c
      simp [List.lookup] at h
      subst h
      exact List.mem_cons_self ..
    · have c2 : (a == b) = false := by simpa using c
      rw [List.lookup, c2] at h
      exact List.mem_cons_of_mem _ (look_mem h)
theorem mem_look {β : Type} {a : Nat} {v : β} : ∀ {l : List (Nat × β)}, (keys l).Nodup → (a, v) ∈ l → l.lookup a = some v
  | [], _, h => by cases h
  | (b, u) :: l, nd, h => by
    have nd' := List.nodup_cons.mp nd
    rcases List.mem_cons.mp h with z | z
    · cases z; simp [List.lookup]
    · have c : a ≠ b := fun y => nd'.1 (by rw [← y]; exact Vb.mem_keys (t := (a, v)) z)
      have c2 : (a == b) = false := by simpa using c
      rw [List.lookup, c2]
      exact mem_look nd'.2 z
theorem look_some {β : Type} {a : Nat} {l : List (Nat × β)} (h : a ∈ keys l) : ∃ v, l.lookup a = some v := by
  cases e : l.lookup a with
  | none => exact absurd h (look_none.mp e)
  | some v => exact ⟨v, rfl⟩
/-- in its place, or at the end -/
def putN {β : Type} : List (Nat × β) → Nat → β → List (Nat × β)
  | [], a, v => [(a, v)]
  | (b, u) :: l, a, v => if b = a then (a, v) :: l else (b, u) :: putN l a v
theorem putN_new {β : Type} {a : Nat} {v : β} : ∀ {l : List (Nat × β)}, a ∉ keys l → putN l a v = l ++ [(a, v)]
  | [], _ => rfl
  | (b, u) :: l, h => by
    rw [Vb.keys_cons, List.mem_cons] at h
    rw [putN, if_neg fun z => h (.inl z.symm), putN_new fun z => h (.inr z)]; rfl
theorem map_off {β : Type} {f : β → V} {a : Nat} {v : V} : ∀ {l : List (Nat × β)}, a ∉ keys l → (kvs f l).map (fun kv => if kv.1 = Sum.inl (a : Int) then (kv.1, v) else kv) = kvs f l
  | [], _ => rfl
  | (b, u) :: l, h => by
    rw [Vb.keys_cons, List.mem_cons] at h
    have c1 : ¬ (Sum.inl (b : Int) : Key) = Sum.inl (a : Int) := fun z => h (.inl (by
      have := Sum.inl.inj z
      show a = b
      omega))
    rw [show kvs f ((b, u) :: l) = (Sum.inl (b : Int), f u) :: kvs f l from rfl, List.map_cons, if_neg c1, map_off fun z => h (.inr z)]
theorem map_on {β : Type} {f : β → V} {a : Nat} {v : β} : ∀ {l : List (Nat × β)}, (keys l).Nodup → a ∈ keys l → (kvs f l).map (fun kv => if kv.1 = Sum.inl (a : Int) then (kv.1, f v) else kv) = kvs f (putN l a v)
  | [], _, h => by cases h
  | (b, u) :: l, nd, h => by
    have nd' := List.nodup_cons.mp nd
    rw [show kvs f ((b, u) :: l) = (Sum.inl (b : Int), f u) :: kvs f l from rfl, List.map_cons, putN]
    by_cases c : b = a
    · subst c
      rw [if_pos rfl, if_pos rfl, map_off nd'.1]; rfl
    · have c1 : ¬ (Sum.inl (b : Int) : Key) = Sum.inl (a : Int) := fun z => c (by
        have := Sum.inl.inj z
        omega)
      have ha : a ∈ keys l := by
        rcases List.mem_cons.mp h with z | z
        · exact absurd z.symm c
        · exact z
      rw [if_neg c1, if_neg c, map_on nd'.2 ha]; rfl
theorem putK_kvs {β : Type} {f : β → V} {a : Nat} {v : β} {l : List (Nat × β)} (nd : (keys l).Nodup) : putK (kvs f l) (Sum.inl (a : Int)) (f v) = kvs f (putN l a v) := by
  by_cases h : a ∈ keys l
  · have e : ((kvs f l).any fun kv => decide (kv.1 = Sum.inl (a : Int))) = true := by
      rw [valV_any, val_kvs]
      obtain ⟨v, hv⟩ := look_some h
      rw [hv]; rfl
    rw [putK, if_pos e, map_on nd h]
  · have e : valV (kvs f l) (Sum.inl (a : Int)) = none := by rw [val_kvs, look_none.mpr h]; rfl
    rw [putK_new _ e, putN_new h]
    simp [kvs]
theorem put_is {g : G} {a d : Nat} : putN g a d = Vb.put g a d := by
  induction g with
  | nil => rfl
  | cons t g ih => obtain ⟨b, e⟩ := t; rw [putN, Vb.put, ih]
theorem putN_keys {β : Type} {a : Nat} {v : β} {l : List (Nat × β)} (h : a ∈ keys l) : keys (putN l a v) = keys l := by
  induction l with
  | nil => cases h
  | cons t l ih =>
    obtain ⟨b, u⟩ := t
    rw [putN]
    by_cases c : b = a
    · subst c; rw [if_pos rfl]; rfl
    · rw [if_neg c, Vb.keys_cons, Vb.keys_cons, ih]
      rcases List.mem_cons.mp h with z | z
      · exact absurd z.symm c
      · exact z

/-! ### several lists of numbers -/
structure Lists (H : Hp) (as : List Addr) (ls : List (List Nat)) : Prop where
  len : as.length = ls.length
  at_ : ∀ (i : Nat) (a : Addr) (l : List Nat), as[i]? = some a → ls[i]? = some l → H a = some (.lst (nats l))
theorem Lists.same {H H' : Hp} {as : List Addr} {ls : List (List Nat)} (h : Lists H as ls) (s : Same H H') : Lists H' as ls := ⟨h.len, fun i a l h1 h2 => s _ _ (h.at_ i a l h1 h2)⟩
theorem Lists.get {H : Hp} {as : List Addr} {ls : List (List Nat)} (h : Lists H as ls) {i : Nat} {l : List Nat} (hl : ls[i]? = some l) : ∃ a, as[i]? = some a ∧ H a = some (.lst (nats l)) := by
  have hi : i < as.length := by rw [h.len]; exact (List.getElem?_eq_some_iff.mp hl).1
  exact ⟨as[i], List.getElem?_eq_getElem hi, h.at_ i _ _ (List.getElem?_eq_getElem hi) hl⟩

/-! ### the house -/
structure M where
  ds : List Day
  ppl : List (Nat × List Nat)
  row : List Nat
structure Lay where
  dx : Addr
  pl : Addr
  qu : Addr
  ki : Addr
  da : Addr
  ro : Addr
  qs : List Addr
  as : List Addr
def Lay.all (a : Addr) (l : Lay) : List Addr := a :: l.pl :: l.qu :: l.ki :: l.da :: l.ro :: (l.qs ++ l.as)
def hF (D : Nat) (l : Lay) : List (Str × V) := [("day_count", .int (D : Int)), ("places", .ref l.pl), ("quotas", .ref l.qu), ("kind_of", .ref l.ki), ("days_of", .ref l.da), ("row", .ref l.ro)]
theorem hF_day_count {D : Nat} {l : Lay} : (hF D l).lookup ("day_count" : Str) = some (.int (D : Int)) := lk_here
theorem hF_places {D : Nat} {l : Lay} : (hF D l).lookup ("places" : Str) = some (.ref l.pl) := (lk_past (by decide +kernel)).trans lk_here
theorem hF_quotas {D : Nat} {l : Lay} : (hF D l).lookup ("quotas" : Str) = some (.ref l.qu) := (lk_past (by decide +kernel)).trans ((lk_past (by decide +kernel)).trans lk_here)
theorem hF_kind_of {D : Nat} {l : Lay} : (hF D l).lookup ("kind_of" : Str) = some (.ref l.ki) := (lk_past (by decide +kernel)).trans ((lk_past (by decide +kernel)).trans ((lk_past (by decide +kernel)).trans lk_here))
theorem hF_days_of {D : Nat} {l : Lay} : (hF D l).lookup ("days_of" : Str) = some (.ref l.da) := (lk_past (by decide +kernel)).trans ((lk_past (by decide +kernel)).trans ((lk_past (by decide +kernel)).trans ((lk_past (by decide +kernel)).trans lk_here)))
theorem hF_row {D : Nat} {l : Lay} : (hF D l).lookup ("row" : Str) = some (.ref l.ro) := (lk_past (by decide +kernel)).trans ((lk_past (by decide +kernel)).trans ((lk_past (by decide +kernel)).trans ((lk_past (by decide +kernel)).trans ((lk_past (by decide +kernel)).trans lk_here))))
/-- nothing under this name -/
theorem hF_no {D : Nat} {l : Lay} {m : Str} (h : (["day_count", "places", "quotas", "kind_of", "days_of", "row"] : List Str).all (fun f => !(m == f)) = true) : (hF D l).lookup m = none := by
  simp only [List.all_cons, List.all_nil, Bool.and_eq_true, Bool.not_eq_true'] at h
  obtain ⟨h1, h2, h3, h4, h5, h6, _⟩ := h
  exact (lk_past h1).trans ((lk_past h2).trans ((lk_past h3).trans ((lk_past h4).trans ((lk_past h5).trans ((lk_past h6).trans rfl)))))

structure HouseAt (C : Addr) (H : Hp) (a : Addr) (l : Lay) (m : M) : Prop where
  ins : H a = some (.ins C l.dx (hF m.ds.length l))
  pl : H l.pl = some (.lst (nats (m.ds.map (·.places))))
  qu : H l.qu = some (.lst (l.qs.map V.ref))
  qs : Lists H l.qs (m.ds.map (·.kinds))
  ki : H l.ki = some (.lst (nats (m.ppl.map (·.1))))
  da : H l.da = some (.lst (l.as.map V.ref))
  as : Lists H l.as (m.ppl.map (·.2))
  ro : H l.ro = some (.lst (nats m.row))
  nd : (l.all a).Nodup
theorem HouseAt.same {C : Addr} {H H' : Hp} {a : Addr} {l : Lay} {m : M} (h : HouseAt C H a l m) (s : Same H H') : HouseAt C H' a l m :=
  ⟨s _ _ h.ins, s _ _ h.pl, s _ _ h.qu, h.qs.same s, s _ _ h.ki, s _ _ h.da, h.as.same s, s _ _ h.ro, h.nd⟩

/-! ### wishes: a dict of lists -/
structure WishAt (H : Hp) (w : Addr) (W : List (Nat × List Nat)) (as : List Addr) : Prop where
  d : Rd H w (.dK (kvs V.ref ((keys W).zip as)))
  ls : Lists H as (W.map (·.2))

/-! ### a giving -/
def gF (h w d : Addr) : List (Str × V) := [("house", .ref h), ("wishes", .ref w), ("day_of", .ref d)]
theorem gF_house {h w d : Addr} : (gF h w d).lookup ("house" : Str) = some (.ref h) := lk_here
theorem gF_wishes {h w d : Addr} : (gF h w d).lookup ("wishes" : Str) = some (.ref w) := (lk_past (by decide +kernel)).trans lk_here
theorem gF_day_of {h w d : Addr} : (gF h w d).lookup ("day_of" : Str) = some (.ref d) := (lk_past (by decide +kernel)).trans ((lk_past (by decide +kernel)).trans lk_here)
theorem gF_no {h w d : Addr} {m : Str} (e : (["house", "wishes", "day_of"] : List Str).all (fun f => !(m == f)) = true) : (gF h w d).lookup m = none := by
  simp only [List.all_cons, List.all_nil, Bool.and_eq_true, Bool.not_eq_true'] at e
  obtain ⟨h1, h2, h3, _⟩ := e
  exact (lk_past h1).trans ((lk_past h2).trans ((lk_past h3).trans rfl))
def dayV (d : Nat) : V := .int (d : Int)
def kG (g : G) : List (Key × V) := kvs dayV g

/-! ### heaps -/
theorem same_upd {H : Hp} {p : Addr} {o : HO} (h : H p = none) : Same H (upd H p o) := fun b x e => by
  rw [upd_ne (ne_of_none e h)]
  exact e
/-- all but what stands at one address -/
def But (a : Addr) (H H' : Hp) : Prop := ∀ b o, H b = some o → b ≠ a → H' b = some o
theorem But.of_same {a : Addr} {H H' : Hp} (s : Same H H') : But a H H' := fun b o e _ => s b o e
theorem But.trans {a : Addr} {H H1 H2 : Hp} (s : But a H H1) (t : But a H1 H2) : But a H H2 := fun b o e n => t b o (s b o e n) n
theorem But.upd {a : Addr} {H : Hp} {o : HO} : But a H (upd H a o) := fun b x e n => by rw [upd_ne n]; exact e
end Vp
set_option Elab.async false
set_option linter.all false
set_option maxRecDepth 100000
set_option maxHeartbeats 1000000
namespace Vp
open PySem PySem.Spec PyProof.Rows L2
open Vbkoaf (Person Day)
open Vb (G Q keys)
section
variable {K : PySem.W.Frag} {mg : Str → Option Value} {CG CH CR : Addr}

def spOnDay (CG : Addr) : Sp := fun vs H Q _ => ∃ (ga dx h w d : Addr) (g : G) (e : Nat), vs = [.ref ga, .int (e : Int)] ∧ H ga = some (.ins CG dx (gF h w d)) ∧ H d = some (.dK (kG g)) ∧ (keys g).Nodup ∧ g.length ≤ 1000 ∧
  ∀ H' p, Same H H' → H p = none → H' p = some (.lst (nats (Vb.onL g e))) → Q (.ref p) H'
theorem pure_on_day (T : Txt K mg CG CH CR) (vs : List V) (H : Hp) (Q : VK) (E : XK) (h : spOnDay CG vs H Q E) : t_Giving_on_day K CG CH CR { nx := fun _ H' => Q .non H', rt := Q } (start ["self", "day", "applicant"] vs) H := by
  obtain ⟨ga, dx, h, w, d, g, e, rfl, hga, hd, nd, hl, q⟩ := h
  have ngd : ga ≠ d := ne_of hga hd (by intro z; cases z)
  refine ⟨d, _, hd, trivial, fun od => ?_⟩
  have hga1 : (upd H d (.frz od (.dK (kG g)))) ga = some (.ins CG dx (gF h w d)) := by rw [upd_ne ngd]; exact hga
  refine ⟨_, rfl, ga, CG, dx, _, _, rfl, hga1, T.cl_Giving, T.na_Giving_day_of, gF_day_of, d, od, rfl, .inl ⟨_, upd_same, fun D hD => ?_⟩⟩
  have ndD : D ≠ d := fun z => by rw [z, upd_same] at hD; cases hD
  refine lc_it walk_keys (fun i H' => Same (upd H d (.frz od (.dK (kG g)))) H' ∧ H' D = some (.lst (nats (keys ((g.take i).filter fun t => t.2 == e))))) ⟨same_upd hD, upd_same⟩ (fun i H' _ p => p.1 _ _ upd_same) ?_ ?_
  · rintro i x H' _ hi ⟨s, hp⟩ ⟨rfl, k, v, hk, rfl⟩
    obtain ⟨t, ht, rfl, rfl⟩ := kvs_get hk
    have hv : (g.lookup t.1) = some t.2 := mem_look nd (List.mem_of_getElem? ht)
    refine ⟨rfl, _, rfl, ga, CG, dx, _, _, rfl, s _ _ hga1, T.cl_Giving, T.na_Giving_day_of, gF_day_of, _, rfl, d, dayV t.2, rfl, .inl ⟨kG g, Sum.inl (t.1 : Int), .inr ⟨od, s _ _ upd_same⟩, rfl, ?_⟩, ?_⟩
    · rw [kG, val_kvs, hv]; rfl
    · refine ⟨_, rfl, rfl, _, rfl, ?_⟩
      have hstep : (g.take (i + 1)).filter (fun t => t.2 == e) = (g.take i).filter (fun t => t.2 == e) ++ (if t.2 == e then [t] else []) := by
        rw [take_more ht, List.filter_append, List.filter_cons]
        rfl
      refine ite2 (fun c => ?_) (fun c => ?_)
      · have c' : t.2 = e := by
          have := of_decide_eq_true c
          simp only [dayV, V.int.injEq] at this
          omega
        refine ⟨_, rfl, _, hp, ?_, fun b o hb => ?_, ?_⟩
        · rw [nats_length, keys, List.length_map]
          have := List.length_filter_le (fun t : Nat × Nat => t.2 == e) (g.take i)
          have := (List.take_sublist i g).length_le
          exact small1000 (by omega)
        · by_cases z : b = D
          · subst z; rw [hD] at hb; cases hb
          · rw [upd_ne z]; exact s _ _ hb
        · rw [upd_same, hstep, c']
          simp [keys, nats]
          rfl
      · have c' : ¬ t.2 = e := fun z => c (by rw [z]; exact decide_eq_true rfl)
        refine ⟨s, ?_⟩
        rw [hp, hstep]
        simp [c']
  · rintro H' ⟨s, hp⟩
    refine ⟨s _ _ upd_same, ?_⟩
    have e0 : g.take (kG g).length = g := by rw [kG, kvs_length, List.take_length]
    rw [e0] at hp
    refine q _ D (fun b o hb => ?_) ?_ ?_
    · by_cases z : b = d
      · subst z; rw [upd_same, ← hd, hb]
      · rw [upd_ne z]; exact s _ _ (by rw [upd_ne z]; exact hb)
    · rw [upd_ne ndD] at hD; exact hD
    · rw [upd_ne ndD]; exact hp

theorem vq {Q : VK} {b b' : Bool} {H : Hp} (e : b' = b) (h : Q (.bl b) H) : Q (.bl b') H := e ▸ h

/-! ### alike_on_day -/
/-- the people of the house, with the wishes told -/
def prob (m : M) (W : List (Nat × List Nat)) : Nat → Person := fun i => ⟨i, (m.ppl.getD i (0, [])).1, (W.lookup i).getD []⟩
/-- a giving of a house lies there -/
structure GivAt (CG CH : Addr) (H : Hp) (ga dx h w d : Addr) (l : Lay) (m : M) (g : G) : Prop where
  ins : H ga = some (.ins CG dx (gF h w d))
  hs : HouseAt CH H h l m
  day : H d = some (.dK (kG g))
  nd : (keys g).Nodup
  few : g.length ≤ 1000
  inP : ∀ a ∈ keys g, a < m.ppl.length
theorem GivAt.same {CG CH : Addr} {H H' : Hp} {ga dx h w d : Addr} {l : Lay} {m : M} {g : G} (x : GivAt CG CH H ga dx h w d l m g) (s : Same H H') : GivAt CG CH H' ga dx h w d l m g :=
  ⟨s _ _ x.ins, x.hs.same s, s _ _ x.day, x.nd, x.few, x.inP⟩
def kindAt (m : M) (a : Nat) : Nat := (m.ppl.getD a (0, [])).1
theorem kind_get {m : M} {a : Nat} (h : a < m.ppl.length) : (m.ppl.map (·.1))[a]? = some (kindAt m a) := by
  rw [List.getElem?_map, List.getElem?_eq_getElem h, kindAt, List.getD_eq_getElem?_getD, List.getElem?_eq_getElem h]; rfl
theorem onL_sub {g : G} {d a : Nat} (h : a ∈ Vb.onL g d) : a ∈ keys g := Vb.mem_keys (Vb.mem_onL.mp h)
def spAlike (CG CH : Addr) : Sp := fun vs H Q _ => ∃ (ga dx h w d : Addr) (l : Lay) (m : M) (g : G) (a e : Nat), vs = [.ref ga, .int (a : Int), .int (e : Int)] ∧ GivAt CG CH H ga dx h w d l m g ∧ a < m.ppl.length ∧
  ∀ H' p, Same H H' → H p = none → H' p = some (.lst (nats ((Vb.onL g e).filter fun o => kindAt m o == kindAt m a))) → Q (.ref p) H'
theorem pure_alike (T : Txt K mg CG CH CR) (vs : List V) (H : Hp) (Q : VK) (E : XK) (h : spAlike CG CH vs H Q E) : t_Giving_alike_on_day K CG CH CR (spOnDay CG) { nx := fun _ H' => Q .non H', rt := Q } (start ["self", "applicant", "day", "kind_of", "other"] vs) H := by
  obtain ⟨ga, dx, h, w, d, l, m, g, a, e, rfl, gv, ha, q⟩ := h
  -- kind_of = self.house.kind_of
  refine ⟨_, rfl, ga, CG, dx, _, _, rfl, gv.ins, T.cl_Giving, T.na_Giving_house, gF_house, h, CH, l.dx, _, _, rfl, gv.hs.ins, T.cl_House, T.na_House_kind_of, hF_kind_of, ?_⟩
  -- self.on_day(day)
  refine ⟨_, rfl, ga, dx, _, rfl, gv.ins, gF_no (by decide +kernel), _, rfl, ga, dx, h, w, d, g, e, rfl, gv.ins, gv.day, gv.nd, gv.few, fun H1 p s1 np hp => ?_⟩
  refine ⟨p, rfl, ⟨_, SqL.of hp⟩, fun D hD => ?_⟩
  have npD : p ≠ D := ne_of_none hp hD
  refine lc_list (K := K) (a := p) (xs := nats (Vb.onL g e)) (fun i H' => Same H1 H' ∧ H' D = some (.lst (nats (((Vb.onL g e).take i).filter fun o => kindAt m o == kindAt m a)))) ⟨same_upd hD, upd_same⟩ (fun i H' _ z => z.1.seq (SqL.of hp)) ?_ ?_
  · rintro i x H' hx ⟨s, hD'⟩
    obtain ⟨o, ho, rfl⟩ := of_nats hx
    have hoG : o ∈ Vb.onL g e := List.mem_of_getElem? ho
    have hoP : o < m.ppl.length := gv.inP o (onL_sub hoG)
    have hki : SqL K H' l.ki (nats (m.ppl.map (·.1))) := SqL.of ((s1.trans s) _ _ gv.hs.ki)
    refine ⟨rfl, _, rfl, _, rfl, l.ki, _, _, _, rfl, rfl, hki, atI_nat (nats_some (kind_get hoP)), _, rfl, _, rfl, l.ki, _, _, _, rfl, rfl, hki, atI_nat (nats_some (kind_get ha)), rfl, _, rfl, ?_⟩
    have hstep : ((Vb.onL g e).take (i + 1)).filter (fun o => kindAt m o == kindAt m a) = ((Vb.onL g e).take i).filter (fun o => kindAt m o == kindAt m a) ++ (if kindAt m o == kindAt m a then [o] else []) := by
      rw [take_more ho, List.filter_append, List.filter_cons]
      rfl
    refine ite2 (fun c => ?_) (fun c => ?_)
    · have c' : kindAt m o = kindAt m a := by
        have := of_decide_eq_true c
        simp only [V.int.injEq] at this
        omega
      refine ⟨_, rfl, _, hD', ?_, fun b u hb => ?_, ?_⟩
      · rw [nats_length]
        have := List.length_filter_le (fun o => kindAt m o == kindAt m a) ((Vb.onL g e).take i)
        have := (List.take_sublist i (Vb.onL g e)).length_le
        have := gv.few
        have : (Vb.onL g e).length ≤ g.length := by rw [Vb.onL, keys, List.length_map]; exact List.length_filter_le ..
        exact small1000 (by omega)
      · by_cases z : b = D
        · subst z; rw [hD] at hb; cases hb
        · rw [upd_ne z]; exact s _ _ hb
      · rw [upd_same, hstep, c']
        simp [nats]
    · have c' : ¬ kindAt m o = kindAt m a := fun z => c (by rw [z]; exact decide_eq_true rfl)
      refine ⟨s, ?_⟩
      rw [hD', hstep]
      simp [c']
  · rintro H' ⟨s, hD'⟩
    have e0 : (Vb.onL g e).take (nats (Vb.onL g e)).length = Vb.onL g e := by rw [nats_length, List.take_length]
    rw [e0] at hD'
    exact q _ D (s1.trans s) (s1.free hD) hD'

/-! ### room -/
structure MWf (m : M) : Prop where
  dn : m.ds.length ≤ 8
  kn : ∀ y ∈ m.ds, y.kinds.length = 4
  pk : ∀ t ∈ m.ppl, t.1 < 4
  pn : m.ppl.length ≤ 20
theorem MWf.kind {m : M} (h : MWf m) {a : Nat} (ha : a < m.ppl.length) : kindAt m a < 4 := by
  rw [kindAt, List.getD_eq_getElem?_getD, List.getElem?_eq_getElem ha]
  exact h.pk _ (List.getElem_mem ha)
theorem quota_get {m : M} (hw : MWf m) {e k : Nat} (he : e < m.ds.length) (hk : k < 4) : ∃ y, m.ds[e]? = some y ∧ (m.ds.map (·.kinds))[e]? = some y.kinds ∧ y.kinds[k]? = some (Vb.quotaOf m.ds e k) := by
  have h1 : m.ds[e]? = some m.ds[e] := List.getElem?_eq_getElem he
  have hl := hw.kn m.ds[e] (List.getElem_mem he)
  refine ⟨m.ds[e], h1, by rw [List.getElem?_map, h1]; rfl, ?_⟩
  rw [Vb.quotaOf_some h1, List.getD_eq_getElem?_getD, List.getElem?_eq_getElem (by omega)]; rfl
theorem places_get {m : M} {e : Nat} (he : e < m.ds.length) : (m.ds.map (·.places))[e]? = some (Vb.placesOf m.ds e) := by
  have h1 : m.ds[e]? = some m.ds[e] := List.getElem?_eq_getElem he
  rw [List.getElem?_map, h1, Vb.placesOf_some h1]; rfl
theorem refs_some {as : List Addr} {i : Nat} {a : Addr} (h : as[i]? = some a) : (as.map V.ref)[i]? = some (.ref a) := by rw [List.getElem?_map, h]; rfl
theorem alike_is {m : M} {P : Nat → Person} (hP : ∀ i, (P i).kind = kindAt m i) {g : G} {a e : Nat} : ((Vb.onL g e).filter fun o => kindAt m o == kindAt m a) = Vb.alikeL P g (kindAt m a) e := by
  rw [Vb.alikeL]; simp only [hP]

def spKhr (CG CH : Addr) : Sp := fun vs H Q _ => ∃ (ga dx h w d : Addr) (l : Lay) (m : M) (g : G) (P : Nat → Person) (a e : Nat), vs = [.ref ga, .int (a : Int), .int (e : Int)] ∧ GivAt CG CH H ga dx h w d l m g ∧ MWf m ∧ (∀ i, (P i).kind = kindAt m i) ∧ a < m.ppl.length ∧ e < m.ds.length ∧
  ∀ H', Same H H' → Q (.bl (decide (Vb.kindRoom m.ds P g (kindAt m a) e))) H'
theorem pure_khr (T : Txt K mg CG CH CR) (vs : List V) (H : Hp) (Q : VK) (E : XK) (h : spKhr CG CH vs H Q E) : t_Giving_kind_has_room K CG CH CR (spAlike CG CH) { nx := fun _ H' => Q .non H', rt := Q } (start ["self", "applicant", "day", "quota"] vs) H := by
  obtain ⟨ga, dx, h, w, d, l, m, g, P, a, e, rfl, gv, mw, hP, ha, he, q⟩ := h
  obtain ⟨y, h1, h2, h3⟩ := quota_get mw he (mw.kind ha)
  obtain ⟨qa, hqa, hq⟩ := gv.hs.qs.get h2
  -- quota = self.house.quotas[day][self.house.kind_of[applicant]]
  refine ⟨_, rfl, ga, CG, dx, _, _, rfl, gv.ins, T.cl_Giving, T.na_Giving_house, gF_house, h, CH, l.dx, _, _, rfl, gv.hs.ins, T.cl_House, T.na_House_quotas, hF_quotas, _, rfl, l.qu, _, _, _, rfl, rfl, SqL.of gv.hs.qu, atI_nat (refs_some hqa), ?_⟩
  refine ⟨_, rfl, ga, CG, dx, _, _, rfl, gv.ins, T.cl_Giving, T.na_Giving_house, gF_house, h, CH, l.dx, _, _, rfl, gv.hs.ins, T.cl_House, T.na_House_kind_of, hF_kind_of, _, rfl, l.ki, _, _, _, rfl, rfl, SqL.of gv.hs.ki, atI_nat (nats_some (kind_get ha)), ?_⟩
  refine ⟨qa, _, _, _, rfl, rfl, SqL.of hq, atI_nat (nats_some h3), ?_⟩
  -- len(self.alike_on_day(applicant, day)) < quota
  refine ⟨_, rfl, ga, dx, _, rfl, gv.ins, gF_no (by decide +kernel), _, rfl, _, rfl, ga, dx, h, w, d, l, m, g, a, e, rfl, gv, ha, fun H1 p s1 np hp => ?_⟩
  refine ⟨p, _, rfl, .inl (SqL.of hp), _, rfl, _, _, rfl, rfl, ?_⟩
  refine vq (Q := Q) (decide_eq_decide.mpr ?_) (q H1 s1)
  rw [nats_length, alike_is hP, Vb.alikeL_length]
  show _ ↔ Vb.ofKind P g e _ < Vb.quotaOf m.ds e _
  omega

def spHasRoom (CG CH : Addr) : Sp := fun vs H Q _ => ∃ (ga dx h w d : Addr) (l : Lay) (m : M) (g : G) (P : Nat → Person) (a e : Nat), vs = [.ref ga, .int (a : Int), .int (e : Int)] ∧ GivAt CG CH H ga dx h w d l m g ∧ MWf m ∧ (∀ i, (P i).kind = kindAt m i) ∧ a < m.ppl.length ∧ e < m.ds.length ∧
  ∀ H', Same H H' → Q (.bl (decide (Vb.hasRoom m.ds P g (kindAt m a) e))) H'
theorem pure_has_room (T : Txt K mg CG CH CR) (vs : List V) (H : Hp) (Q : VK) (E : XK) (h : spHasRoom CG CH vs H Q E) : t_Giving_has_room K CG CH CR (spOnDay CG) (spKhr CG CH) { nx := fun _ H' => Q .non H', rt := Q } (start ["self", "applicant", "day"] vs) H := by
  obtain ⟨ga, dx, h, w, d, l, m, g, P, a, e, rfl, gv, mw, hP, ha, he, q⟩ := h
  refine ⟨_, rfl, ga, dx, _, rfl, gv.ins, gF_no (by decide +kernel), _, rfl, _, rfl, ga, dx, h, w, d, l, m, g, P, a, e, rfl, gv, mw, hP, ha, he, fun H1 s1 => ?_⟩
  have gv1 := gv.same s1
  refine ⟨_, rfl, ite2 (fun c => ?_) (fun c => ?_)⟩
  · have c' := of_decide_eq_true c
    refine ⟨_, rfl, ga, dx, _, rfl, gv1.ins, gF_no (by decide +kernel), _, rfl, ga, dx, h, w, d, g, e, rfl, gv1.ins, gv1.day, gv1.nd, gv1.few, fun H2 p s2 np hp => ?_⟩
    have gv2 := gv1.same s2
    refine ⟨p, _, rfl, .inl (SqL.of hp), ?_⟩
    refine ⟨_, rfl, ga, CG, dx, _, _, rfl, gv2.ins, T.cl_Giving, T.na_Giving_house, gF_house, h, CH, l.dx, _, _, rfl, gv2.hs.ins, T.cl_House, T.na_House_places, hF_places, _, rfl, l.pl, _, _, _, rfl, rfl, SqL.of gv2.hs.pl, atI_nat (nats_some (places_get he)), ?_⟩
    refine ⟨_, _, rfl, rfl, ?_⟩
    refine vq (Q := Q) (decide_eq_decide.mpr ?_) (q H2 (s1.trans s2))
    rw [nats_length, Vb.onL_length]
    exact ⟨fun z => ⟨c', by omega⟩, fun z => by have := z.2; omega⟩
  · have c' : ¬ Vb.kindRoom m.ds P g (kindAt m a) e := fun z => c (decide_eq_true z)
    have e1 : false = decide (Vb.hasRoom m.ds P g (kindAt m a) e) := (decide_eq_false fun z => c' z.1).symm
    rw [e1]
    exact q H1 s1

def spWay (CG CH : Addr) : Sp := fun vs H Q _ => ∃ (ga dx h w d : Addr) (l : Lay) (m : M) (g : G) (P : Nat → Person) (a e : Nat), vs = [.ref ga, .int (a : Int), .int (e : Int)] ∧ GivAt CG CH H ga dx h w d l m g ∧ MWf m ∧ (∀ i, (P i).kind = kindAt m i) ∧ a < m.ppl.length ∧ e < m.ds.length ∧
  ∀ H' p, Same H H' → H p = none → H' p = some (.lst (nats (Vb.way m.ds P g (kindAt m a) e))) → Q (.ref p) H'
theorem pure_way (T : Txt K mg CG CH CR) (vs : List V) (H : Hp) (Q : VK) (E : XK) (h : spWay CG CH vs H Q E) : t_Giving_in_the_way K CG CH CR (spKhr CG CH) (spOnDay CG) (spAlike CG CH) { nx := fun _ H' => Q .non H', rt := Q } (start ["self", "applicant", "day"] vs) H := by
  obtain ⟨ga, dx, h, w, d, l, m, g, P, a, e, rfl, gv, mw, hP, ha, he, q⟩ := h
  refine ⟨_, rfl, ga, dx, _, rfl, gv.ins, gF_no (by decide +kernel), _, rfl, _, rfl, ga, dx, h, w, d, l, m, g, P, a, e, rfl, gv, mw, hP, ha, he, fun H1 s1 => ?_⟩
  have gv1 := gv.same s1
  refine ⟨_, rfl, ite2 (fun c => ?_) (fun c => ?_)⟩
  · have c' := of_decide_eq_true c
    refine ⟨_, rfl, ga, dx, _, rfl, gv1.ins, gF_no (by decide +kernel), _, rfl, ga, dx, h, w, d, g, e, rfl, gv1.ins, gv1.day, gv1.nd, gv1.few, fun H2 p s2 np hp => ?_⟩
    refine q H2 p (s1.trans s2) (s1.free np) ?_
    rw [hp, Vb.way, if_pos c']
  · have c' : ¬ Vb.kindRoom m.ds P g (kindAt m a) e := fun z => c (decide_eq_true z)
    refine ⟨_, rfl, ga, dx, _, rfl, gv1.ins, gF_no (by decide +kernel), _, rfl, _, rfl, ga, dx, h, w, d, l, m, g, a, e, rfl, gv1, ha, fun H2 p s2 np hp => ?_⟩
    refine q H2 p (s1.trans s2) (s1.free np) ?_
    rw [hp, Vb.way, if_neg c', alike_is hP]
end
end Vp
set_option Elab.async false
set_option linter.all false
set_option maxRecDepth 100000
set_option maxHeartbeats 1000000
namespace Vp
open PySem PySem.Spec PyProof.Rows L2
open Vbkoaf (Person Day)
open Vb (G Q keys)
section
variable {K : PySem.W.Frag} {mg : Str → Option Value} {CG CH CR : Addr}

def parV : Option Nat → V
  | none => .non
  | some m => .int (m : Int)
def kL (L : Q) : List (Key × V) := kvs parV L

theorem moved_len {g : G} {c : G} {a d : Nat} {ds : List Day} {P : Nat → Person} {L : Q} {n p : Nat} (S : Vb.Suf ds P g L n p ((a, d) :: c)) : keys (Vb.moved g c) = keys g :=
  Vb.keys_moved (Vb.tail_keys (c := (a, d) :: c) (Vb.suf_outs S))
theorem keys_len {β : Type} {l : List (Nat × β)} : (keys l).length = l.length := List.length_map ..

def spMove (CG : Addr) : Sp := fun vs H R _ => ∃ (ga dx h w d ab : Addr) (ds : List Day) (P : Nat → Person) (g : G) (x : Nat) (L : Q) (n : Nat) (dn : List Nat) (a e : Nat), vs = [.ref ga, .int (a : Int), .int (e : Int), .ref ab] ∧
  H ga = some (.ins CG dx (gF h w d)) ∧ H d = some (.dK (kG g)) ∧ H ab = some (.dK (kL L)) ∧ ab ≠ d ∧ g.length ≤ 1000 ∧ Vb.Valid ds P g ∧ Vb.Bfs ds P g x L n dn ∧ Vb.Suf ds P g L n n [(a, e)] ∧
  ∀ H' g', But d H H' → H' d = some (.dK (kG g')) → Vb.Valid ds P g' → keys g' = keys g ++ [x] → R .non H'
theorem pure_move (T : Txt K mg CG CH CR) (vs : List V) (H : Hp) (R : VK) (E : XK) (h : spMove CG vs H R E) : t_Giving_move_chain K CG CH CR { nx := fun _ H' => R .non H', rt := R } (start ["self", "mover", "day", "asked_by", "left"] vs) H := by
  obtain ⟨ga, dx, h, w, d, ab, ds, P, g, x, L, n, dn, a, e, rfl, hga, hd, hab, nab, hlen, vg, B, S, q⟩ := h
  have ngd : ga ≠ d := ne_of hga hd (by intro z; cases z)
  refine ⟨fun m σ H' => (∃ (p a e : Nat) (r : G) (v4 : Option V), m = p + 1 ∧ Vb.Suf ds P g L n p ((a, e) :: r) ∧ σ = [some (.ref ga), some (.int (a : Int)), some (.int (e : Int)), some (.ref ab), v4] ∧ But d H H' ∧ H' d = some (.dK (kG (Vb.moved g r)))) ∨
      (∃ (g' : G) (v2 v4 : Option V), m = 0 ∧ σ = [some (.ref ga), some .non, v2, some (.ref ab), v4] ∧ But d H H' ∧ H' d = some (.dK (kG g')) ∧ Vb.Valid ds P g' ∧ keys g' = keys g ++ [x]),
    ⟨n + 1, .inl ⟨n, a, e, [], none, rfl, S, rfl, fun b o z _ => z, hd⟩⟩, ?_⟩
  rintro m σ H' (⟨p, a, e, r, v4, rfl, S, rfl, bt, hd'⟩ | ⟨g', v2, v4, rfl, rfl, bt, hd', vg', hk'⟩)
  · refine ⟨_, rfl, _, rfl, ite2 (fun _ => ?_) (fun c => absurd (by simp) c)⟩
    have hga' : H' ga = some (.ins CG dx (gF h w d)) := bt _ _ hga ngd
    have hab' : H' ab = some (.dK (kL L)) := bt _ _ hab nab
    have hk : keys (Vb.moved g r) = keys g := moved_len S
    obtain ⟨u, hu⟩ := Vb.suf_head S
    have hlk : L.lookup a = some u := mem_look B.nd (List.mem_of_getElem? hu)
    have hput : putK (kG (Vb.moved g r)) (Sum.inl (a : Int)) (.int (e : Int)) = kG (Vb.moved g ((a, e) :: r)) := by
      have z := putK_kvs (f := dayV) (a := a) (v := e) (l := Vb.moved g r) (by rw [hk]; exact vg.nd)
      rw [put_is] at z
      exact z
    have hsz : (kG (Vb.moved g r)).length < sizeLine := by
      rw [kG, kvs_length, ← keys_len, hk, keys_len]
      exact small1000 hlen
    refine ⟨fun σ' H'' => ∃ m', m' < p + 1 ∧ ((∃ (p a e : Nat) (r : G) (v4 : Option V), m' = p + 1 ∧ Vb.Suf ds P g L n p ((a, e) :: r) ∧ σ' = [some (.ref ga), some (.int (a : Int)), some (.int (e : Int)), some (.ref ab), v4] ∧ But d H H'' ∧ H'' d = some (.dK (kG (Vb.moved g r)))) ∨
      (∃ (g' : G) (v2 v4 : Option V), m' = 0 ∧ σ' = [some (.ref ga), some .non, v2, some (.ref ab), v4] ∧ But d H H'' ∧ H'' d = some (.dK (kG g')) ∧ Vb.Valid ds P g' ∧ keys g' = keys g ++ [x])), fun _ _ z => z, ?_⟩
    -- left = self.day_of.get(mover)
    refine ⟨_, rfl, ga, CG, dx, _, _, rfl, hga', T.cl_Giving, T.na_Giving_day_of, gF_day_of, d, rfl, .inl ⟨_, .inl hd'⟩, _, rfl, _, DGet.k (k := Sum.inl (a : Int)) hd', ?_⟩
    -- self.day_of[mover] = day
    refine ⟨_, rfl, _, rfl, ga, CG, dx, _, _, rfl, hga', T.cl_Giving, T.na_Giving_day_of, gF_day_of, _, rfl, d, _, rfl, DPut.k (k := Sum.inl (a : Int)) hd' hsz, ?_⟩
    rw [hput]
    have hab2 : (upd H' d (.dK (kG (Vb.moved g ((a, e) :: r))))) ab = some (.dK (kL L)) := by rw [upd_ne nab]; exact hab'
    -- day = left; mover = asked_by[mover]
    refine ⟨_, rfl, _, rfl, _, rfl, ab, parV u, rfl, ?_, ?_⟩
    · have z := DGet.k (k := Sum.inl (a : Int)) hab2
      rw [kL, val_kvs, hlk] at z
      exact z
    · have bt2 : But d H (upd H' d (.dK (kG (Vb.moved g ((a, e) :: r))))) := bt.trans But.upd
      cases u with
      | none =>
        obtain ⟨rfl, vg', hk'⟩ := Vb.suf_end B vg S hu
        exact ⟨0, by omega, .inr ⟨_, _, _, rfl, rfl, bt2, upd_same, vg', hk'⟩⟩
      | some w =>
        obtain ⟨q', e', hm, hq, S'⟩ := Vb.suf_more B S hu
        have hl := Vb.suf_left_some B vg S hm
        refine ⟨q' + 1, by omega, .inl ⟨q', w, e', (a, e) :: r, some (dayV e'), rfl, S', ?_, bt2, upd_same⟩⟩
        have z : valV (kG (Vb.moved g r)) (Sum.inl (a : Int)) = some (dayV e') := by rw [kG, val_kvs, hl]; rfl
        rw [z]
        rfl
  · refine ⟨_, rfl, _, rfl, ite2 (fun c => absurd c (by simp)) (fun _ => ?_)⟩
    exact q H' g' bt hd' vg' hk'
end
end Vp
set_option Elab.async false
set_option linter.all false
set_option maxRecDepth 100000
set_option maxHeartbeats 1000000
namespace Vp
open PySem PySem.Spec PyProof.Rows L2
open Vbkoaf (Person Day)
open Vb (G Q keys)

theorem small_size {n : Nat} (h : n ≤ 100000) : n < sizeLine := Nat.lt_of_le_of_lt h (by decide)
theorem bfs_sub {ds : List Day} {P : Nat → Person} {g : G} {x : Nat} {L : Q} {n : Nat} {dn : List Nat} (B : Vb.Bfs ds P g x L n dn) : ∀ a ∈ keys L, a = x ∨ a ∈ keys g := fun a ha => by
  obtain ⟨⟨a', u⟩, ht, rfl⟩ := List.mem_map.mp ha
  obtain ⟨p, hp⟩ := List.mem_iff_getElem?.mp ht
  cases u with
  | none =>
    have := B.root p a' hp
    subst this
    have := B.hd.symm.trans hp
    cases this
    exact .inl rfl
  | some w =>
    obtain ⟨pm, u', d, _, _, _, _, h⟩ := B.par p a' w hp
    exact .inr (Vb.mem_keys (Vb.mem_way h))
theorem bfs_len {ds : List Day} {P : Nat → Person} {g : G} {x : Nat} {L : Q} {n : Nat} {dn : List Nat} (B : Vb.Bfs ds P g x L n dn) : L.length ≤ g.length + 1 := by
  have := Vb.nodup_length B.nd (m := x :: keys g) fun a ha => List.mem_cons.mpr (bfs_sub B a ha)
  rw [keys_len, List.length_cons, keys_len] at this
  exact this

theorem zip_look {as : List Addr} {a : Nat} {ls : List Nat} : ∀ {W : List (Nat × List Nat)} {as : List Addr} {H : Hp}, Lists H as (W.map (·.2)) → W.lookup a = some ls → ∃ la, ((keys W).zip as).lookup a = some la ∧ H la = some (.lst (nats ls))
  | [], as, H, _, h => by cases h
  | (b, l) :: W, as, H, hl, h => by
    cases as with
    | nil => have := hl.len; simp at this
    | cons la as =>
      rw [show (keys ((b, l) :: W)).zip (la :: as) = (b, la) :: (keys W).zip as from rfl]
      by_cases c : a = b
      · subst c
        simp [List.lookup] at h ⊢
        subst h
        exact hl.at_ 0 la l rfl rfl
      · have c2 : (a == b) = false := by simpa using c
        rw [List.lookup, c2] at h ⊢
        refine zip_look (W := W) (as := as) ⟨by simpa using hl.len, fun i x y h1 h2 => hl.at_ (i + 1) x y (by simpa using h1) (by simpa using h2)⟩ h
theorem wish_dget {H : Hp} {w : Addr} {W : List (Nat × List Nat)} {as : List Addr} (h : WishAt H w W as) {a : Nat} {la : Addr} (ha : ((keys W).zip as).lookup a = some la) : DGet H w (.int (a : Int)) (some (.ref la)) := by
  refine .inl ⟨_, Sum.inl (a : Int), h.d, rfl, ?_⟩
  rw [val_kvs, ha]; rfl
theorem WishAt.same {H H' : Hp} {w : Addr} {W : List (Nat × List Nat)} {as : List Addr} (h : WishAt H w W as) (s : Same H H') : WishAt H' w W as := by
  refine ⟨?_, h.ls.same s⟩
  rcases h.d with z | ⟨o, z⟩
  · exact .inl (s _ _ z)
  · exact .inr ⟨o, s _ _ z⟩

/-- wishes that fit the house -/
structure WWf (m : M) (W : List (Nat × List Nat)) : Prop where
  nd : (keys W).Nodup
  inP : ∀ a ∈ keys W, a < m.ppl.length
  days : ∀ t ∈ W, ∀ d ∈ t.2, d < m.ds.length
theorem WWf.day {m : M} {W : List (Nat × List Nat)} (h : WWf m W) {a : Nat} {ls : List Nat} (ha : W.lookup a = some ls) : ∀ d ∈ ls, d < m.ds.length := h.days _ (look_mem ha)

section
variable {K : PySem.W.Frag} {mg : Str → Option Value} {CG CH CR : Addr}
def spTake (CG CH : Addr) : Sp := fun vs H R _ => ∃ (ga dx h w d : Addr) (l : Lay) (m : M) (g : G) (W : List (Nat × List Nat)) (as : List Addr) (x : Nat), vs = [.ref ga, .int (x : Int)] ∧ GivAt CG CH H ga dx h w d l m g ∧ MWf m ∧ WishAt H w W as ∧ w ≠ d ∧ WWf m W ∧
  Vb.Valid m.ds (prob m W) g ∧ x ∈ keys W ∧ x ∉ keys g ∧ (∀ a ∈ keys g, a ∈ keys W) ∧
  ∀ H' b g', But d H H' → H' d = some (.dK (kG g')) → ((b = true ∧ Vb.Valid m.ds (prob m W) g' ∧ keys g' = keys g ++ [x]) ∨ (b = false ∧ g' = g ∧ ¬ Vb.Can m.ds (prob m W) (x :: keys g))) → R (.bl b) H'
theorem pure_take (T : Txt K mg CG CH CR) (vs : List V) (H : Hp) (R : VK) (E : XK) (h : spTake CG CH vs H R E) : t_Giving_take_in K CG CH CR (spHasRoom CG CH) (spMove CG) (spWay CG CH) { nx := fun _ H' => R .non H', rt := R } (start ["self", "applicant", "asked_by", "asked", "at", "mover", "day", "other"] vs) H := by
  obtain ⟨ga, dx, h, w, d, l, m, g, W, as, x, rfl, gv, mw, wa, nwd, ww, vg, hxW, hxg, hgW, q⟩ := h
  have wf : ∀ t ∈ g, t.2 < m.ds.length := fun t ht => by
    have hc := vg.come t ht
    obtain ⟨ls, hls⟩ := look_some (hgW _ (Vb.mem_keys ht))
    have : (prob m W t.1).days = ls := by show (W.lookup t.1).getD [] = ls; rw [hls]; rfl
    rw [this] at hc
    exact ww.day hls _ hc
  -- asked_by = {applicant: None}
  refine fun ab nab => ⟨_, rfl, upd_same, [(Sum.inl (x : Int), .non)], rfl, by show 1 ≤ 15; decide, ?_⟩
  rw [upd_upd]
  have e0 : mergeK [] [((Sum.inl (x : Int) : Key), V.non)] = kL [(x, none)] := rfl
  rw [e0]
  have s1 : Same H (upd H ab (.dK (kL [(x, none)]))) := same_upd nab
  -- asked = [applicant]; at = 0
  refine ⟨_, rfl, by show 1 ≤ sizeLine; decide, fun aq naq => ?_⟩
  have naq0 : H aq = none := s1.free naq
  have nba : ab ≠ aq := fun z => by rw [← z, upd_same] at naq; cases naq
  have s2 : Same (upd H ab (.dK (kL [(x, none)]))) (upd (upd H ab (.dK (kL [(x, none)]))) aq (.lst [.int (x : Int)])) := same_upd naq
  -- the search
  refine ⟨fun k σ H' => ∃ (n : Nat) (L : Q) (v5 v6 v7 : Option V), k = g.length + 2 - n ∧ n ≤ L.length ∧ σ = [some (.ref ga), some (.int (x : Int)), some (.ref ab), some (.ref aq), some (.int (n : Int)), v5, v6, v7] ∧ Vb.Bfs m.ds (prob m W) g x L n [] ∧ Same H H' ∧ H' ab = some (.dK (kL L)) ∧ H' aq = some (.lst (nats (keys L))),
    ⟨g.length + 2, 0, [(x, none)], none, none, none, rfl, Nat.zero_le _, rfl, Vb.bfs_init hxg, s1.trans s2, s2 _ _ upd_same, upd_same⟩, ?_⟩
  rintro k σ H' ⟨n, L, v5, v6, v7, rfl, hn, rfl, B, s, hab, haq⟩
  refine ⟨_, rfl, _, rfl, aq, _, rfl, .inl (SqL.of haq), _, _, rfl, rfl, _, rfl, ite2 (fun c => ?_) (fun c => ?_)⟩
  · have c' : n < L.length := by
      have := of_decide_eq_true c
      rw [nats_length, keys_len] at this
      omega
    obtain ⟨mv, u, hmv⟩ : ∃ mv u, L[n]? = some (mv, u) := ⟨L[n].1, L[n].2, List.getElem?_eq_getElem c'⟩
    have hkm : (keys L)[n]? = some mv := Vb.keys_getElem? hmv
    have hmW : mv ∈ keys W := by
      rcases bfs_sub B mv (List.mem_of_getElem? hkm) with z | z
      · rw [z]; exact hxW
      · exact hgW _ z
    have hmP : mv < m.ppl.length := ww.inP _ hmW
    obtain ⟨ls, hls⟩ := look_some hmW
    have hdays : (prob m W mv).days = ls := by show (W.lookup mv).getD [] = ls; rw [hls]; rfl
    have hlen0 := bfs_len B
    refine ⟨fun σ' H'' => ∃ k', k' < g.length + 2 - n ∧ ∃ (n : Nat) (L : Q) (v5 v6 v7 : Option V), k' = g.length + 2 - n ∧ n ≤ L.length ∧ σ' = [some (.ref ga), some (.int (x : Int)), some (.ref ab), some (.ref aq), some (.int (n : Int)), v5, v6, v7] ∧ Vb.Bfs m.ds (prob m W) g x L n [] ∧ Same H H'' ∧ H'' ab = some (.dK (kL L)) ∧ H'' aq = some (.lst (nats (keys L))), fun _ _ z => z, ?_⟩
    -- mover = asked[at]
    refine ⟨_, rfl, _, rfl, aq, _, _, _, rfl, rfl, SqL.of haq, atI_nat (nats_some hkm), ?_⟩
    -- for day in self.wishes[mover]
    obtain ⟨la, hz, hll⟩ := zip_look (as := as) wa.ls hls
    have gv' := gv.same s
    refine ⟨_, rfl, ga, CG, dx, _, _, rfl, gv'.ins, T.cl_Giving, T.na_Giving_wishes, gF_wishes, _, rfl, w, _, rfl, wish_dget (wa.same s) hz, la, rfl, ⟨_, SqL.of (s _ _ hll)⟩, ?_⟩
    refine for_list (K := K) (a := la) (xs := nats ls) (fun i σ H2 => ∃ (L2 : Q) (v6 v7 : Option V), σ = [some (.ref ga), some (.int (x : Int)), some (.ref ab), some (.ref aq), some (.int (n : Int)), some (.int (mv : Int)), v6, v7] ∧ Vb.Bfs m.ds (prob m W) g x L2 n (ls.take i) ∧ L2[n]? = some (mv, u) ∧ Same H H2 ∧ H2 ab = some (.dK (kL L2)) ∧ H2 aq = some (.lst (nats (keys L2))))
      ⟨L, v6, v7, rfl, by rw [List.take_zero]; exact B, hmv, s, hab, haq⟩ (fun i σ H2 _ ⟨_, _, _, _, _, _, s2, _⟩ => SqL.of (s2 _ _ hll)) ?_ ?_
    · rintro i y σ H2 hy ⟨L2, v6, v7, rfl, B2, hm2, s2, hab2, haq2⟩
      obtain ⟨e, he, rfl⟩ := of_nats hy
      have heD : e ∈ (prob m W mv).days := by rw [hdays]; exact List.mem_of_getElem? he
      have heN : e < m.ds.length := ww.day hls _ (List.mem_of_getElem? he)
      have gv2 := gv.same s2
      -- if self.has_room(mover, day)
      refine ⟨_, rfl, ga, dx, _, rfl, gv2.ins, gF_no (by decide +kernel), _, rfl, _, rfl, ga, dx, h, w, d, l, m, g, prob m W, mv, e, rfl, gv2, mw, fun _ => rfl, hmP, heN, fun H3 s3 => ?_⟩
      have gv3 := gv2.same s3
      have hab3 := s3 _ _ hab2
      have haq3 := s3 _ _ haq2
      have nabd : ab ≠ d := fun z => by
        have := gv.day
        rw [← z, nab] at this; cases this
      refine ⟨_, rfl, ite2 (fun c => ?_) (fun c => ?_)⟩
      · -- self.move_chain(mover, day, asked_by); return True
        have c' := of_decide_eq_true c
        refine ⟨_, rfl, ga, dx, _, rfl, gv3.ins, gF_no (by decide +kernel), _, rfl, _, rfl, _, rfl, ga, dx, h, w, d, ab, m.ds, prob m W, g, x, L2, n, ls.take i, mv, e, rfl, gv3.ins, gv3.day, hab3, nabd, gv3.few, vg, B2, .last hm2 heD c', fun H4 g' bt hd4 vg' hk' => ?_⟩
        exact q H4 true g' ((But.of_same (s2.trans s3)).trans bt) hd4 (.inl ⟨rfl, vg', hk'⟩)
      · have c' : ¬ Vb.hasRoom m.ds (prob m W) g (kindAt m mv) e := fun z => c (decide_eq_true z)
        -- for other in self.in_the_way(mover, day)
        refine ⟨_, rfl, ga, dx, _, rfl, gv3.ins, gF_no (by decide +kernel), _, rfl, _, rfl, ga, dx, h, w, d, l, m, g, prob m W, mv, e, rfl, gv3, mw, fun _ => rfl, hmP, heN, fun H4 p s4 np hp => ?_⟩
        refine ⟨p, rfl, ⟨_, SqL.of hp⟩, ?_⟩
        have npab : p ≠ ab := fun z => by rw [z, hab3] at np; cases np
        have npaq : p ≠ aq := fun z => by rw [z, haq3] at np; cases np
        have hway : ∀ o ∈ Vb.way m.ds (prob m W) g (kindAt m mv) e, o ∈ keys g := fun o ho => Vb.mem_keys (Vb.mem_way ho)
        have hall := fun j => Vb.asked_all (m := mv) ((Vb.way m.ds (prob m W) g (kindAt m mv) e).take j) L2 B2.nd
        have hsz : ∀ j, (Vb.askAll mv L2 ((Vb.way m.ds (prob m W) g (kindAt m mv) e).take j)).length ≤ g.length + 1 := fun j => by
          have z := Vb.nodup_length (hall j).nd (m := x :: keys g) fun a ha => by
            obtain ⟨N, e1, hN⟩ := (hall j).more
            rw [e1, Vb.keys_append] at ha
            rcases List.mem_append.mp ha with y | y
            · exact List.mem_cons.mpr (bfs_sub B2 a y)
            · obtain ⟨t, ht, rfl⟩ := List.mem_map.mp y
              exact List.mem_cons_of_mem _ (hway _ (List.mem_of_mem_take (hN t ht).1))
          rw [keys_len, List.length_cons, keys_len] at z
          exact z
        refine for_list (K := K) (a := p) (xs := nats (Vb.way m.ds (prob m W) g (kindAt m mv) e)) (fun j σ H5 => ∃ v7 : Option V, σ = [some (.ref ga), some (.int (x : Int)), some (.ref ab), some (.ref aq), some (.int (n : Int)), some (.int (mv : Int)), some (.int (e : Int)), v7] ∧ Same H H5 ∧ H5 p = some (.lst (nats (Vb.way m.ds (prob m W) g (kindAt m mv) e))) ∧ H5 ab = some (.dK (kL (Vb.askAll mv L2 ((Vb.way m.ds (prob m W) g (kindAt m mv) e).take j)))) ∧ H5 aq = some (.lst (nats (keys (Vb.askAll mv L2 ((Vb.way m.ds (prob m W) g (kindAt m mv) e).take j))))))
          ⟨v7, rfl, (s2.trans s3).trans s4, hp, s4 _ _ hab3, s4 _ _ haq3⟩ (fun j σ H5 _ ⟨_, _, _, h5, _⟩ => SqL.of h5) ?_ ?_
        · rintro j y σ H5 hy ⟨v7, rfl, s5, hp5, hab5, haq5⟩
          obtain ⟨o, ho, rfl⟩ := of_nats hy
          have hnext : Vb.askAll mv L2 ((Vb.way m.ds (prob m W) g (kindAt m mv) e).take (j + 1)) = Vb.ask mv (Vb.askAll mv L2 ((Vb.way m.ds (prob m W) g (kindAt m mv) e).take j)) o := by
            rw [take_more ho, Vb.askAll, List.foldl_append]; rfl
          have hs := hsz j
          have hnd := (hall j).nd
          rw [hnext]
          generalize Vb.askAll mv L2 ((Vb.way m.ds (prob m W) g (kindAt m mv) e).take j) = L3 at hab5 haq5 hs hnd
          refine ⟨_, rfl, _, rfl, ab, _, rfl, DGet.k (k := Sum.inl (o : Int)) hab5, _, rfl, ite2 (fun c => ?_) (fun c => ?_)⟩
          · have hno : o ∉ keys L3 := by
              rw [kL, val_kvs] at c
              refine look_none.mp ?_
              cases z : L3.lookup o with
              | none => rfl
              | some v => rw [z] at c; cases c
            have hput : putK (kL L3) (Sum.inl (o : Int)) (.int (mv : Int)) = kL (L3 ++ [(o, some mv)]) := by
              have z := putK_kvs (f := parV) (a := o) (v := some mv) (l := L3) hnd
              rw [putN_new hno] at z
              exact z
            refine ⟨_, rfl, _, rfl, _, rfl, ab, _, rfl, DPut.k (k := Sum.inl (o : Int)) hab5 (by rw [kL, kvs_length]; exact small_size (by have := gv.few; omega)), ?_⟩
            have haq6 : (upd H5 ab (.dK (putK (kL L3) (Sum.inl (o : Int)) (.int (mv : Int))))) aq = some (.lst (nats (keys L3))) := by rw [upd_ne nba.symm]; exact haq5
            refine ⟨_, rfl, .inl ⟨rfl, _, SqL.of haq6⟩, _, rfl, aq, _, _, rfl, rfl, haq6, by rw [nats_length, keys_len]; exact small_size (by have := gv.few; omega), ?_⟩
            rw [Vb.ask, if_neg hno]
            refine ⟨_, rfl, fun b z hb => ?_, ?_, ?_, ?_⟩
            · have n1 : b ≠ ab := ne_of_none hb nab
              have n2 : b ≠ aq := ne_of_none hb naq0
              rw [upd_ne n2, upd_ne n1]
              exact s5 _ _ hb
            · rw [upd_ne npaq, upd_ne npab]; exact hp5
            · rw [upd_ne nba, upd_same, hput]
            · rw [upd_same, Vb.keys_append, nats_append]; rfl
          · have hin : o ∈ keys L3 := by
              rw [kL, val_kvs] at c
              cases z : L3.lookup o with
              | none => rw [z] at c; exact absurd rfl c
              | some v => exact Vb.mem_keys (look_mem z)
            rw [Vb.ask, if_pos hin]
            exact ⟨_, rfl, s5, hp5, hab5, haq5⟩
        · rintro σ H5 ⟨v7, rfl, s5, hp5, hab5, haq5⟩
          have e1 : (Vb.way m.ds (prob m W) g (kindAt m mv) e).take (nats (Vb.way m.ds (prob m W) g (kindAt m mv) e)).length = Vb.way m.ds (prob m W) g (kindAt m mv) e := by rw [nats_length, List.take_length]
          rw [e1] at hab5 haq5
          have A := Vb.asked_all (m := mv) (Vb.way m.ds (prob m W) g (kindAt m mv) e) L2 B2.nd
          refine ⟨_, _, _, rfl, ?_, ?_, s5, hab5, haq5⟩
          · rw [take_more he]
            exact Vb.bfs_day B2 hm2 heD c' A
          · obtain ⟨N, e2, _⟩ := A.more
            rw [e2]
            exact Vb.get_old hm2
    · rintro σ H2 ⟨L2, v6, v7, rfl, B2, hm2, s2, hab2, haq2⟩
      have e0 : ls.take (nats ls).length = (prob m W mv).days := by rw [nats_length, List.take_length, hdays]
      rw [e0] at B2
      have B3 := Vb.bfs_next hm2 B2
      have hl3 := bfs_len B3
      have hn2 : n < L2.length := (List.getElem?_eq_some_iff.mp hm2).1
      -- at += 1
      refine ⟨_, rfl, _, _, rfl, rfl, g.length + 2 - (n + 1), by omega, n + 1, L2, _, _, _, rfl, by omega, rfl, B3, s2, hab2, haq2⟩
  · have c' : n = L.length := by
      have : ¬ ((n : Int) < ((nats (keys L)).length : Int)) := fun z => c (decide_eq_true z)
      rw [nats_length, keys_len] at this
      omega
    subst c'
    refine q H' false g (But.of_same s) (s _ _ gv.day) (.inr ⟨rfl, rfl, ?_⟩)
    exact Vb.can_not vg wf B (List.mem_cons_self ..) fun a ha => List.mem_cons_of_mem _ ha
end
end Vp
set_option Elab.async false
set_option linter.all false
set_option maxRecDepth 100000
set_option maxHeartbeats 1000000
namespace Vp
open PySem PySem.Spec PyProof.Rows L2
open Vbkoaf (Person Day)
open Vb (G Q keys)

/-! ### wishes, each with the place of its list -/
abbrev Z := List (Nat × (Addr × List Nat))
def zV (t : Addr × List Nat) : V := .ref t.1
def wOf (z : Z) : List (Nat × List Nat) := z.map fun t => (t.1, t.2.2)
structure WZ (H : Hp) (z : Z) : Prop where
  at_ : ∀ t ∈ z, H t.2.1 = some (.lst (nats t.2.2))
theorem WZ.same {H H' : Hp} {z : Z} (h : WZ H z) (s : Same H H') : WZ H' z := ⟨fun t ht => s _ _ (h.at_ t ht)⟩
theorem wOf_keys {z : Z} : keys (wOf z) = keys z := by rw [wOf, keys, keys, List.map_map]; rfl
theorem wOf_look {z : Z} {a : Nat} : (wOf z).lookup a = (z.lookup a).map (·.2) := by
  induction z with
  | nil => rfl
  | cons t z ih =>
    obtain ⟨b, u, l⟩ := t
    rw [show wOf ((b, (u, l)) :: z) = (b, l) :: wOf z from rfl]
    by_cases c : a = b
    · subst c; simp [List.lookup]
    · have c2 : (a == b) = false := by simpa using c
      rw [List.lookup, List.lookup, c2]; exact ih
theorem wish_of {H : Hp} {w : Addr} {z : Z} (h : WZ H z) (hd : Rd H w (.dK (kvs zV z))) : WishAt H w (wOf z) (z.map fun t => t.2.1) := by
  refine ⟨?_, ⟨by simp [wOf], fun i a l h1 h2 => ?_⟩⟩
  · have e : kvs V.ref ((keys (wOf z)).zip (z.map fun t => t.2.1)) = kvs zV z := by
      rw [wOf_keys]
      clear hd h
      induction z with
      | nil => rfl
      | cons t z ih =>
        show (Sum.inl (t.1 : Int), V.ref t.2.1) :: kvs V.ref ((keys z).zip (z.map fun t => t.2.1)) = (Sum.inl (t.1 : Int), zV t.2) :: kvs zV z
        rw [ih]; rfl
    rw [e]; exact hd
  · rw [List.getElem?_map] at h1
    rw [wOf, List.map_map, List.getElem?_map] at h2
    cases e : z[i]? with
    | none => rw [e] at h1; cases h1
    | some t =>
      rw [e] at h1 h2
      cases h1; cases h2
      exact h.at_ t (List.mem_of_getElem? e)
theorem lookup_putN {β : Type} {l : List (Nat × β)} {a b : Nat} {v : β} : (putN l a v).lookup b = if b = a then some v else l.lookup b := by
  induction l with
  | nil =>
    by_cases c : b = a
    · subst c; simp [putN, List.lookup]
    · have c2 : (b == a) = false := by simpa using c
      simp [putN, List.lookup, c2, c]
  | cons t l ih =>
    obtain ⟨k, u⟩ := t
    rw [putN]
    by_cases c : k = a
    · subst c
      rw [if_pos rfl]
      by_cases c1 : b = k
      · subst c1; simp [List.lookup]
      · have c2 : (b == k) = false := by simpa using c1
        rw [List.lookup, c2, if_neg c1, List.lookup, c2]
    · rw [if_neg c]
      by_cases c1 : b = k
      · subst c1; simp [List.lookup, c]
      · have c2 : (b == k) = false := by simpa using c1
        rw [List.lookup, c2, List.lookup, c2]; exact ih
theorem mem_putN {β : Type} {l : List (Nat × β)} {a : Nat} {v : β} {t : Nat × β} (h : t ∈ putN l a v) : t = (a, v) ∨ t ∈ l := by
  induction l with
  | nil => exact .inl (by simpa [putN] using h)
  | cons s l ih =>
    obtain ⟨k, u⟩ := s
    rw [putN] at h
    split at h
    · rcases List.mem_cons.mp h with z | z
      · exact .inl z
      · exact .inr (List.mem_cons_of_mem _ z)
    · rcases List.mem_cons.mp h with z | z
      · exact .inr (z ▸ List.mem_cons_self ..)
      · rcases ih z with y | y
        · exact .inl y
        · exact .inr (List.mem_cons_of_mem _ y)
theorem wOf_put {z : Z} {a : Nat} {u : Addr} {l : List Nat} : wOf (putN z a (u, l)) = putN (wOf z) a l := by
  induction z with
  | nil => rfl
  | cons t z ih =>
    obtain ⟨k, v, s⟩ := t
    rw [putN, show wOf ((k, (v, s)) :: z) = (k, s) :: wOf z from rfl, putN]
    split
    · rfl
    · rw [show wOf ((k, (v, s)) :: putN z a (u, l)) = (k, s) :: wOf (putN z a (u, l)) from rfl, ih]

/-! ### the people of the house -/
def daysAt (m : M) (a : Nat) : List Nat := (m.ppl.getD a (0, [])).2
def mP (m : M) : Nat → Person := fun i => ⟨i, kindAt m i, daysAt m i⟩
theorem days_get {m : M} {a : Nat} (h : a < m.ppl.length) : (m.ppl.map (·.2))[a]? = some (daysAt m a) := by
  rw [List.getElem?_map, List.getElem?_eq_getElem h, daysAt, List.getD_eq_getElem?_getD, List.getElem?_eq_getElem h]; rfl
theorem prob_days {m : M} {W : List (Nat × List Nat)} {a : Nat} {l : List Nat} (h : W.lookup a = some l) : (prob m W a).days = l := by
  show (W.lookup a).getD [] = l
  rw [h]; rfl
theorem ids_prob {m : M} {W : List (Nat × List Nat)} (mw : MWf m) {A : List Nat} (nd : A.Nodup) (lt : ∀ a ∈ A, a < m.ppl.length) : Vb.Ids (prob m W) A := ⟨nd, fun a ha => Nat.lt_of_lt_of_le (lt a ha) mw.pn, fun _ _ => rfl⟩
theorem ids_mP {m : M} (mw : MWf m) {A : List Nat} (nd : A.Nodup) (lt : ∀ a ∈ A, a < m.ppl.length) : Vb.Ids (mP m) A := ⟨nd, fun a ha => Nat.lt_of_lt_of_le (lt a ha) mw.pn, fun _ _ => rfl⟩
theorem fit_prob {m : M} {W : List (Nat × List Nat)} (mw : MWf m) (ww : WWf m W) : Vb.Fit m.ds (prob m W) (keys W) := by
  refine ⟨fun a ha => mw.kind (ww.inP a ha), fun a ha d hd => ?_⟩
  obtain ⟨l, hl⟩ := look_some ha
  rw [prob_days hl] at hd
  exact ww.day hl d hd

section
variable {K : PySem.W.Frag} {mg : Str → Option Value} {CG CH CR : Addr}
/-! ### Giving(house, wishes) -/
theorem gF_new {h w d : Addr} : putF "day_of" (.ref d) (putF "wishes" (.ref w) (putF "house" (.ref h) [])) = gF h w d := by
  rw [show putF "house" (V.ref h) [] = [(("house" : Str), V.ref h)] from rfl, put_past (by decide +kernel), put_past (by decide +kernel), show putF "wishes" (V.ref w) [] = [(("wishes" : Str), V.ref w)] from rfl, put_past (by decide +kernel)]
  rfl
def spGInit (CG : Addr) : Sp := fun vs H R _ => ∃ (p dx h w : Addr), vs = [.ref p, .ref h, .ref w] ∧ H p = some (.ins CG dx []) ∧
  ∀ H' d, But p H H' → H' p = some (.ins CG dx (gF h w d)) → H d = none → H' d = some (.dK []) → R .non H'
theorem pure_ginit (T : Txt K mg CG CH CR) (vs : List V) (H : Hp) (R : VK) (E : XK) (h : spGInit CG vs H R E) : t_Giving_init K CG CH CR { nx := fun _ H' => R .non H', rt := R } (start ["self", "house", "wishes"] vs) H := by
  obtain ⟨p, dx, h, w, rfl, hp, q⟩ := h
  refine ⟨_, rfl, _, rfl, p, CG, dx, [], rfl, hp, T.cl_Giving, T.na_Giving_house, (by show 0 < 1000; decide), ?_⟩
  refine ⟨_, rfl, _, rfl, p, CG, dx, _, rfl, upd_same, T.cl_Giving, T.na_Giving_wishes, (by show 1 < 1000; decide), ?_⟩
  rw [upd_upd]
  generalize e2 : putF "wishes" (V.ref w) (putF "house" (V.ref h) []) = f2
  have h2 : f2.length < 1000 := by rw [← e2, show putF "house" (V.ref h) [] = [(("house" : Str), V.ref h)] from rfl, put_past (by decide +kernel)]; show 2 < 1000; decide
  refine fun d hd => ?_
  have ndp : d ≠ p := fun z => by rw [z, upd_same] at hd; cases hd
  have hp3 : (upd (upd H p (.ins CG dx f2)) d (.dK [])) p = some (.ins CG dx f2) := by rw [upd_ne ndp.symm, upd_same]
  refine ⟨_, rfl, p, CG, dx, f2, rfl, hp3, T.cl_Giving, T.na_Giving_day_of, h2, ?_⟩
  refine q _ d ?_ (by rw [upd_same, ← e2, gF_new]) (by rw [upd_ne ndp] at hd; exact hd) (by rw [upd_ne ndp, upd_same])
  intro b o hb n
  have n2 : b ≠ d := fun z => by rw [← z, upd_ne n, hb] at hd; cases hd
  rw [upd_ne n, upd_ne n2, upd_ne n]
  exact hb
/-- a giving is made: nothing is given yet -/
theorem made {H H1 : Hp} {x dx C : Addr} (nx : H x = none) (nd : H dx = none) (k : But x (upd (upd H dx (.own x)) x (.ins C dx [])) H1) : Same H H1 := Same.made nx nd k

/-! ### wishes_of -/
def zOf (m : M) (l : Lay) (A : List Nat) : Z := A.map fun a => (a, (l.as.getD a 0, daysAt m a))
def wM (m : M) (A : List Nat) : List (Nat × List Nat) := A.map fun a => (a, daysAt m a)
theorem zOf_keys {m : M} {l : Lay} {A : List Nat} : keys (zOf m l A) = A := by rw [zOf, keys, List.map_map]; exact List.map_id A
theorem wOf_zOf {m : M} {l : Lay} {A : List Nat} : wOf (zOf m l A) = wM m A := by rw [zOf, wOf, wM, List.map_map]; rfl
theorem wM_keys {m : M} {A : List Nat} : keys (wM m A) = A := by rw [wM, keys, List.map_map]; exact List.map_id A
theorem as_get {m : M} {C : Addr} {H : Hp} {h : Addr} {l : Lay} (hs : HouseAt C H h l m) {a : Nat} (ha : a < m.ppl.length) : l.as[a]? = some (l.as.getD a 0) ∧ H (l.as.getD a 0) = some (.lst (nats (daysAt m a))) := by
  obtain ⟨p, h1, h2⟩ := hs.as.get (days_get ha)
  have e : l.as.getD a 0 = p := by rw [List.getD_eq_getElem?_getD, h1]; rfl
  rw [e]; exact ⟨h1, h2⟩
def spWishes (K : PySem.W.Frag) (CH : Addr) : Sp := fun vs H R _ => ∃ (h ap : Addr) (l : Lay) (m : M) (A : List Nat), vs = [.ref h, .ref ap] ∧ HouseAt CH H h l m ∧ SqL K H ap (nats A) ∧ A.Nodup ∧ A.length ≤ 1000 ∧ (∀ a ∈ A, a < m.ppl.length) ∧
  ∀ H' p, Same H H' → H p = none → H' p = some (.dK (kvs zV (zOf m l A))) → R (.ref p) H'
theorem pure_wishes (T : Txt K mg CG CH CR) (vs : List V) (H : Hp) (R : VK) (E : XK) (h : spWishes K CH vs H R E) : t_wishes_of K CG CH CR { nx := fun _ H' => R .non H', rt := R } (start ["house", "applicants", "wishes", "applicant"] vs) H := by
  obtain ⟨h, ap, l, m, A, rfl, hs, hA, nd, few, lt, q⟩ := h
  refine fun p np => ?_
  have s1 : Same H (upd H p (.dK [])) := same_upd np
  refine ⟨_, rfl, ap, rfl, ⟨_, s1.seq hA⟩, ?_⟩
  refine for_list (K := K) (a := ap) (xs := nats A) (fun i σ H' => ∃ v3 : Option V, σ = [some (.ref h), some (.ref ap), some (.ref p), v3] ∧ Same H H' ∧ H' p = some (.dK (kvs zV (zOf m l (A.take i)))))
    ⟨none, rfl, s1, upd_same⟩ (fun i σ H' _ ⟨_, _, s, _⟩ => s.seq hA) ?_ ?_
  · rintro i x σ H' hx ⟨v3, rfl, s, hp⟩
    obtain ⟨a, ha, rfl⟩ := of_nats hx
    have haP := lt a (List.mem_of_getElem? ha)
    have hs' := hs.same s
    obtain ⟨h1, h2⟩ := as_get hs' haP
    have hno : a ∉ A.take i := fun z => by
      have nd2 := nd
      rw [← List.take_append_drop (i + 1) A, take_more ha] at nd2
      exact (List.nodup_append.mp (List.nodup_append.mp nd2).1).2.2 a z a (List.mem_cons_self ..) rfl
    refine ⟨_, rfl, h, CH, l.dx, _, _, rfl, hs'.ins, T.cl_House, T.na_House_days_of, hF_days_of, _, rfl, l.da, _, _, _, rfl, rfl, SqL.of hs'.da, atI_nat (refs_some h1), ?_⟩
    refine ⟨_, rfl, _, rfl, p, _, rfl, DPut.k (k := Sum.inl (a : Int)) hp ?_, ?_⟩
    · rw [kvs_length, zOf, List.length_map]
      have := (List.take_sublist i A).length_le
      exact small1000 (by omega)
    · refine ⟨_, rfl, fun b o hb => ?_, ?_⟩
      · have n : b ≠ p := ne_of_none hb np
        rw [upd_ne n]; exact s _ _ hb
      · rw [upd_same]
        have z := putK_kvs (f := zV) (a := a) (v := (l.as.getD a 0, daysAt m a)) (l := zOf m l (A.take i)) (by rw [zOf_keys]; exact List.Nodup.sublist (List.take_sublist i A) nd)
        rw [putN_new (by rw [zOf_keys]; exact hno)] at z
        rw [take_more ha]
        have e3 : zOf m l (A.take i ++ [a]) = zOf m l (A.take i) ++ [(a, (l.as.getD a 0, daysAt m a))] := by rw [zOf, List.map_append]; rfl
        rw [e3, ← z]; rfl
  · rintro σ H' ⟨v3, rfl, s, hp⟩
    have e0 : A.take (nats A).length = A := by rw [nats_length, List.take_length]
    rw [e0] at hp
    exact ⟨_, rfl, q H' p s np hp⟩
theorem wz_of {m : M} {C : Addr} {H : Hp} {h : Addr} {l : Lay} (hs : HouseAt C H h l m) {A : List Nat} (lt : ∀ a ∈ A, a < m.ppl.length) : WZ H (zOf m l A) := ⟨fun t ht => by
  obtain ⟨a, ha, rfl⟩ := List.mem_map.mp ht
  exact (as_get hs (lt a ha)).2⟩

/-! ### can_be_served -/
theorem HouseAt.but {C : Addr} {H H' : Hp} {a w : Addr} {l : Lay} {m : M} {kv : List (Key × V)} (h : HouseAt C H a l m) (hw : H w = some (.dK kv)) (s : But w H H') : HouseAt C H' a l m := by
  have nl : ∀ {b : Addr} {xs : List V}, H b = some (.lst xs) → H' b = some (.lst xs) := fun {b xs} e => s _ _ e (ne_of e hw (by intro z; cases z))
  exact ⟨s _ _ h.ins (ne_of h.ins hw (by intro z; cases z)), nl h.pl, nl h.qu, ⟨h.qs.len, fun i a l h1 h2 => nl (h.qs.at_ i a l h1 h2)⟩, nl h.ki, nl h.da, ⟨h.as.len, fun i a l h1 h2 => nl (h.as.at_ i a l h1 h2)⟩, nl h.ro, h.nd⟩
theorem WZ.but {H H' : Hp} {w : Addr} {z : Z} {kv : List (Key × V)} (h : WZ H z) (hw : H w = some (.dK kv)) (s : But w H H') : WZ H' z := ⟨fun t ht => s _ _ (h.at_ t ht) (ne_of (h.at_ t ht) hw (by intro z; cases z))⟩
def spCan (CH : Addr) : Sp := fun vs H R _ => ∃ (h w : Addr) (l : Lay) (m : M) (z : Z), vs = [.ref h, .ref w] ∧ HouseAt CH H h l m ∧ MWf m ∧ H w = some (.dK (kvs zV z)) ∧ WZ H z ∧ WWf m (wOf z) ∧ z.length ≤ 1000 ∧
  ∀ H', Same H H' → R (.bl (Vbkoaf.canServe m.ds ((keys z).map (prob m (wOf z))))) H'
theorem pure_can (T : Txt K mg CG CH CR) (vs : List V) (H : Hp) (R : VK) (E : XK) (h : spCan CH vs H R E) : t_can_be_served K CG CH CR (spGInit CG) (spTake CG CH) { nx := fun _ H' => R .non H', rt := R } (start ["house", "wishes", "giving", "applicant"] vs) H := by
  obtain ⟨h, w, l, m, z, rfl, hs, mw, hw, wz, ww, few, q⟩ := h
  refine ⟨_, rfl, _, rfl, fun x dx nx ndx ne => ⟨x, dx, h, w, rfl, upd_same, fun H1 d bt hx hd0 hd1 => ⟨rfl, ?_⟩⟩⟩
  have s1 : Same H H1 := made nx ndx bt
  have hdx : d ≠ x := fun e => by rw [e, upd_same] at hd0; cases hd0
  have hdn : H d = none := by
    rw [upd_ne hdx] at hd0
    cases e : H d with
    | none => rfl
    | some o =>
      have : d ≠ dx := ne_of_none e ndx
      rw [upd_ne this, e] at hd0; cases hd0
  have nwd : w ≠ d := ne_of_none hw hdn
  have nwx : w ≠ x := ne_of_none hw nx
  have hw1 := s1 _ _ hw
  have iv : Vb.Ids (prob m (wOf z)) (keys z) := ids_prob mw (by rw [← wOf_keys]; exact ww.nd) fun a ha => ww.inP a (by rw [wOf_keys]; exact ha)
  have fit : Vb.Fit m.ds (prob m (wOf z)) (keys z) := by have := fit_prob mw ww; rwa [wOf_keys] at this
  refine ⟨w, _, hw1, trivial, fun od => ?_⟩
  refine ⟨_, rfl, w, od, rfl, .inl ⟨_, upd_same, ?_⟩⟩
  have back : ∀ {H' : Hp}, But d (upd H1 w (.frz od (.dK (kvs zV z)))) H' → Same H (upd H' w (.dK (kvs zV z))) := fun {H'} b2 b o hb => by
    by_cases e : b = w
    · subst e; rw [upd_same, ← hw, hb]
    · rw [upd_ne e]
      exact b2 _ _ (by rw [upd_ne e]; exact s1 _ _ hb) (ne_of_none hb hdn)
  refine for_it walk_keys (fun i σ H' => ∃ (v3 : Option V) (g : G), σ = [some (.ref h), some (.ref w), some (.ref x), v3] ∧ But d (upd H1 w (.frz od (.dK (kvs zV z)))) H' ∧ H' d = some (.dK (kG g)) ∧ Vb.Valid m.ds (prob m (wOf z)) g ∧ keys g = (keys z).take i)
    ⟨none, [], rfl, fun b o e _ => e, by rw [upd_ne nwd.symm]; exact hd1, Vb.nil_valid, by rw [List.take_zero]; rfl⟩ (fun i σ H' _ ⟨_, _, _, b2, _⟩ => b2 _ _ upd_same nwd) ?_ ?_
  · rintro i y σ H' _ hi ⟨v3, g, rfl, b2, hd', vg, hk⟩ ⟨rfl, k, v, hkv, rfl⟩
    obtain ⟨t, ht, rfl, rfl⟩ := kvs_get hkv
    have hw' := b2 _ _ upd_same nwd
    have sw : But w H _ := fun b o hb e => b2 b o (by rw [upd_ne e]; exact s1 _ _ hb) (ne_of_none hb hdn)
    have htk : (keys z)[i]? = some t.1 := by rw [keys, List.getElem?_map, ht]; rfl
    have hno : t.1 ∉ keys g := by
      rw [hk]
      intro zz
      have nd2 := iv.nd
      rw [← List.take_append_drop (i + 1) (keys z), take_more htk] at nd2
      exact (List.nodup_append.mp (List.nodup_append.mp nd2).1).2.2 _ zz _ (List.mem_cons_self ..) rfl
    have hsub : ∀ a ∈ keys g, a ∈ keys z := fun a ha => by rw [hk] at ha; exact List.mem_of_mem_take ha
    have hgl : g.length ≤ 1000 := by
      rw [← keys_len, hk]
      have := (List.take_sublist i (keys z)).length_le
      rw [keys_len] at this
      omega
    have gv : GivAt CG CH _ x dx h w d l m g := ⟨b2 _ _ (by rw [upd_ne nwx.symm]; exact hx) hdx.symm, hs.but hw sw, hd', vg.nd, hgl, fun a ha => ww.inP a (by rw [wOf_keys]; exact hsub a ha)⟩
    refine ⟨_, rfl, x, dx, _, rfl, gv.ins, gF_no (by decide +kernel), _, rfl, x, dx, h, w, d, l, m, g, wOf z, _, t.1, rfl, gv, mw, wish_of (wz.but hw sw) (.inr ⟨od, hw'⟩), nwd, ww, vg, by rw [wOf_keys]; exact List.mem_of_getElem? htk, hno, fun a ha => by rw [wOf_keys]; exact hsub a ha, fun H2 b g' b3 hd2 hcase => ?_⟩
    refine ⟨_, rfl, ?_⟩
    rcases hcase with ⟨rfl, vg', hk'⟩ | ⟨rfl, rfl, hnc⟩
    · refine iteF ⟨_, g', rfl, b2.trans b3, hd2, vg', ?_⟩
      rw [hk', hk, take_more htk]
    · refine iteT ⟨b3 _ _ hw' nwd, ?_⟩
      refine vq (Q := R) ?_ (q _ (back (b2.trans b3)))
      cases e : Vbkoaf.canServe m.ds ((keys z).map (prob m (wOf z))) with
      | false => rfl
      | true =>
        exfalso
        refine hnc (Vb.can_mono (fun a ha => ?_) ((Vb.canServe_iff iv).mp e))
        rcases List.mem_cons.mp ha with zz | zz
        · rw [zz]; exact List.mem_of_getElem? htk
        · exact hsub a zz
  · rintro σ H' ⟨v3, g, rfl, b2, hd', vg, hk⟩
    refine ⟨b2 _ _ upd_same nwd, ?_⟩
    have e0 : (keys z).take (kvs zV z).length = keys z := by rw [kvs_length, ← keys_len, List.take_length]
    rw [e0] at hk
    refine vq (Q := R) ?_ (q _ (back b2))
    exact ((Vb.canServe_iff iv).mpr (Vb.can_of_valid vg (Vb.fit_g fit vg fun a ha => by rw [← hk]; exact ha) fun a ha => by rw [hk]; exact ha)).symm
end
end Vp
set_option Elab.async false
set_option linter.all false
set_option maxRecDepth 100000
set_option maxHeartbeats 1000000
namespace Vp
open PySem PySem.Spec PyProof.Rows L2
open Vbkoaf (Person Day)
open Vb (G Q keys)

structure MOk (m : M) : Prop where
  wf : MWf m
  rn : m.row.Nodup
  rl : ∀ a ∈ m.row, a < m.ppl.length
  r8 : m.row.length ≤ 8
  pd : ∀ t ∈ m.ppl, ∀ d ∈ t.2, d < m.ds.length
  dl : ∀ t ∈ m.ppl, t.2.length ≤ 60
theorem MOk.dlen {m : M} (h : MOk m) {a : Nat} (ha : a < m.ppl.length) : (daysAt m a).length ≤ 60 := by
  rw [daysAt, List.getD_eq_getElem?_getD, List.getElem?_eq_getElem ha]
  exact h.dl _ (List.getElem_mem ha)
theorem MOk.day {m : M} (h : MOk m) {a : Nat} (ha : a < m.ppl.length) : ∀ d ∈ daysAt m a, d < m.ds.length := by
  rw [daysAt, List.getD_eq_getElem?_getD, List.getElem?_eq_getElem ha]
  exact h.pd _ (List.getElem_mem ha)
theorem wwf_M {m : M} (h : MOk m) {A : List Nat} (nd : A.Nodup) (lt : ∀ a ∈ A, a < m.ppl.length) : WWf m (wM m A) := by
  refine ⟨by rw [wM_keys]; exact nd, by rw [wM_keys]; exact lt, fun t ht d hd => ?_⟩
  obtain ⟨a, ha, rfl⟩ := List.mem_map.mp ht
  exact h.day (lt a ha) d hd
theorem wM_look {m : M} {A : List Nat} (nd : A.Nodup) {a : Nat} (ha : a ∈ A) : (wM m A).lookup a = some (daysAt m a) := mem_look (by rw [wM_keys]; exact nd) (List.mem_map.mpr ⟨a, ha, rfl⟩)
theorem prob_mP {m : M} {A : List Nat} (nd : A.Nodup) {a : Nat} (ha : a ∈ A) : prob m (wM m A) a = mP m a := by
  show (⟨a, _, ((wM m A).lookup a).getD []⟩ : Person) = ⟨a, _, daysAt m a⟩
  rw [wM_look nd ha]; rfl
theorem fit_mP {m : M} (h : MOk m) {A : List Nat} (lt : ∀ a ∈ A, a < m.ppl.length) : Vb.Fit m.ds (mP m) A := ⟨fun a ha => h.wf.kind (lt a ha), fun a ha => h.day (lt a ha)⟩

section
variable {K : PySem.W.Frag} {mg : Str → Option Value} {CG CH CR : Addr}
/-! ### served -/
def spServed (CH : Addr) : Sp := fun vs H R _ => ∃ (h : Addr) (l : Lay) (m : M), vs = [.ref h] ∧ HouseAt CH H h l m ∧ MOk m ∧
  ∀ H' p, Same H H' → H p = none → H' p = some (.lst (nats (Vb.servedN m.ds (mP m) [] m.row))) → R (.ref p) H'
theorem pure_served (T : Txt K mg CG CH CR) (vs : List V) (H : Hp) (R : VK) (E : XK) (h : spServed CH vs H R E) : t_served K CG CH CR (spGInit CG) (spWishes K CH) (spTake CG CH) { nx := fun _ H' => R .non H', rt := R } (start ["house", "giving", "taken", "applicant"] vs) H := by
  obtain ⟨h, l, m, rfl, hs, mo, q⟩ := h
  have mw := mo.wf
  have ww := wwf_M mo mo.rn mo.rl
  -- giving = Giving(house, wishes_of(house, house.row))
  refine ⟨_, rfl, _, rfl, _, rfl, h, CH, l.dx, _, _, rfl, hs.ins, T.cl_House, T.na_House_row, hF_row, h, l.ro, l, m, m.row, rfl, hs, SqL.of hs.ro, mo.rn, by have := mo.r8; omega, mo.rl, fun H1 w s1 nw hw => ?_⟩
  intro x dx nx ndx ne
  refine ⟨x, dx, h, w, rfl, upd_same, fun H2 d bt hx hd0 hd1 => ⟨rfl, ?_⟩⟩
  have s2 : Same H1 H2 := made nx ndx bt
  have hdx : d ≠ x := fun e => by rw [e, upd_same] at hd0; cases hd0
  have hdn : H1 d = none := by
    rw [upd_ne hdx] at hd0
    cases e : H1 d with
    | none => rfl
    | some o =>
      have : d ≠ dx := ne_of_none e ndx
      rw [upd_ne this, e] at hd0; cases hd0
  have nwd : w ≠ d := ne_of_none hw hdn
  have hw2 := s2 _ _ hw
  -- taken = []
  refine ⟨Nat.zero_le _, fun p np => ?_⟩
  have s3 : Same H2 (upd H2 p (.lst [])) := same_upd np
  have np1 : H1 p = none := s2.free np
  have np0 : H p = none := s1.free np1
  have hd00 : H d = none := s1.free hdn
  have npd : p ≠ d := fun e => by rw [e, hd1] at np; cases np
  have npx : p ≠ x := fun e => by rw [e, hx] at np; cases np
  have npw : p ≠ w := fun e => by rw [e, hw2] at np; cases np
  have hs3 := hs.same ((s1.trans s2).trans s3)
  refine ⟨_, rfl, h, CH, l.dx, _, _, rfl, hs3.ins, T.cl_House, T.na_House_row, hF_row, l.ro, rfl, ⟨_, SqL.of hs3.ro⟩, ?_⟩
  refine for_list (K := K) (a := l.ro) (xs := nats m.row) (fun i σ H' => ∃ (v3 : Option V) (g : G), σ = [some (.ref h), some (.ref x), some (.ref p), v3] ∧ Same H H' ∧ H' w = some (.dK (kvs zV (zOf m l m.row))) ∧ H' x = some (.ins CG dx (gF h w d)) ∧ H' d = some (.dK (kG g)) ∧ Vb.Valid m.ds (prob m (wM m m.row)) g ∧ keys g = Vb.servedN m.ds (mP m) [] (m.row.take i) ∧ H' p = some (.lst (nats (keys g))))
    ⟨none, [], rfl, (s1.trans s2).trans s3, s3 _ _ hw2, s3 _ _ hx, s3 _ _ hd1, Vb.nil_valid, by rw [List.take_zero]; rfl, upd_same⟩ (fun i σ H' _ ⟨_, _, _, s, _⟩ => SqL.of (s _ _ hs.ro)) ?_ ?_
  · rintro i y σ H' hy ⟨v3, g, rfl, s, hw', hx', hd', vg, hk, hp'⟩
    obtain ⟨a, ha, rfl⟩ := of_nats hy
    have haR := List.mem_of_getElem? ha
    have hsub : ∀ b ∈ keys g, b ∈ m.row := fun b hb => by
      rw [hk] at hb
      rcases Vb.served_sub hb with z | z
      · cases z
      · exact List.mem_of_mem_take z
    have hno : a ∉ keys g := fun z => by
      rw [hk] at z
      rcases Vb.served_sub z with y | y
      · cases y
      · have nd2 := mo.rn
        rw [← List.take_append_drop (i + 1) m.row, take_more ha] at nd2
        exact (List.nodup_append.mp (List.nodup_append.mp nd2).1).2.2 _ y _ (List.mem_cons_self ..) rfl
    have hgl : g.length ≤ 8 := by
      rw [← keys_len]
      exact Nat.le_trans (Vb.nodup_length vg.nd hsub) mo.r8
    have hs' := hs.same s
    have gv : GivAt CG CH H' x dx h w d l m g := ⟨hx', hs', hd', vg.nd, by omega, fun b hb => mo.rl b (hsub b hb)⟩
    have wz : WZ H' (zOf m l m.row) := wz_of hs' mo.rl
    have wa := wish_of wz (.inl hw')
    rw [wOf_zOf] at wa
    have hsA : ∀ b ∈ keys g ++ [a], b ∈ m.row := fun b hb => by
      rcases List.mem_append.mp hb with z | z
      · exact hsub b z
      · have : b = a := by simpa using z
        rw [this]; exact haR
    have ndA : (keys g ++ [a]).Nodup := List.nodup_append.mpr ⟨vg.nd, by simp, fun b hb c hc e => hno (by
      have : c = a := by simpa using hc
      rw [← this, ← e]; exact hb)⟩
    have ids : Vb.Ids (mP m) (keys g ++ [a]) := ids_mP mw ndA fun b hb => mo.rl b (hsA b hb)
    have cong : ∀ b ∈ keys g ++ [a], prob m (wM m m.row) b = mP m b := fun b hb => prob_mP mo.rn (hsA b hb)
    refine ⟨_, rfl, x, dx, _, rfl, gv.ins, gF_no (by decide +kernel), _, rfl, x, dx, h, w, d, l, m, g, wM m m.row, _, a, rfl, gv, mw, wa, nwd, ww, vg, by rw [wM_keys]; exact haR, hno, fun b hb => by rw [wM_keys]; exact hsub b hb, fun H4 b g' b3 hd4 hcase => ?_⟩
    refine ⟨_, rfl, ?_⟩
    have s4 : Same H H4 := fun c o hc => b3 c o (s c o hc) (ne_of_none hc hd00)
    have hw4 := b3 _ _ hw' nwd
    have hx4 := b3 _ _ hx' hdx.symm
    have hp4 := b3 _ _ hp' npd
    rcases hcase with ⟨rfl, vg', hk'⟩ | ⟨rfl, rfl, hnc⟩
    · have hcan : Vbkoaf.canServe m.ds ((keys g ++ [a]).map (mP m)) = true := by
        refine (Vb.canServe_iff ids).mpr (Vb.can_congr cong ?_)
        refine Vb.can_of_valid vg' (Vb.fit_g (A := m.row) ?_ vg' fun b hb => by rw [hk'] at hb; exact hsA b hb) fun b hb => by rw [hk']; exact hb
        have := fit_prob mw ww
        rwa [wM_keys] at this
      refine iteT ⟨_, rfl, .inl ⟨rfl, _, SqL.of hp4⟩, _, rfl, p, _, _, rfl, rfl, hp4, by rw [nats_length, keys_len]; exact small1000 (by omega), ?_⟩
      refine ⟨_, g', rfl, fun c o hc => ?_, ?_, ?_, ?_, vg', ?_, ?_⟩
      · rw [upd_ne (ne_of_none hc np0)]; exact s4 _ _ hc
      · rw [upd_ne npw.symm]; exact hw4
      · rw [upd_ne npx.symm]; exact hx4
      · rw [upd_ne npd.symm]; exact hd4
      · rw [hk', take_more ha, Vb.served_more, ← hk, hcan]; rfl
      · rw [upd_same, hk', nats_append]; rfl
    · have hcan : Vbkoaf.canServe m.ds ((keys g' ++ [a]).map (mP m)) = false := by
        cases e : Vbkoaf.canServe m.ds ((keys g' ++ [a]).map (mP m)) with
        | false => rfl
        | true =>
          exfalso
          refine hnc (Vb.can_mono (fun b hb => ?_) (Vb.can_congr (fun b hb => (cong b hb).symm) ((Vb.canServe_iff ids).mp e)))
          rcases List.mem_cons.mp hb with z | z
          · rw [z]; exact List.mem_append_right _ (List.mem_cons_self ..)
          · exact List.mem_append_left _ z
      refine iteF ⟨_, g', rfl, s4, hw4, hx4, hd4, vg, ?_, hp4⟩
      rw [take_more ha, Vb.served_more, ← hk, hcan]; rfl
  · rintro σ H' ⟨v3, g, rfl, s, hw', hx', hd', vg, hk, hp'⟩
    have e0 : m.row.take (nats m.row).length = m.row := by rw [nats_length, List.take_length]
    rw [e0] at hk
    rw [hk] at hp'
    exact ⟨_, rfl, q H' p s np0 hp'⟩

/-! ### least_day -/
theorem prob_put {m : M} {W : List (Nat × List Nat)} {x : Nat} {l : List Nat} : prob m (putN W x l) = Vb.setDays (prob m W) x l := by
  funext i
  by_cases c : i = x
  · subst c
    rw [Vb.setDays_same]
    show (⟨i, _, ((putN W i l).lookup i).getD []⟩ : Person) = ⟨i, _, l⟩
    rw [lookup_putN, if_pos rfl]; rfl
  · rw [Vb.setDays_ne c]
    show (⟨i, _, ((putN W x l).lookup i).getD []⟩ : Person) = ⟨i, _, (W.lookup i).getD []⟩
    rw [lookup_putN, if_neg c]
theorem wwf_put {m : M} {W : List (Nat × List Nat)} (h : WWf m W) {x e : Nat} (hx : x ∈ keys W) (he : e < m.ds.length) : WWf m (putN W x [e]) := by
  refine ⟨by rw [putN_keys hx]; exact h.nd, by rw [putN_keys hx]; exact h.inP, fun t ht d hd => ?_⟩
  rcases mem_putN ht with z | z
  · subst z
    have : d = e := by simpa using hd
    omega
  · exact h.days t z d hd
theorem putN_len {β : Type} {l : List (Nat × β)} {x : Nat} {v : β} (hx : x ∈ keys l) : (putN l x v).length = l.length := by rw [← keys_len, putN_keys hx, keys_len]
def spLeast (CH : Addr) : Sp := fun vs H R _ => ∃ (h w : Addr) (l : Lay) (m : M) (z : Z) (x d : Nat), vs = [.ref h, .ref w, .int (x : Int)] ∧ HouseAt CH H h l m ∧ MWf m ∧ H w = some (.dK (kvs zV z)) ∧ WZ H z ∧ WWf m (wOf z) ∧ z.length ≤ 1000 ∧ x ∈ keys z ∧
  ((prob m (wOf z) x).days.find? fun d => Vbkoaf.canServe m.ds ((keys z).map (Vb.setDays (prob m (wOf z)) x [d]))) = some d ∧
  ∀ H', Same H H' → R (.int (d : Int)) H'
theorem find_at {p : Nat → Bool} {e : Nat} : ∀ {l : List Nat} {i d : Nat}, l.find? p = some d → l[i]? = some e → p e = true → (∀ j b, j < i → l[j]? = some b → p b = false) → e = d
  | [], i, d, h, _, _, _ => by cases h
  | b :: l, 0, d, h, he, hp, _ => by
    have : b = e := by simpa using he
    subst this
    rw [List.find?_cons, hp] at h
    exact Option.some.inj h
  | b :: l, i + 1, d, h, he, hp, hn => by
    have hb := hn 0 b (by omega) rfl
    rw [List.find?_cons, hb] at h
    exact find_at (l := l) (i := i) h (by simpa using he) hp fun j c hj hc => hn (j + 1) c (by omega) (by simpa using hc)
theorem pure_least (T : Txt K mg CG CH CR) (vs : List V) (H : Hp) (R : VK) (E : XK) (h : spLeast CH vs H R E) : t_least_day K CG CH CR (spCan CH) { nx := fun _ H' => R .non H', rt := R } (start ["house", "wishes", "applicant", "day", "narrowed"] vs) H := by
  obtain ⟨h, w, l, m, z, x, d, rfl, hs, mw, hw, wz, ww, few, hx, hf, q⟩ := h
  obtain ⟨⟨la, ls⟩, hz⟩ := look_some hx
  have hxW : x ∈ keys (wOf z) := by rw [wOf_keys]; exact hx
  have hlW : (wOf z).lookup x = some ls := by rw [wOf_look, hz]; rfl
  have hdays : (prob m (wOf z) x).days = ls := prob_days hlW
  rw [hdays] at hf
  have hla : H la = some (.lst (nats ls)) := wz.at_ _ (look_mem hz)
  refine ⟨_, rfl, _, rfl, w, .ref la, rfl, .inl ⟨_, Sum.inl (x : Int), .inl hw, rfl, by rw [val_kvs, hz]; rfl⟩, la, rfl, ⟨_, SqL.of hla⟩, ?_⟩
  refine for_list (K := K) (a := la) (xs := nats ls) (fun i σ H' => ∃ v3 v4 : Option V, σ = [some (.ref h), some (.ref w), some (.int (x : Int)), v3, v4] ∧ Same H H' ∧ ∀ j b, j < i → ls[j]? = some b → Vbkoaf.canServe m.ds ((keys z).map (Vb.setDays (prob m (wOf z)) x [b])) = false)
    ⟨none, none, rfl, Same.refl _, fun j b hj => by omega⟩ (fun i σ H' _ ⟨_, _, _, s, _⟩ => SqL.of (s _ _ hla)) ?_ ?_
  · rintro i y σ H' hy ⟨v3, v4, rfl, s, hno⟩
    obtain ⟨e, he, rfl⟩ := of_nats hy
    have heN : e < m.ds.length := ww.day hlW e (List.mem_of_getElem? he)
    -- narrowed = dict(wishes)
    refine ⟨_, rfl, w, _, rfl, .inl (s _ _ hw), fun p np => ?_⟩
    have s1 := same_upd (o := .dK (kvs zV z)) np
    -- narrowed[applicant] = [day]
    refine ⟨_, rfl, by show 1 ≤ sizeLine; decide, fun b nb => ?_⟩
    have s2 := same_upd (o := .lst [.int (e : Int)]) nb
    have npb : p ≠ b := fun z => by rw [← z, upd_same] at nb; cases nb
    have np0 : H p = none := s.free np
    refine ⟨_, rfl, _, rfl, p, _, rfl, DPut.k (k := Sum.inl (x : Int)) (s2 _ _ upd_same) (by rw [kvs_length]; exact small1000 few), ?_⟩
    have hput : putK (kvs zV z) (Sum.inl (x : Int)) (.ref b) = kvs zV (putN z x (b, [e])) := putK_kvs (f := zV) (v := (b, [e])) (by rw [← wOf_keys]; exact ww.nd)
    rw [hput]
    generalize hH3 : upd (upd (upd H' p (.dK (kvs zV z))) b (.lst [.int (e : Int)])) p (.dK (kvs zV (putN z x (b, [e])))) = H3
    have s3 : Same H' H3 := fun c o hc => by
      rw [← hH3, upd_ne (ne_of_none hc np)]
      exact s2 _ _ (s1 _ _ hc)
    have hb3 : H3 b = some (.lst (nats [e])) := by rw [← hH3, upd_ne npb.symm, upd_same]; rfl
    have hp3 : H3 p = some (.dK (kvs zV (putN z x (b, [e])))) := by rw [← hH3, upd_same]
    have hk : keys (putN z x (b, [e])) = keys z := putN_keys hx
    -- can_be_served(house, narrowed)
    refine ⟨_, rfl, _, rfl, h, p, l, m, putN z x (b, [e]), rfl, hs.same (s.trans s3), mw, hp3, ⟨fun t ht => ?_⟩, ?_, ?_, fun H4 s4 => ?_⟩
    · rcases mem_putN ht with y | y
      · subst y; exact hb3
      · exact (s.trans s3) _ _ (wz.at_ t y)
    · rw [wOf_put]; exact wwf_put ww hxW heN
    · rw [putN_len hx]; exact few
    · rw [hk, wOf_put, prob_put]
      refine ⟨_, rfl, ite2 (fun c => ?_) (fun c => ?_)⟩
      · have : e = d := find_at (p := fun d => Vbkoaf.canServe m.ds ((keys z).map (Vb.setDays (prob m (wOf z)) x [d]))) hf he c hno
        subst this
        exact ⟨_, rfl, q H4 ((s.trans s3).trans s4)⟩
      · refine ⟨_, _, rfl, (s.trans s3).trans s4, fun j c' hj hc => ?_⟩
        by_cases ej : j = i
        · subst ej
          rw [he] at hc; cases hc
          exact Bool.eq_false_iff.mpr c
        · exact hno j c' (by omega) hc
  · rintro σ H' ⟨v3, v4, rfl, s, hno⟩
    exfalso
    have hm := List.mem_of_find?_eq_some hf
    obtain ⟨j, hj⟩ := List.mem_iff_getElem?.mp hm
    have hl : j < (nats ls).length := by rw [nats_length]; exact (List.getElem?_eq_some_iff.mp hj).1
    have h1 := hno j d hl hj
    have h2 := List.find?_some hf
    rw [h1] at h2; cases h2
end
end Vp
set_option Elab.async false
set_option linter.all false
set_option maxRecDepth 100000
set_option maxHeartbeats 1000000
namespace Vp
open PySem PySem.Spec PyProof.Rows L2
open Vbkoaf (Person Day)
open Vb (G Q keys)
section
variable {K : PySem.W.Frag} {mg : Str → Option Value} {CG CH CR : Addr}

theorem giveN_congr {ds : List Day} {P R : Nat → Person} {D B : List Nat} (nd : (D ++ B).Nodup) (h : ∀ a ∈ D ++ B, P a = R a) : Vb.giveN ds P D B = Vb.giveN ds R D B := by
  rw [← Vb.give_is B P D nd, ← Vb.give_is B R D nd]
  rw [List.map_congr_left fun a ha => h a (List.mem_append_left _ ha), List.map_congr_left fun a ha => h a (List.mem_append_right _ ha)]
theorem zip_more {A dl : List Nat} {i a d : Nat} (ha : A[i]? = some a) (hl : dl.length = i) : (A.take (i + 1)).zip (dl ++ [d]) = (A.take i).zip dl ++ [(a, d)] := by
  have hi : i < A.length := (List.getElem?_eq_some_iff.mp ha).1
  rw [take_more ha, List.zip_append (by rw [List.length_take, hl]; omega)]; rfl
theorem zip_keys {A dl : List Nat} (h : A.length = dl.length) : keys (A.zip dl) = A := by
  rw [keys]
  exact List.map_fst_zip (by omega)

/-- the told giving of a list of numbers -/
def toldN (m : M) (A : List Nat) : List Nat := Vb.giveN m.ds (mP m) [] A
def spTold (K : PySem.W.Frag) (CH : Addr) : Sp := fun vs H R _ => ∃ (h ap : Addr) (l : Lay) (m : M) (A : List Nat), vs = [.ref h, .ref ap] ∧ HouseAt CH H h l m ∧ MOk m ∧ SqL K H ap (nats A) ∧ A.Nodup ∧ (∀ a ∈ A, a < m.ppl.length) ∧ Vbkoaf.canServe m.ds (A.map (mP m)) = true ∧
  ∀ H' p, Same H H' → H p = none → H' p = some (.dK (kvs dayV (A.zip (toldN m A)))) → (toldN m A).length = A.length → R (.ref p) H'
theorem pure_told (T : Txt K mg CG CH CR) (vs : List V) (H : Hp) (R : VK) (E : XK) (h : spTold K CH vs H R E) : t_told_giving K CG CH CR (spWishes K CH) (spLeast CH) { nx := fun _ H' => R .non H', rt := R } (start ["house", "applicants", "wishes", "told", "applicant", "day"] vs) H := by
  obtain ⟨h, ap, l, m, A, rfl, hs, mo, hA, nd, lt, hcan, q⟩ := h
  have mw := mo.wf
  have hAl : A.length ≤ 20 := by
    have := Vb.nodup_length nd (m := List.range 20) fun a ha => List.mem_range.mpr (Nat.lt_of_lt_of_le (lt a ha) mw.pn)
    simpa using this
  refine ⟨_, rfl, _, rfl, h, ap, l, m, A, rfl, hs, hA, nd, by omega, lt, fun H1 w s1 nw hw => ?_⟩
  refine fun p np => ?_
  have np0 : H p = none := s1.free np
  have s2 : Same H1 (upd H1 p (.dK [])) := same_upd np
  have nwp : w ≠ p := ne_of_none hw np
  have ww0 := wwf_M mo nd lt
  have cong : ∀ a ∈ A, prob m (wM m A) a = mP m a := fun a ha => prob_mP nd ha
  refine ⟨_, rfl, ap, rfl, ⟨_, (s1.trans s2).seq hA⟩, ?_⟩
  refine for_list (K := K) (a := ap) (xs := nats A) (fun i σ H' => ∃ (v4 v5 : Option V) (z : Z) (dl : List Nat), σ = [some (.ref h), some (.ref ap), some (.ref w), some (.ref p), v4, v5] ∧ Same H H' ∧ H' w = some (.dK (kvs zV z)) ∧ WZ H' z ∧ keys z = A ∧ WWf m (wOf z) ∧ H' p = some (.dK (kvs dayV ((A.take i).zip dl))) ∧ dl.length = i ∧
      toldN m A = dl ++ Vb.giveN m.ds (prob m (wOf z)) (A.take i) (A.drop i) ∧ Vbkoaf.canServe m.ds (A.map (prob m (wOf z))) = true)
    ⟨none, none, zOf m l A, [], rfl, s1.trans s2, s2 _ _ hw, wz_of (hs.same (s1.trans s2)) lt, zOf_keys, by rw [wOf_zOf]; exact ww0, by rw [upd_same]; rfl, rfl, ?_, ?_⟩ (fun i σ H' _ ⟨_, _, _, _, _, s, _⟩ => s.seq hA) ?_ ?_
  · rw [List.take_zero, List.drop_zero, List.nil_append, wOf_zOf, toldN]
    exact (giveN_congr (by simpa using nd) (by simpa using cong)).symm
  · rw [wOf_zOf, List.map_congr_left cong]; exact hcan
  · rintro i y σ H' hy ⟨v4, v5, z, dl, rfl, s, hw', wz, hk, ww, hp', hdl, htold, hc⟩
    obtain ⟨a, ha, rfl⟩ := of_nats hy
    have haA := List.mem_of_getElem? ha
    have hi : i < A.length := (List.getElem?_eq_some_iff.mp ha).1
    have ids : Vb.Ids (prob m (wOf z)) A := ids_prob mw nd lt
    have fit : Vb.Fit m.ds (prob m (wOf z)) A := by have := fit_prob mw ww; rwa [wOf_keys, hk] at this
    obtain ⟨d, hd⟩ := Vb.find_some ids fit hc haA
    have haz : a ∈ keys z := by rw [hk]; exact haA
    have haW : a ∈ keys (wOf z) := by rw [wOf_keys]; exact haz
    have hzl : z.length ≤ 1000 := by rw [← keys_len, hk]; omega
    have hdm := List.mem_of_find?_eq_some hd
    have hdN : d < m.ds.length := fit.days a haA d hdm
    refine ⟨_, rfl, _, rfl, _, rfl, h, w, l, m, z, a, d, rfl, hs.same s, mw, hw', wz, ww, hzl, haz, by rw [hk]; exact hd, fun H2 s2 => ?_⟩
    -- wishes[applicant] = [day]
    have hw2 := s2 _ _ hw'
    have hp2 := s2 _ _ hp'
    refine ⟨_, rfl, by show 1 ≤ sizeLine; decide, fun b nb => ?_⟩
    have s3 := same_upd (o := .lst [.int (d : Int)]) nb
    refine ⟨_, rfl, _, rfl, w, _, rfl, DPut.k (k := Sum.inl (a : Int)) (s3 _ _ hw2) (by rw [kvs_length]; exact small1000 hzl), ?_⟩
    have hput : putK (kvs zV z) (Sum.inl (a : Int)) (.ref b) = kvs zV (putN z a (b, [d])) := putK_kvs (f := zV) (v := (b, [d])) (by rw [← wOf_keys]; exact ww.nd)
    rw [hput]
    have hbw : b ≠ w := fun e => by rw [e, hw2] at nb; cases nb
    have hbp : b ≠ p := fun e => by rw [e, hp2] at nb; cases nb
    have hp3 : (upd (upd H2 b (.lst [.int (d : Int)])) w (.dK (kvs zV (putN z a (b, [d]))))) p = some (.dK (kvs dayV ((A.take i).zip dl))) := by rw [upd_ne nwp.symm]; exact s3 _ _ hp2
    -- told[applicant] = day
    refine ⟨_, rfl, _, rfl, _, rfl, p, _, rfl, DPut.k (k := Sum.inl (a : Int)) hp3 (by rw [kvs_length, List.length_zip]; exact small1000 (by rw [List.length_take]; omega)), ?_⟩
    have hzk : keys ((A.take i).zip dl) = A.take i := zip_keys (by rw [List.length_take, hdl]; omega)
    have hno : a ∉ A.take i := fun y => by
      have nd2 := nd
      rw [← List.take_append_drop (i + 1) A, take_more ha] at nd2
      exact (List.nodup_append.mp (List.nodup_append.mp nd2).1).2.2 _ y _ (List.mem_cons_self ..) rfl
    have hput2 : putK (kvs dayV ((A.take i).zip dl)) (Sum.inl (a : Int)) (.int (d : Int)) = kvs dayV ((A.take (i + 1)).zip (dl ++ [d])) := by
      have y := putK_kvs (f := dayV) (a := a) (v := d) (l := (A.take i).zip dl) (by rw [hzk]; exact List.Nodup.sublist (List.take_sublist i A) nd)
      rw [putN_new (by rw [hzk]; exact hno)] at y
      rw [zip_more ha hdl]
      exact y
    rw [hput2]
    have nw0 : H w = none := nw
    refine ⟨_, _, putN z a (b, [d]), dl ++ [d], rfl, fun c o hc => ?_, ?_, ⟨fun t ht => ?_⟩, ?_, ?_, upd_same, by rw [List.length_append, hdl]; rfl, ?_, ?_⟩
    · rw [upd_ne (ne_of_none hc np0), upd_ne (ne_of_none hc nw0)]
      exact s3 _ _ (s2 _ _ (s _ _ hc))
    · rw [upd_ne nwp, upd_same]
    · have hl3 : (upd H2 b (.lst [.int (d : Int)])) t.2.1 = some (.lst (nats t.2.2)) := by
        rcases mem_putN ht with y | y
        · subst y; rw [upd_same]; rfl
        · exact s3 _ _ (s2 _ _ (wz.at_ t y))
      have n1 : t.2.1 ≠ p := ne_of hl3 (s3 _ _ hp2) (by intro z; cases z)
      have n2 : t.2.1 ≠ w := ne_of hl3 (s3 _ _ hw2) (by intro z; cases z)
      rw [upd_ne n1, upd_ne n2]; exact hl3
    · rw [putN_keys haz, hk]
    · rw [wOf_put]; exact wwf_put ww haW hdN
    · rw [htold, wOf_put, prob_put, List.append_assoc]
      congr 1
      have ed : A.drop i = a :: A.drop (i + 1) := by
        have e := (List.getElem?_eq_some_iff.mp ha).2
        rw [List.drop_eq_getElem_cons hi, e]
      rw [ed, Vb.giveN]
      have eA : A.take i ++ a :: A.drop (i + 1) = A := by rw [← ed]; exact List.take_append_drop i A
      simp only [eA, hd]
      rw [take_more ha]; rfl
    · rw [wOf_put, prob_put]
      have y := List.find?_some hd
      exact y
  · rintro σ H' ⟨v4, v5, z, dl, rfl, s, hw', wz, hk, ww, hp', hdl, htold, hc⟩
    have e0 : A.take (nats A).length = A := by rw [nats_length, List.take_length]
    have e1 : A.drop (nats A).length = [] := by rw [nats_length, List.drop_length]
    rw [e0] at hp'
    rw [e1] at htold
    have e2 : toldN m A = dl := by rw [htold]; simp [Vb.giveN]
    rw [← e2] at hp'
    exact ⟨_, rfl, q H' p s np0 hp' (by rw [e2, hdl, nats_length])⟩
end
end Vp
set_option Elab.async false
set_option linter.all false
set_option maxRecDepth 100000
set_option maxHeartbeats 1000000
namespace Vp
open PySem PySem.Spec PyProof.Rows L2
open Vbkoaf (Person Day inside)
open Vb (G Q keys)

def iV (l : List Int) : List V := l.map V.int
theorem iV_length {l : List Int} : (iV l).length = l.length := List.length_map ..
theorem iV_some {l : List Int} {i : Nat} {n : Int} (h : l[i]? = some n) : (iV l)[i]? = some (V.int n) := by rw [iV, List.getElem?_map, h]; rfl
theorem of_iV {l : List Int} {i : Nat} {x : V} (h : (iV l)[i]? = some x) : ∃ n, l[i]? = some n ∧ x = V.int n := by
  rw [iV, List.getElem?_map] at h
  cases e : l[i]? with
  | none => rw [e] at h; cases h
  | some n => rw [e] at h; exact ⟨n, rfl, (Option.some.inj h).symm⟩
theorem nats_iV {l : List Nat} : nats l = iV (l.map fun (n : Nat) => (n : Int)) := by rw [nats, iV, List.map_map]; rfl
theorem seq_frame {K : PySem.W.Frag} {H H' : Hp} {a : Addr} {xs : List V} (h : SqL K H a xs) (s : ∀ o, H a = some o → H' a = some o) : SqL K H' a xs := by
  rcases h with (h | ⟨o, h⟩) | h
  · exact .inl (.inl (s _ h))
  · exact .inl (.inr ⟨o, s _ h⟩)
  · exact .inr h

section
variable {K : PySem.W.Frag} {mg : Str → Option Value} {CG CH CR : Addr}

def spWithin : Sp := fun vs H R _ => ∃ n lo hi : Int, vs = [.int n, .int lo, .int hi] ∧ R (.bl (inside n lo hi)) H
theorem pure_within (vs : List V) (H : Hp) (R : VK) (E : XK) (h : spWithin vs H R E) : t_is_within K CG CH CR { nx := fun _ H' => R .non H', rt := R } (start ["number", "least", "greatest"] vs) H := by
  obtain ⟨n, lo, hi, rfl, q⟩ := h
  refine ⟨_, rfl, _, rfl, _, _, rfl, rfl, _, rfl, ite2 (fun c => ?_) (fun c => ?_)⟩
  · refine ⟨_, rfl, _, _, rfl, rfl, ?_⟩
    refine vq (Q := R) ?_ q
    rw [inside, c, Bool.true_and]
  · refine vq (Q := R) ?_ q
    rw [inside, Bool.eq_false_iff.mpr c, Bool.false_and]
/-- within written bounds -/
def spIn (lo hi : Int) : Sp := fun vs H R _ => ∃ n : Int, vs = [.int n] ∧ R (.bl (inside n lo hi)) H
theorem pure_day (vs : List V) (H : Hp) (R : VK) (E : XK) (h : spIn 0 7 vs H R E) : t_is_day K CG CH CR spWithin { nx := fun _ H' => R .non H', rt := R } (start ["number"] vs) H := by
  obtain ⟨n, rfl, q⟩ := h
  exact ⟨_, rfl, _, _, rfl, rfl, n, 0, 7, rfl, q⟩
theorem pure_kind (vs : List V) (H : Hp) (R : VK) (E : XK) (h : spIn 0 3 vs H R E) : t_is_kind K CG CH CR spWithin { nx := fun _ H' => R .non H', rt := R } (start ["number"] vs) H := by
  obtain ⟨n, rfl, q⟩ := h
  exact ⟨_, rfl, _, _, rfl, rfl, n, 0, 3, rfl, q⟩
theorem pure_applicant (vs : List V) (H : Hp) (R : VK) (E : XK) (h : spIn 0 19 vs H R E) : t_is_applicant K CG CH CR spWithin { nx := fun _ H' => R .non H', rt := R } (start ["number"] vs) H := by
  obtain ⟨n, rfl, q⟩ := h
  exact ⟨_, rfl, _, _, rfl, rfl, n, 0, 19, rfl, q⟩

/-! ### is_rising -/
def upB : List Int → Bool
  | a :: b :: l => decide (a < b) && upB (b :: l)
  | _ => true
theorem up_iff : ∀ {l : List Int}, upB l = true ↔ ∀ (i : Nat) (a b : Int), l[i]? = some a → l[i + 1]? = some b → a < b
  | [] => by simp [upB]
  | [a] => by simp [upB]
  | a :: b :: l => by
    rw [upB, Bool.and_eq_true, decide_eq_true_eq, up_iff]
    constructor
    · rintro ⟨h1, h2⟩ i x y hx hy
      cases i with
      | zero =>
        have e1 : a = x := by simpa using hx
        have e2 : b = y := by simpa using hy
        omega
      | succ i => exact h2 i x y (by simpa using hx) (by simpa using hy)
    · intro h
      exact ⟨h 0 a b rfl rfl, fun i x y hx hy => h (i + 1) x y (by simpa using hx) (by simpa using hy)⟩
def spRising (K : PySem.W.Frag) : Sp := fun vs H R _ => ∃ (a : Addr) (ns : List Int), vs = [.ref a] ∧ SqL K H a (iV ns) ∧ ns.length ≤ 100000 ∧ R (.bl (upB ns)) H
theorem pure_rising (vs : List V) (H : Hp) (R : VK) (E : XK) (h : spRising K vs H R E) : t_is_rising K CG CH CR { nx := fun _ H' => R .non H', rt := R } (start ["numbers", "place"] vs) H := by
  obtain ⟨a, ns, rfl, hS, hl, q⟩ := h
  have hlen : ((iV ns).length : Int) = (ns.length : Int) := by rw [iV_length]
  refine ⟨_, rfl, a, _, rfl, .inl hS, 1, (ns.length : Int), by rw [hlen], ⟨by decide, by decide, by omega, by omega⟩, ?_⟩
  refine for_range (lo := 1) (n := ((ns.length : Int) - 1).toNat) (fun i σ H' => ∃ v1 : Option V, σ = [some (.ref a), v1] ∧ H' = H ∧ ∀ (j : Nat) (x y : Int), j < i → ns[j]? = some x → ns[j + 1]? = some y → x < y)
    ⟨none, rfl, rfl, fun j x y hj => by omega⟩ ?_ ?_
  · rintro i σ H' hi ⟨v1, rfl, rfl, hno⟩
    have h1 : i + 1 < ns.length := by omega
    have h0 : i < ns.length := by omega
    have g0 : ns[i]? = some ns[i] := List.getElem?_eq_getElem h0
    have g1 : ns[i + 1]? = some ns[i + 1] := List.getElem?_eq_getElem h1
    refine ⟨_, rfl, _, rfl, _, _, rfl, rfl, a, _, _, .int ns[i], rfl, rfl, hS, at_of (j := i) (by omega) (iV_some g0), ?_⟩
    refine ⟨_, rfl, _, rfl, a, _, _, .int ns[i + 1], rfl, rfl, hS, at_of (j := i + 1) (by omega) (iV_some g1), _, _, rfl, rfl, _, rfl, ite2 (fun c => ?_) (fun c => ?_)⟩
    · have c' : ns[i + 1] ≤ ns[i] := of_decide_eq_true c
      refine vq (Q := R) ?_ q
      cases e : upB ns with
      | false => rfl
      | true => exact absurd (up_iff.mp e i _ _ g0 g1) (by omega)
    · have c' : ¬ ns[i + 1] ≤ ns[i] := fun z => c (decide_eq_true z)
      refine ⟨_, rfl, rfl, fun j x y hj hx hy => ?_⟩
      by_cases ej : j = i
      · subst ej
        rw [g0] at hx; rw [g1] at hy
        cases hx; cases hy
        omega
      · exact hno j x y (by omega) hx hy
  · rintro σ H' ⟨v1, rfl, rfl, hno⟩
    refine vq (Q := R) ?_ q
    refine (up_iff.mpr fun i x y hx hy => hno i x y ?_ hx hy).symm
    have := (List.getElem?_eq_some_iff.mp hy).1
    omega

/-! ### with_count -/
def spCount : Sp := fun vs H R _ => ∃ (a : Addr) (xs : List V), vs = [.ref a] ∧ H a = some (.lst xs) ∧ xs.length ≤ 90000 ∧ ∀ H' p, Same H H' → H p = none → H' p = some (.lst (.int xs.length :: xs)) → R (.ref p) H'
theorem pure_count (vs : List V) (H : Hp) (R : VK) (E : XK) (h : spCount vs H R E) : t_with_count K CG CH CR { nx := fun _ H' => R .non H', rt := R } (start ["numbers"] vs) H := by
  obtain ⟨a, xs, rfl, ha, hl, q⟩ := h
  refine ⟨_, rfl, a, _, rfl, .inl (SqL.of ha), by show 1 ≤ sizeLine; decide, fun p np => ?_⟩
  have s1 := same_upd (o := .lst [V.int (xs.length : Int)]) np
  refine ⟨_, rfl, p, a, _, _, rfl, rfl, upd_same, s1 _ _ ha, by show 1 + xs.length ≤ sizeLine; exact Nat.le_of_lt (small_size (by omega)), fun p' np' => ?_⟩
  have s2 := same_upd (o := .lst ([V.int (xs.length : Int)] ++ xs)) np'
  exact q _ p' (s1.trans s2) (s1.free np') upd_same

/-! ### may days be so, may somebody apply -/
def spDays (K : PySem.W.Frag) (CH : Addr) : Sp := fun vs H R _ => ∃ (h a : Addr) (l : Lay) (m : M) (ns : List Int), vs = [.ref h, .ref a] ∧ HouseAt CH H h l m ∧ SqL K H a (iV ns) ∧ ns.length ≤ 100000 ∧ R (.bl (!ns.isEmpty && Vbkoaf.rising 0 ((m.ds.length : Int) - 1) ns)) H
theorem up_last : ∀ {l : List Int} {y z : Int}, upB (y :: l) = true → (y :: l).getLast? = some z → y ≤ z
  | [], y, z, _, h => by
    have : y = z := by simpa using h
    omega
  | a :: l, y, z, u, h => by
    rw [upB, Bool.and_eq_true, decide_eq_true_eq] at u
    rw [List.getLast?_cons_cons] at h
    have := up_last u.2 h
    omega
theorem rising_is {lo hi : Int} : ∀ {x : Int} {l : List Int} {z : Int}, (x :: l).getLast? = some z → Vbkoaf.rising lo hi (x :: l) = (upB (x :: l) && (decide (lo ≤ x) && decide (z ≤ hi)))
  | x, [], z, h => by
    have : x = z := by simpa using h
    subst this
    rw [Vbkoaf.rising, inside]
    rfl
  | x, y :: l, z, h => by
    rw [List.getLast?_cons_cons] at h
    have hz : upB (y :: l) = true → y ≤ z := fun u => up_last u h
    rw [Vbkoaf.rising, rising_is h, upB, inside]
    rw [Bool.eq_iff_iff]
    simp only [Bool.and_eq_true, decide_eq_true_eq]
    constructor
    · rintro ⟨⟨h1, h2⟩, h3, h4, h5, h6⟩
      exact ⟨⟨h3, h4⟩, h1, h6⟩
    · rintro ⟨⟨h3, h4⟩, h1, h6⟩
      have := hz h4
      exact ⟨⟨h1, by omega⟩, h3, h4, by omega, h6⟩

theorem pure_days (T : Txt K mg CG CH CR) (vs : List V) (H : Hp) (R : VK) (E : XK) (h : spDays K CH vs H R E) : t_are_days_to_come K CG CH CR (spRising K) { nx := fun _ H' => R .non H', rt := R } (start ["house", "days"] vs) H := by
  obtain ⟨h, a, l, m, ns, rfl, hs, hS, hl, q⟩ := h
  refine ⟨_, rfl, a, _, rfl, .inl hS, _, _, rfl, rfl, _, rfl, ?_⟩
  cases ns with
  | nil => exact ite2 (fun c => absurd c (by simp [iV])) (fun c => vq (Q := R) rfl q)
  | cons x r =>
    refine ite2 (fun _ => ?_) (fun c => absurd (by simp [iV]) c)
    refine ⟨_, rfl, a, x :: r, rfl, hS, hl, _, rfl, ?_⟩
    obtain ⟨z, hz⟩ : ∃ z, (x :: r).getLast? = some z := ⟨_, List.getLast?_eq_some_getLast (by simp)⟩
    rw [rising_is hz] at q
    refine ite2 (fun c => ?_) (fun c => ?_)
    · rw [c] at q
      refine ⟨_, rfl, a, _, _, .int x, rfl, rfl, hS, atI_nat (j := 0) rfl, _, _, rfl, rfl, _, rfl, ite2 (fun c1 => ?_) (fun c1 => ?_)⟩
      · have hlast : atI (iV (x :: r)) (-1) = some (.int z) := by
          have e1 : x :: r = (x :: r).dropLast ++ [z] := by
            have := List.dropLast_concat_getLast (l := x :: r) (by simp)
            rw [List.getLast?_eq_some_getLast (by simp)] at hz
            rw [← Option.some.inj hz]; exact this.symm
          rw [e1, iV, List.map_append]
          exact atI_last _ _
        refine ⟨_, rfl, _, rfl, a, _, _, .int z, rfl, rfl, hS, hlast, ?_⟩
        refine ⟨_, rfl, h, CH, l.dx, _, _, rfl, hs.ins, T.cl_House, T.na_House_day_count, hF_day_count, _, _, rfl, rfl, ?_⟩
        refine vq (Q := R) ?_ q
        rw [c1]
        show decide (z < (m.ds.length : Int)) = (true && (true && (true && decide (z ≤ (m.ds.length : Int) - 1))))
        rw [Bool.true_and, Bool.true_and, Bool.true_and]
        exact decide_eq_decide.mpr (by omega)
      · refine vq (Q := R) ?_ q
        rw [Bool.eq_false_iff.mpr c1]
        rfl
    · refine vq (Q := R) ?_ q
      rw [Bool.eq_false_iff.mpr c]
      rfl
def spApplied (CH : Addr) : Sp := fun vs H R _ => ∃ (h : Addr) (l : Lay) (m : M), vs = [.ref h] ∧ HouseAt CH H h l m ∧ R (.int (m.ppl.length : Int)) H
theorem pure_applied (T : Txt K mg CG CH CR) (vs : List V) (H : Hp) (R : VK) (E : XK) (h : spApplied CH vs H R E) : t_House_applied K CG CH CR { nx := fun _ H' => R .non H', rt := R } (start ["self"] vs) H := by
  obtain ⟨h, l, m, rfl, hs, q⟩ := h
  refine ⟨_, rfl, h, CH, l.dx, _, _, rfl, hs.ins, T.cl_House, T.na_House_kind_of, hF_kind_of, l.ki, _, rfl, .inl (SqL.of hs.ki), ?_⟩
  have e : ((nats (m.ppl.map (·.1))).length : Int) = (m.ppl.length : Int) := by rw [nats_length, List.length_map]
  show R (.int ((nats (m.ppl.map (·.1))).length : Int)) H
  rw [e]; exact q
end
end Vp
set_option Elab.async false
set_option linter.all false
set_option maxRecDepth 100000
set_option maxHeartbeats 1000000
namespace Vp
open PySem PySem.Spec PyProof.Rows L2
open Vbkoaf (Person Day inside)
open Vb (G Q keys)
section
variable {K : PySem.W.Frag} {mg : Str → Option Value} {CG CH CR : Addr}

def rF (a : Addr) (n : Int) : List (Str × V) := [("numbers", .ref a), ("at", .int n)]
theorem rF_numbers {a : Addr} {n : Int} : (rF a n).lookup ("numbers" : Str) = some (.ref a) := lk_here
theorem rF_at {a : Addr} {n : Int} : (rF a n).lookup ("at" : Str) = some (.int n) := (lk_past (by decide +kernel)).trans lk_here
theorem rF_no {a : Addr} {n : Int} {m : Str} (e : (["numbers", "at"] : List Str).all (fun f => !(m == f)) = true) : (rF a n).lookup m = none := by
  simp only [List.all_cons, List.all_nil, Bool.and_eq_true, Bool.not_eq_true'] at e
  obtain ⟨h1, h2, _⟩ := e
  exact (lk_past h1).trans ((lk_past h2).trans rfl)
theorem rF_put {a : Addr} {n z : Int} : putF "at" (.int z) (rF a n) = rF a z := (put_past (by decide +kernel)).trans (congrArg _ put_here)
theorem rF_new {a : Addr} : putF "at" (.int 0) (putF "numbers" (.ref a) []) = rF a 0 := (put_past (by decide +kernel)).trans rfl

def spRInit (CR : Addr) : Sp := fun vs H R _ => ∃ (p dx a : Addr), vs = [.ref p, .ref a] ∧ H p = some (.ins CR dx []) ∧ ∀ H', But p H H' → H' p = some (.ins CR dx (rF a 0)) → R .non H'
theorem pure_rinit (T : Txt K mg CG CH CR) (vs : List V) (H : Hp) (R : VK) (E : XK) (h : spRInit CR vs H R E) : t_Reader_init K CG CH CR { nx := fun _ H' => R .non H', rt := R } (start ["self", "numbers"] vs) H := by
  obtain ⟨p, dx, a, rfl, hp, q⟩ := h
  refine ⟨_, rfl, _, rfl, p, CR, dx, [], rfl, hp, T.cl_Reader, T.na_Reader_numbers, (by show 0 < 1000; decide), ?_⟩
  refine ⟨_, rfl, p, CR, dx, _, rfl, upd_same, T.cl_Reader, T.na_Reader_at, (by show 1 < 1000; decide), ?_⟩
  refine q _ (fun b o hb n => ?_) ?_
  · rw [upd_ne n, upd_ne n]; exact hb
  · rw [upd_same, rF_new]
def spAtEnd (K : PySem.W.Frag) (CR : Addr) : Sp := fun vs H R _ => ∃ (r dx a : Addr) (n : Nat) (ns : List Int), vs = [.ref r] ∧ H r = some (.ins CR dx (rF a (n : Int))) ∧ SqL K H a (iV ns) ∧ R (.bl (decide (ns.length ≤ n))) H
theorem pure_atend (T : Txt K mg CG CH CR) (vs : List V) (H : Hp) (R : VK) (E : XK) (h : spAtEnd K CR vs H R E) : t_Reader_is_at_end K CG CH CR { nx := fun _ H' => R .non H', rt := R } (start ["self"] vs) H := by
  obtain ⟨r, dx, a, n, ns, rfl, hr, hS, q⟩ := h
  refine ⟨_, rfl, r, CR, dx, _, _, rfl, hr, T.cl_Reader, T.na_Reader_at, rF_at, _, rfl, r, CR, dx, _, _, rfl, hr, T.cl_Reader, T.na_Reader_numbers, rF_numbers, a, _, rfl, .inl hS, _, _, rfl, rfl, ?_⟩
  refine vq (Q := R) (decide_eq_decide.mpr ?_) q
  rw [iV_length]; omega
def spNum (K : PySem.W.Frag) (CR : Addr) : Sp := fun vs H R _ => ∃ (r dx a : Addr) (n : Nat) (ns : List Int) (z : Int), vs = [.ref r] ∧ H r = some (.ins CR dx (rF a (n : Int))) ∧ SqL K H a (iV ns) ∧ ns[n]? = some z ∧
  ∀ H', But r H H' → H' r = some (.ins CR dx (rF a ((n + 1 : Nat) : Int))) → R (.int z) H'
theorem pure_num (T : Txt K mg CG CH CR) (vs : List V) (H : Hp) (R : VK) (E : XK) (h : spNum K CR vs H R E) : t_Reader_take_number K CG CH CR { nx := fun _ H' => R .non H', rt := R } (start ["self", "number"] vs) H := by
  obtain ⟨r, dx, a, n, ns, z, rfl, hr, hS, hz, q⟩ := h
  refine ⟨_, rfl, r, CR, dx, _, _, rfl, hr, T.cl_Reader, T.na_Reader_numbers, rF_numbers, _, rfl, r, CR, dx, _, _, rfl, hr, T.cl_Reader, T.na_Reader_at, rF_at, a, _, _, _, rfl, rfl, hS, atI_nat (iV_some hz), ?_⟩
  refine ⟨_, rfl, r, CR, dx, _, _, rfl, hr, T.cl_Reader, T.na_Reader_at, rF_at, _, _, rfl, rfl, dx, _, hr, (by show 2 < 1000; decide), ?_⟩
  rw [rF_put]
  exact ⟨_, rfl, q _ But.upd upd_same⟩
theorem cut_is {xs : List V} {i j : Nat} (h : i ≤ j) (hj : j ≤ xs.length) : cutV xs (some (i : Int)) (some (j : Int)) = (xs.drop i).take (j - i) := by
  unfold cutV
  rw [HT.sIx_nat, HT.sIx_nat, Nat.min_eq_left hj, Nat.min_eq_left (show i ≤ xs.length by omega)]
def spList (K : PySem.W.Frag) (CR : Addr) : Sp := fun vs H R _ => ∃ (r dx a : Addr) (n k : Nat) (ns : List Int), vs = [.ref r] ∧ H r = some (.ins CR dx (rF a (n : Int))) ∧ SqL K H a (iV ns) ∧ ns[n]? = some (k : Int) ∧ n + 1 + k ≤ ns.length ∧
  ∀ H' p, But r H H' → H' r = some (.ins CR dx (rF a ((n + 1 + k : Nat) : Int))) → H p = none → H' p = some (.lst (iV ((ns.drop (n + 1)).take k))) → R (.ref p) H'
theorem pure_list (T : Txt K mg CG CH CR) (vs : List V) (H : Hp) (R : VK) (E : XK) (h : spList K CR vs H R E) : t_Reader_take_list K CG CH CR (spNum K CR) { nx := fun _ H' => R .non H', rt := R } (start ["self", "many", "begin"] vs) H := by
  obtain ⟨r, dx, a, n, k, ns, rfl, hr, hS, hk, hl, q⟩ := h
  refine ⟨_, rfl, r, dx, _, rfl, hr, rF_no (by decide +kernel), r, dx, a, n, ns, (k : Int), rfl, hr, hS, hk, fun H1 b1 hr1 => ?_⟩
  have hra : ∀ o, H a = some o → a ≠ r → H1 a = some o := fun o e ne => b1 _ _ e ne
  have nar : ∀ {xs : List V}, SqL K H a xs → SqL K H1 a xs := fun {xs} hS => by
    rcases hS with (h | ⟨o, h⟩) | h
    · exact .inl (.inl (b1 _ _ h (ne_of h hr (by intro z; cases z))))
    · exact .inl (.inr ⟨o, b1 _ _ h (ne_of h hr (by intro z; cases z))⟩)
    · exact .inr h
  have hS1 := nar hS
  -- begin = self.at
  refine ⟨_, rfl, r, CR, dx, _, _, rfl, hr1, T.cl_Reader, T.na_Reader_at, rF_at, ?_⟩
  -- self.at += many
  refine ⟨_, rfl, r, CR, dx, _, _, rfl, hr1, T.cl_Reader, T.na_Reader_at, rF_at, _, rfl, _, _, rfl, rfl, dx, _, hr1, (by show 2 < 1000; decide), ?_⟩
  rw [rF_put]
  have e1 : ((n + 1 : Nat) : Int) + (k : Int) = ((n + 1 + k : Nat) : Int) := by omega
  rw [e1]
  have b2 : But r H1 (upd H1 r (.ins CR dx (rF a ((n + 1 + k : Nat) : Int)))) := But.upd
  have hS2 : SqL K (upd H1 r (.ins CR dx (rF a ((n + 1 + k : Nat) : Int)))) a (iV ns) := by
    rcases hS1 with (h | ⟨o, h⟩) | h
    · exact .inl (.inl (b2 _ _ h (ne_of h hr1 (by intro z; cases z))))
    · exact .inl (.inr ⟨o, b2 _ _ h (ne_of h hr1 (by intro z; cases z))⟩)
    · exact .inr h
  refine ⟨_, rfl, r, CR, dx, _, _, rfl, upd_same, T.cl_Reader, T.na_Reader_numbers, rF_numbers, _, rfl, _, rfl, _, rfl, r, CR, dx, _, _, rfl, upd_same, T.cl_Reader, T.na_Reader_at, rF_at, _, rfl, a, _, rfl, hS2, fun p np => ?_⟩
  have npr : p ≠ r := fun e => by rw [e, upd_same] at np; cases np
  have np0 : H p = none := by
    rw [upd_ne npr] at np
    cases e : H p with
    | none => rfl
    | some o => rw [b1 _ _ e npr] at np; cases np
  refine q _ p (fun b o hb ne => ?_) ?_ np0 ?_
  · rw [upd_ne (ne_of_none hb np0), upd_ne ne]; exact b1 _ _ hb ne
  · rw [upd_ne npr.symm, upd_same]
  · rw [upd_same, cut_is (by omega) (by rw [iV_length]; exact hl)]
    congr 2
    rw [iV, iV, List.map_take, List.map_drop]
    congr 1
    omega
end
end Vp
set_option Elab.async false
set_option linter.all false
set_option maxRecDepth 100000
set_option maxHeartbeats 1000000
namespace Vp
open PySem PySem.Spec PyProof.Rows L2
open Vbkoaf (Person Day inside)
open Vb (G Q keys)

/-! ### places apart -/
structure Apart (a : Addr) (l : Lay) : Prop where
  a_pl : a ≠ l.pl
  a_qu : a ≠ l.qu
  a_ki : a ≠ l.ki
  a_da : a ≠ l.da
  a_ro : a ≠ l.ro
  pl_qu : l.pl ≠ l.qu
  pl_ki : l.pl ≠ l.ki
  pl_da : l.pl ≠ l.da
  pl_ro : l.pl ≠ l.ro
  qu_ki : l.qu ≠ l.ki
  qu_da : l.qu ≠ l.da
  qu_ro : l.qu ≠ l.ro
  ki_da : l.ki ≠ l.da
  ki_ro : l.ki ≠ l.ro
  da_ro : l.da ≠ l.ro
  sub : ∀ q, q ∈ l.qs ∨ q ∈ l.as → a ≠ q ∧ l.pl ≠ q ∧ l.qu ≠ q ∧ l.ki ≠ q ∧ l.da ≠ q ∧ l.ro ≠ q
  qsn : l.qs.Nodup
  asn : l.as.Nodup
  qa : ∀ q ∈ l.qs, ∀ p ∈ l.as, q ≠ p
theorem apart {a : Addr} {l : Lay} (h : (l.all a).Nodup) : Apart a l := by
  simp only [Lay.all, List.nodup_cons, List.mem_cons, List.mem_append, not_or, List.nodup_append] at h
  obtain ⟨⟨h1, h2, h3, h4, h5, h6, h7⟩, ⟨g2, g3, g4, g5, g6, g7⟩, ⟨f3, f4, f5, f6, f7⟩, ⟨e4, e5, e6, e7⟩, ⟨d5, d6, d7⟩, ⟨c6, c7⟩, n1, n2, n3⟩ := h
  refine ⟨h1, h2, h3, h4, h5, g2, g3, g4, g5, f3, f4, f5, e4, e5, d5, fun q hq => ⟨?_, ?_, ?_, ?_, ?_, ?_⟩, n1, n2, n3⟩
  all_goals
    intro e
    subst e
    rcases hq with z | z
    · first | exact h6 z | exact g6 z | exact f6 z | exact e6 z | exact d6 z | exact c6 z
    · first | exact h7 z | exact g7 z | exact f7 z | exact e7 z | exact d7 z | exact c7 z
def Fr (xs : List Addr) (H H' : Hp) : Prop := ∀ b o, H b = some o → b ∉ xs → H' b = some o
theorem Fr.trans {xs : List Addr} {H H1 H2 : Hp} (s : Fr xs H H1) (t : Fr xs H1 H2) : Fr xs H H2 := fun b o e n => t b o (s b o e n) n
theorem Fr.upd {xs : List Addr} {H : Hp} {a : Addr} {o : HO} (h : a ∈ xs) : Fr xs H (upd H a o) := fun b u e n => by
  rw [upd_ne (fun (z : b = a) => n (by rw [z]; exact h))]; exact e
theorem Fr.of_same {xs : List Addr} {H H' : Hp} (s : Same H H') : Fr xs H H' := fun b o e _ => s b o e
theorem Lists.upd {H : Hp} {as : List Addr} {ls : List (List Nat)} {p : Addr} {o : HO} (h : Lists H as ls) (n : ∀ q ∈ as, p ≠ q) : Lists (upd H p o) as ls := ⟨h.len, fun i a l h1 h2 => by
  rw [upd_ne fun z => n a (List.mem_of_getElem? h1) z.symm]; exact h.at_ i a l h1 h2⟩

theorem HouseAt.setRow {C : Addr} {H : Hp} {a : Addr} {l : Lay} {m : M} (h : HouseAt C H a l m) (r : List Nat) : HouseAt C (upd H l.ro (.lst (nats r))) a l { m with row := r } := by
  have p := apart h.nd
  exact ⟨by rw [upd_ne p.a_ro]; exact h.ins, by rw [upd_ne p.pl_ro]; exact h.pl, by rw [upd_ne p.qu_ro]; exact h.qu, h.qs.upd fun q hq => (p.sub q (.inl hq)).2.2.2.2.2, by rw [upd_ne p.ki_ro]; exact h.ki, by rw [upd_ne p.da_ro]; exact h.da, h.as.upd fun q hq => (p.sub q (.inr hq)).2.2.2.2.2, upd_same, h.nd⟩
theorem map_set' {α β : Type} (f : α → β) (l : List α) (i : Nat) (x : α) : (l.set i x).map f = (l.map f).set i (f x) := by
  rw [List.map_set]
theorem HouseAt.setPlaces {C : Addr} {H : Hp} {a : Addr} {l : Lay} {m : M} (h : HouseAt C H a l m) {d c : Nat} {y : Day} (hy : m.ds[d]? = some y) : HouseAt C (upd H l.pl (.lst ((nats (m.ds.map (·.places))).set d (.int (c : Int))))) a l { m with ds := m.ds.set d { y with places := c } } := by
  have p := apart h.nd
  have e1 : (nats (m.ds.map (·.places))).set d (.int (c : Int)) = nats ((m.ds.set d { y with places := c }).map (·.places)) := by rw [List.map_set, nats, nats, List.map_set]
  have e2 : (m.ds.set d { y with places := c }).map (·.kinds) = m.ds.map (·.kinds) := by
    rw [List.map_set]
    refine List.ext_getElem? fun i => ?_
    rw [List.getElem?_set]
    split
    · rename_i z; subst z
      rw [List.getElem?_map, hy]
      simp
      exact (List.getElem?_eq_some_iff.mp hy).1
    · rfl
  rw [e1]
  exact ⟨by rw [upd_ne p.a_pl, List.length_set]; exact h.ins, upd_same, by rw [upd_ne p.pl_qu.symm]; exact h.qu, by rw [e2]; exact h.qs.upd fun q hq => (p.sub q (.inl hq)).2.1, by rw [upd_ne p.pl_ki.symm]; exact h.ki, by rw [upd_ne p.pl_da.symm]; exact h.da, h.as.upd fun q hq => (p.sub q (.inr hq)).2.1, by rw [upd_ne p.pl_ro.symm]; exact h.ro, h.nd⟩
theorem HouseAt.setQuota {C : Addr} {H : Hp} {a : Addr} {l : Lay} {m : M} (h : HouseAt C H a l m) {d k q : Nat} {y : Day} {qa : Addr} (hy : m.ds[d]? = some y) (hq : l.qs[d]? = some qa) : HouseAt C (upd H qa (.lst ((nats y.kinds).set k (.int (q : Int))))) a l { m with ds := m.ds.set d { y with kinds := y.kinds.set k q } } := by
  have p := apart h.nd
  have hm := List.mem_of_getElem? hq
  obtain ⟨n1, n2, n3, n4, n5, n6⟩ := p.sub qa (.inl hm)
  have e1 : (nats y.kinds).set k (.int (q : Int)) = nats (y.kinds.set k q) := by rw [nats, nats, List.map_set]
  have e2 : (m.ds.set d { y with kinds := y.kinds.set k q }).map (·.places) = m.ds.map (·.places) := by
    rw [List.map_set]
    refine List.ext_getElem? fun i => ?_
    rw [List.getElem?_set]
    split
    · rename_i z; subst z
      rw [List.getElem?_map, hy]
      simp
      exact (List.getElem?_eq_some_iff.mp hy).1
    · rfl
  rw [e1]
  refine ⟨by rw [upd_ne n1, List.length_set]; exact h.ins, by rw [upd_ne n2, e2]; exact h.pl, by rw [upd_ne n3]; exact h.qu, ⟨by rw [h.qs.len]; simp, fun i b ls h1 h2 => ?_⟩, by rw [upd_ne n4]; exact h.ki, by rw [upd_ne n5]; exact h.da, h.as.upd fun b hb => p.qa qa hm b hb, by rw [upd_ne n6]; exact h.ro, h.nd⟩
  rw [List.map_set, List.getElem?_set] at h2
  by_cases c : d = i
  · subst c
    rw [hq] at h1; cases h1
    rw [if_pos rfl] at h2
    split at h2
    · cases h2; exact upd_same
    · cases h2
  · rw [if_neg c] at h2
    have : b ≠ qa := fun e => c (nd_ix p.qsn (e ▸ hq) h1)
    rw [upd_ne this]
    exact h.qs.at_ i b ls h1 h2
theorem HouseAt.addPerson {C : Addr} {H : Hp} {a : Addr} {l : Lay} {m : M} (h : HouseAt C H a l m) {k : Nat} {days : List Nat} {dl : Addr} (hd : H dl = some (.lst (nats days))) (nd : dl ∉ l.all a) :
    HouseAt C (upd (upd H l.ki (.lst (nats (m.ppl.map (·.1)) ++ [.int (k : Int)]))) l.da (.lst (l.as.map V.ref ++ [.ref dl]))) a { l with as := l.as ++ [dl] } { m with ppl := m.ppl ++ [(k, days)] } := by
  have p := apart h.nd
  have hall : ({ l with as := l.as ++ [dl] } : Lay).all a = l.all a ++ [dl] := by simp [Lay.all]
  have ndk : dl ≠ l.ki := fun e => nd (by rw [e]; simp [Lay.all])
  have ndd : dl ≠ l.da := fun e => nd (by rw [e]; simp [Lay.all])
  refine ⟨by rw [upd_ne p.a_da, upd_ne p.a_ki]; exact h.ins, by rw [upd_ne p.pl_da, upd_ne p.pl_ki]; exact h.pl, by rw [upd_ne p.qu_da, upd_ne p.qu_ki]; exact h.qu, (h.qs.upd fun q hq => (p.sub q (.inl hq)).2.2.2.1).upd fun q hq => (p.sub q (.inl hq)).2.2.2.2.1, ?_, ?_, ⟨by simp [h.as.len], fun i b ls h1 h2 => ?_⟩, by rw [upd_ne p.da_ro.symm, upd_ne p.ki_ro.symm]; exact h.ro, ?_⟩
  · rw [upd_ne p.ki_da, upd_same, List.map_append, nats_append]; rfl
  · rw [upd_same, List.map_append]; rfl
  · rw [List.map_append] at h2
    by_cases c : i < l.as.length
    · rw [List.getElem?_append_left c] at h1
      rw [List.getElem?_append_left (by rw [← h.as.len]; exact c)] at h2
      obtain ⟨_, _, _, n4, n5, _⟩ := p.sub b (.inr (List.mem_of_getElem? h1))
      rw [upd_ne n5.symm, upd_ne n4.symm]
      exact h.as.at_ i b ls h1 h2
    · rw [List.getElem?_append_right (by omega)] at h1
      rw [List.getElem?_append_right (by rw [← h.as.len]; omega), ← h.as.len] at h2
      have e : i - l.as.length = 0 := by
        have := (List.getElem?_eq_some_iff.mp h1).1
        simp at this
        omega
      rw [e] at h1 h2
      cases h1; cases h2
      rw [upd_ne ndd, upd_ne ndk]; exact hd
  · rw [hall, List.nodup_append]
    exact ⟨h.nd, by simp, fun b hb c hc e => nd (by
      have : c = dl := by simpa using hc
      rw [← this, ← e]; exact hb)⟩

section
variable {K : PySem.W.Frag} {mg : Str → Option Value} {CG CH CR : Addr}
theorem SqL.fr {K : PySem.W.Frag} {H H' : Hp} {a : Addr} {xs : List V} {ys : List Addr} (h : SqL K H a xs) (s : Fr ys H H') (n : a ∉ ys) : SqL K H' a xs := seq_frame h fun o e => s _ _ e n

/-! ### admit -/
def spAdmit (CH : Addr) : Sp := fun vs H R _ => ∃ (h dl : Addr) (l : Lay) (m : M) (k : Nat) (days : List Nat), vs = [.ref h, .int (k : Int), .ref dl] ∧ HouseAt CH H h l m ∧ m.ppl.length ≤ 1000 ∧ m.row.length ≤ 1000 ∧ H dl = some (.lst (nats days)) ∧ dl ∉ l.all h ∧
  ∀ H', HouseAt CH H' h { l with as := l.as ++ [dl] } { m with ppl := m.ppl ++ [(k, days)], row := m.row ++ [m.ppl.length] } → Fr [l.ki, l.da, l.ro] H H' → R (.int (m.ppl.length : Int)) H'
theorem pure_admit (T : Txt K mg CG CH CR) (vs : List V) (H : Hp) (R : VK) (E : XK) (h : spAdmit CH vs H R E) : t_House_admit K CG CH CR (spApplied CH) { nx := fun _ H' => R .non H', rt := R } (start ["self", "kind", "days", "applicant"] vs) H := by
  obtain ⟨h, dl, l, m, k, days, rfl, hs, hp, hr, hd, nd, q⟩ := h
  have p := apart hs.nd
  refine ⟨_, rfl, h, l.dx, _, rfl, hs.ins, hF_no (by decide +kernel), h, l, m, rfl, hs, ?_⟩
  refine ⟨_, rfl, h, CH, l.dx, _, _, rfl, hs.ins, T.cl_House, T.na_House_kind_of, hF_kind_of, .inl ⟨rfl, _, SqL.of hs.ki⟩, _, rfl, l.ki, _, _, rfl, rfl, hs.ki, by rw [nats_length, List.length_map]; exact small1000 hp, ?_⟩
  have hda : (upd H l.ki (.lst (nats (m.ppl.map (·.1)) ++ [.int (k : Int)]))) l.da = some (.lst (l.as.map V.ref)) := by rw [upd_ne p.ki_da.symm]; exact hs.da
  refine ⟨_, rfl, h, CH, l.dx, _, _, rfl, by rw [upd_ne p.a_ki]; exact hs.ins, T.cl_House, T.na_House_days_of, hF_days_of, .inl ⟨rfl, _, SqL.of hda⟩, _, rfl, l.da, _, _, rfl, rfl, hda, by rw [List.length_map, hs.as.len, List.length_map]; exact small1000 hp, ?_⟩
  have hs2 := hs.addPerson (k := k) hd nd
  refine ⟨_, rfl, h, CH, l.dx, _, _, rfl, hs2.ins, T.cl_House, T.na_House_row, hF_row, .inl ⟨rfl, _, SqL.of hs2.ro⟩, _, rfl, l.ro, _, _, rfl, rfl, hs2.ro, by rw [nats_length]; exact small1000 hr, _, rfl, ?_⟩
  have e1 : nats m.row ++ [V.int (m.ppl.length : Int)] = nats (m.row ++ [m.ppl.length]) := by rw [nats_append]; rfl
  refine q _ ?_ ?_
  · have := hs2.setRow (m.row ++ [m.ppl.length])
    rw [← e1] at this
    exact this
  · exact ((Fr.upd (by simp)).trans (Fr.upd (by simp))).trans (Fr.upd (by simp))

/-! ### put_ahead, and one who leaves -/
theorem erase_is {x : Nat} : ∀ {l : List Nat} {j : Nat}, l.Nodup → l[j]? = some x → l.eraseIdx j = l.filter fun y => y != x
  | [], j, _, h => by cases h
  | a :: l, 0, nd, h => by
    have e : a = x := by simpa using h
    subst e
    have nd' := List.nodup_cons.mp nd
    rw [List.eraseIdx_zero, List.tail_cons, List.filter_cons]
    have : (a != a) = false := by simp
    rw [this]
    symm
    refine List.filter_eq_self.mpr fun y hy => ?_
    have : y ≠ a := fun e => nd'.1 (e ▸ hy)
    simpa using this
  | a :: l, j + 1, nd, h => by
    have nd' := List.nodup_cons.mp nd
    have h' : l[j]? = some x := by simpa using h
    have : a ≠ x := fun e => nd'.1 (e ▸ List.mem_of_getElem? h')
    rw [List.eraseIdx_cons_succ, List.filter_cons, erase_is nd'.2 h']
    simp [this]
theorem first_at {l : List Nat} {x : Nat} (hx : x ∈ l) : l[(l.takeWhile fun y => y != x).length]? = some x ∧ ∀ i, i < (l.takeWhile fun y => y != x).length → l[i]? ≠ some x := by
  induction l with
  | nil => cases hx
  | cons a l ih =>
    by_cases c : a = x
    · subst c
      simp
    · have hx' : x ∈ l := by
        rcases List.mem_cons.mp hx with z | z
        · exact absurd z.symm c
        · exact z
      obtain ⟨h1, h2⟩ := ih hx'
      have e : (a != x) = true := by simpa using c
      rw [List.takeWhile_cons, e, if_pos rfl, List.length_cons]
      refine ⟨by simpa using h1, fun i hi => ?_⟩
      cases i with
      | zero => simpa using c
      | succ i => simpa using h2 i (by omega)
theorem nat_at {l : List Nat} {i x : Nat} (h : l[i]? = some x) : (l.map fun (n : Nat) => (n : Int))[i]? = some (x : Int) := by rw [List.getElem?_map, h]; rfl
theorem nat_not {l : List Nat} {i x : Nat} (h : l[i]? ≠ some x) : (l.map fun (n : Nat) => (n : Int))[i]? ≠ some (x : Int) := by
  rw [List.getElem?_map]
  intro z
  cases e : l[i]? with
  | none => rw [e] at z; cases z
  | some y =>
    rw [e] at z
    have : (y : Int) = (x : Int) := Option.some.inj z
    exact h (by rw [e]; congr 1; omega)
theorem erase_map {l : List Nat} {j : Nat} : ((l.map fun (n : Nat) => (n : Int)).eraseIdx j).map V.int = nats (l.eraseIdx j) := by
  rw [nats]
  induction l generalizing j with
  | nil => rfl
  | cons a l ih =>
    cases j with
    | zero => simp
    | succ j =>
      rw [List.map_cons, List.eraseIdx_cons_succ, List.map_cons, ih, List.eraseIdx_cons_succ, List.map_cons]
/-- what a row is, one put ahead of another -/
def aheadRow (row : List Nat) (x y : Nat) : List Nat × Nat := let o := row.filter fun z => z != x
  let i := (o.takeWhile fun z => z != y).length
  (o.take i ++ x :: o.drop i, i)
def spAhead (CH : Addr) : Sp := fun vs H R _ => ∃ (h : Addr) (l : Lay) (m : M) (x y : Nat), vs = [.ref h, .int (x : Int), .int (y : Int)] ∧ HouseAt CH H h l m ∧ m.row.Nodup ∧ m.row.length ≤ 1000 ∧ x ∈ m.row ∧ y ∈ m.row ∧ x ≠ y ∧
  ∀ H', HouseAt CH H' h l { m with row := (aheadRow m.row x y).1 } → Fr (l.all h) H H' → R (.int ((aheadRow m.row x y).2 : Int)) H'
theorem pure_ahead (T : Txt K mg CG CH CR) (vs : List V) (H : Hp) (R : VK) (E : XK) (h : spAhead CH vs H R E) : t_House_put_ahead K CG CH CR { nx := fun _ H' => R .non H', rt := R } (start ["self", "applicant", "other", "place"] vs) H := by
  obtain ⟨h, l, m, x, y, rfl, hs, nd, hl, hx, hy, hxy, q⟩ := h
  obtain ⟨h1, h2⟩ := first_at hx
  have hro : H l.ro = some (.lst ((m.row.map fun (n : Nat) => (n : Int)).map V.int)) := by rw [List.map_map]; exact hs.ro
  refine ⟨_, rfl, h, CH, l.dx, _, _, rfl, hs.ins, T.cl_House, T.na_House_row, hF_row, .inl ⟨rfl, _, SqL.of hs.ro⟩, _, rfl, l.ro, _, (x : Int), _, rfl, rfl, hro, nat_at h1, fun i hi => nat_not (h2 i hi), ?_⟩
  rw [erase_map, erase_is nd h1]
  have hs1 := hs.setRow (m.row.filter fun z => z != x)
  have hyo : y ∈ m.row.filter fun z => z != x := List.mem_filter.mpr ⟨hy, by simpa using hxy.symm⟩
  obtain ⟨g1, g2⟩ := first_at hyo
  have hol : (m.row.filter fun z => z != x).length ≤ m.row.length := List.length_filter_le ..
  generalize ho : (m.row.filter fun z => z != x) = o at hs1 hyo g1 g2 hol
  -- place = self.row.index(other)
  refine ⟨_, rfl, h, CH, l.dx, _, _, rfl, hs1.ins, T.cl_House, T.na_House_row, hF_row, .inl ⟨rfl, _, SqL.of hs1.ro⟩, _, rfl, l.ro, _, .int (y : Int), (o.takeWhile fun z => z != y).length, .int (y : Int), rfl, rfl, SqL.of hs1.ro, rfl, flat_nats _, nats_some g1, by simp [eqV], fun i z' hi hz => ?_, ?_⟩
  · obtain ⟨n, hn, rfl⟩ := of_nats hz
    have : n ≠ y := fun e => g2 i hi (by rw [hn, e])
    have : (n : Int) ≠ (y : Int) := by omega
    simpa [eqV] using this
  · have hi : (o.takeWhile fun z => z != y).length < o.length := (List.getElem?_eq_some_iff.mp g1).1
    have hq := q
    simp only [aheadRow, ho] at hq
    generalize (o.takeWhile fun z => z != y).length = i at hi hq
    -- self.row.insert(place, applicant)
    refine ⟨_, rfl, h, CH, l.dx, _, _, rfl, hs1.ins, T.cl_House, T.na_House_row, hF_row, .inl ⟨rfl, _, SqL.of hs1.ro⟩, _, rfl, _, rfl, l.ro, _, (i : Int), .int (x : Int), rfl, rfl, hs1.ro, by rw [nats_length]; exact small1000 (show o.length ≤ 1000 by omega), by omega, by omega, _, rfl, ?_⟩
    have e1 : (nats o).take (i : Int).toNat ++ [V.int (x : Int)] ++ (nats o).drop (i : Int).toNat = nats (o.take i ++ x :: o.drop i) := by
      rw [Int.toNat_natCast]
      simp [nats]
    rw [e1]
    have hs2 := hs1.setRow (o.take i ++ x :: o.drop i)
    exact hq _ hs2 ((Fr.upd (by simp [Lay.all])).trans (Fr.upd (by simp [Lay.all])))
end
end Vp
set_option Elab.async false
set_option linter.all false
set_option maxRecDepth 100000
set_option maxHeartbeats 1000000
namespace Vp
open PySem PySem.Spec PyProof.Rows L2
open Vbkoaf (Person Day inside)
open Vb (G Q keys)

def m0 (D : Nat) : M := ⟨List.replicate D Vbkoaf.newDay, [], []⟩
theorem But.fresh {a p : Addr} {H H' : Hp} {o : HO} (b : But a H H') (ha : H' a = some o) (hp : H' p = none) : p ≠ a ∧ H p = none := by
  have n : p ≠ a := fun e => by rw [e, ha] at hp; cases hp
  refine ⟨n, ?_⟩
  cases e : H p with
  | none => rfl
  | some u => rw [b _ _ e n] at hp; cases hp
/-- the values of the house, one set behind another -/
theorem hF_chain {fs : List (Str × V)} {D : Int} {l : Lay} (h : fs = [] ∨ ∃ n l0, fs = hF n l0) {N : Nat} (e : D = (N : Int)) :
    putF "row" (.ref l.ro) (putF "days_of" (.ref l.da) (putF "kind_of" (.ref l.ki) (putF "quotas" (.ref l.qu) (putF "places" (.ref l.pl) (putF "day_count" (.int D) fs))))) = hF N l := by
  subst e
  rcases h with rfl | ⟨n, l0, rfl⟩
  · have e0 : putF "day_count" (V.int (N : Int)) [] = [(("day_count" : Str), V.int (N : Int))] := rfl
    have e1 : putF "places" (V.ref l.pl) [(("day_count" : Str), V.int (N : Int))] = [(("day_count" : Str), V.int (N : Int)), (("places" : Str), V.ref l.pl)] := by
      rw [put_past (by decide +kernel)]
      rfl
    have e2 : putF "quotas" (V.ref l.qu) [(("day_count" : Str), V.int (N : Int)), (("places" : Str), V.ref l.pl)] = [(("day_count" : Str), V.int (N : Int)), (("places" : Str), V.ref l.pl), (("quotas" : Str), V.ref l.qu)] := by
      rw [put_past (by decide +kernel), put_past (by decide +kernel)]
      rfl
    have e3 : putF "kind_of" (V.ref l.ki) [(("day_count" : Str), V.int (N : Int)), (("places" : Str), V.ref l.pl), (("quotas" : Str), V.ref l.qu)] = [(("day_count" : Str), V.int (N : Int)), (("places" : Str), V.ref l.pl), (("quotas" : Str), V.ref l.qu), (("kind_of" : Str), V.ref l.ki)] := by
      rw [put_past (by decide +kernel), put_past (by decide +kernel), put_past (by decide +kernel)]
      rfl
    have e4 : putF "days_of" (V.ref l.da) [(("day_count" : Str), V.int (N : Int)), (("places" : Str), V.ref l.pl), (("quotas" : Str), V.ref l.qu), (("kind_of" : Str), V.ref l.ki)] = [(("day_count" : Str), V.int (N : Int)), (("places" : Str), V.ref l.pl), (("quotas" : Str), V.ref l.qu), (("kind_of" : Str), V.ref l.ki), (("days_of" : Str), V.ref l.da)] := by
      rw [put_past (by decide +kernel), put_past (by decide +kernel), put_past (by decide +kernel), put_past (by decide +kernel)]
      rfl
    have e5 : putF "row" (V.ref l.ro) [(("day_count" : Str), V.int (N : Int)), (("places" : Str), V.ref l.pl), (("quotas" : Str), V.ref l.qu), (("kind_of" : Str), V.ref l.ki), (("days_of" : Str), V.ref l.da)] = [(("day_count" : Str), V.int (N : Int)), (("places" : Str), V.ref l.pl), (("quotas" : Str), V.ref l.qu), (("kind_of" : Str), V.ref l.ki), (("days_of" : Str), V.ref l.da), (("row" : Str), V.ref l.ro)] := by
      rw [put_past (by decide +kernel), put_past (by decide +kernel), put_past (by decide +kernel), put_past (by decide +kernel), put_past (by decide +kernel)]
      rfl
    rw [e0, e1, e2, e3, e4, e5]
    rfl
  · have e0 : putF "day_count" (V.int (N : Int)) [(("day_count" : Str), V.int (n : Int)), (("places" : Str), V.ref l0.pl), (("quotas" : Str), V.ref l0.qu), (("kind_of" : Str), V.ref l0.ki), (("days_of" : Str), V.ref l0.da), (("row" : Str), V.ref l0.ro)] = [(("day_count" : Str), V.int (N : Int)), (("places" : Str), V.ref l0.pl), (("quotas" : Str), V.ref l0.qu), (("kind_of" : Str), V.ref l0.ki), (("days_of" : Str), V.ref l0.da), (("row" : Str), V.ref l0.ro)] := by
      rw [put_here]
    have e1 : putF "places" (V.ref l.pl) [(("day_count" : Str), V.int (N : Int)), (("places" : Str), V.ref l0.pl), (("quotas" : Str), V.ref l0.qu), (("kind_of" : Str), V.ref l0.ki), (("days_of" : Str), V.ref l0.da), (("row" : Str), V.ref l0.ro)] = [(("day_count" : Str), V.int (N : Int)), (("places" : Str), V.ref l.pl), (("quotas" : Str), V.ref l0.qu), (("kind_of" : Str), V.ref l0.ki), (("days_of" : Str), V.ref l0.da), (("row" : Str), V.ref l0.ro)] := by
      rw [put_past (by decide +kernel), put_here]
    have e2 : putF "quotas" (V.ref l.qu) [(("day_count" : Str), V.int (N : Int)), (("places" : Str), V.ref l.pl), (("quotas" : Str), V.ref l0.qu), (("kind_of" : Str), V.ref l0.ki), (("days_of" : Str), V.ref l0.da), (("row" : Str), V.ref l0.ro)] = [(("day_count" : Str), V.int (N : Int)), (("places" : Str), V.ref l.pl), (("quotas" : Str), V.ref l.qu), (("kind_of" : Str), V.ref l0.ki), (("days_of" : Str), V.ref l0.da), (("row" : Str), V.ref l0.ro)] := by
      rw [put_past (by decide +kernel), put_past (by decide +kernel), put_here]
    have e3 : putF "kind_of" (V.ref l.ki) [(("day_count" : Str), V.int (N : Int)), (("places" : Str), V.ref l.pl), (("quotas" : Str), V.ref l.qu), (("kind_of" : Str), V.ref l0.ki), (("days_of" : Str), V.ref l0.da), (("row" : Str), V.ref l0.ro)] = [(("day_count" : Str), V.int (N : Int)), (("places" : Str), V.ref l.pl), (("quotas" : Str), V.ref l.qu), (("kind_of" : Str), V.ref l.ki), (("days_of" : Str), V.ref l0.da), (("row" : Str), V.ref l0.ro)] := by
      rw [put_past (by decide +kernel), put_past (by decide +kernel), put_past (by decide +kernel), put_here]
    have e4 : putF "days_of" (V.ref l.da) [(("day_count" : Str), V.int (N : Int)), (("places" : Str), V.ref l.pl), (("quotas" : Str), V.ref l.qu), (("kind_of" : Str), V.ref l.ki), (("days_of" : Str), V.ref l0.da), (("row" : Str), V.ref l0.ro)] = [(("day_count" : Str), V.int (N : Int)), (("places" : Str), V.ref l.pl), (("quotas" : Str), V.ref l.qu), (("kind_of" : Str), V.ref l.ki), (("days_of" : Str), V.ref l.da), (("row" : Str), V.ref l0.ro)] := by
      rw [put_past (by decide +kernel), put_past (by decide +kernel), put_past (by decide +kernel), put_past (by decide +kernel), put_here]
    have e5 : putF "row" (V.ref l.ro) [(("day_count" : Str), V.int (N : Int)), (("places" : Str), V.ref l.pl), (("quotas" : Str), V.ref l.qu), (("kind_of" : Str), V.ref l.ki), (("days_of" : Str), V.ref l.da), (("row" : Str), V.ref l0.ro)] = [(("day_count" : Str), V.int (N : Int)), (("places" : Str), V.ref l.pl), (("quotas" : Str), V.ref l.qu), (("kind_of" : Str), V.ref l.ki), (("days_of" : Str), V.ref l.da), (("row" : Str), V.ref l.ro)] := by
      rw [put_past (by decide +kernel), put_past (by decide +kernel), put_past (by decide +kernel), put_past (by decide +kernel), put_past (by decide +kernel), put_here]
    unfold hF
    rw [e0, e1, e2, e3, e4, e5]
theorem putF_len {f : Str} {v : V} {fs : List (Str × V)} : (putF f v fs).length ≤ fs.length + 1 := by
  induction fs with
  | nil => show 1 ≤ 1; decide
  | cons t fs ih =>
    obtain ⟨g, x⟩ := t
    by_cases c : g = f
    · subst c; rw [put_here]; simp
    · rw [put_past c]; simp; exact ih
theorem yes_if {σ : L2.St} {H : Hp} {A B : Hp → Prop} (h : A H) : tYes σ H (fun b H3 => if b = true then A H3 else B H3) := by
  show if true = true then A H else B H
  exact iteT h
theorem rep_flat {n : Nat} {x : V} : (List.replicate n [x]).flatten = List.replicate n x := by
  induction n with
  | zero => rfl
  | succ n ih => rw [List.replicate_succ, List.flatten_cons, ih, List.replicate_succ]; rfl

section
variable {K : PySem.W.Frag} {mg : Str → Option Value} {CG CH CR : Addr}
def spRenew (CH : Addr) : Sp := fun vs H R _ => ∃ (a dx : Addr) (fs : List (Str × V)) (D : Nat), vs = [.ref a, .int (D : Int)] ∧ H a = some (.ins CH dx fs) ∧ (fs = [] ∨ ∃ n l0, fs = hF n l0) ∧ D ≤ 8 ∧
  ∀ H' l, HouseAt CH H' a l (m0 D) → But a H H' → l.dx = dx → (∀ b ∈ l.all a, b = a ∨ H b = none) → R .non H'
theorem pure_renew (T : Txt K mg CG CH CR) (vs : List V) (H : Hp) (R : VK) (E : XK) (h : spRenew CH vs H R E) : t_House_renew K CG CH CR { nx := fun _ H' => R .non H', rt := R } (start ["self", "day_count", "day"] vs) H := by
  obtain ⟨a, dx, fs, D, rfl, ha, hfs, hD, q⟩ := h
  have hlen : fs.length ≤ 6 := by
    rcases hfs with rfl | ⟨n, l0, rfl⟩
    · exact Nat.zero_le _
    · exact Nat.le_refl _
  -- self.day_count = day_count
  refine ⟨_, rfl, _, rfl, a, CH, dx, fs, rfl, ha, T.cl_House, T.na_House_day_count, by omega, ?_⟩
  have l1 := putF_len (f := "day_count") (v := .int (D : Int)) (fs := fs)
  generalize ef1 : putF "day_count" (.int (D : Int)) fs = f1 at l1
  generalize eH1 : upd H a (.ins CH dx f1) = H1
  have b1 : But a H H1 := by rw [← eH1]; exact But.upd
  have a1 : H1 a = some (.ins CH dx f1) := by rw [← eH1, upd_same]
  -- self.places = [0] * day_count
  refine ⟨by show 1 ≤ sizeLine; decide, fun p1 np1 => ?_⟩
  refine ⟨_, rfl, p1, (D : Int), _, rfl, rfl, upd_same, by omega, by omega, by rw [Int.toNat_natCast]; exact Nat.le_of_lt (small1000 (show 1 * D ≤ 1000 by omega)), fun pl npl => ?_⟩
  rw [Int.toNat_natCast, rep_flat]
  have s1 := same_upd (o := .lst [V.int 0]) np1
  have s2 := same_upd (o := .lst (List.replicate D (V.int 0))) npl
  have npl1 : H1 pl = none := s1.free npl
  obtain ⟨npla, fpl⟩ := b1.fresh a1 npl1
  refine ⟨_, rfl, a, CH, dx, f1, rfl, (s1.trans s2) _ _ a1, T.cl_House, T.na_House_places, by omega, ?_⟩
  have l2 := putF_len (f := "places") (v := .ref pl) (fs := f1)
  generalize ef2 : putF "places" (.ref pl) f1 = f2 at l2
  generalize eH2 : upd (upd (upd H1 p1 (.lst [V.int 0])) pl (.lst (List.replicate D (V.int 0)))) a (.ins CH dx f2) = H2
  have b2 : But a H H2 := fun b o hb n => by rw [← eH2, upd_ne n]; exact (s1.trans s2) _ _ (b1 _ _ hb n)
  have a2 : H2 a = some (.ins CH dx f2) := by rw [← eH2, upd_same]
  have pl2 : H2 pl = some (.lst (List.replicate D (V.int 0))) := by rw [← eH2, upd_ne npla, upd_same]
  -- self.quotas = [[MOST_OF_KIND] * KINDS for day in range(day_count)]
  refine ⟨_, rfl, (D : Int), rfl, by omega, by omega, fun qu nqu => ?_⟩
  obtain ⟨nqua, fqu⟩ := b2.fresh a2 nqu
  rw [Int.toNat_natCast]
  refine lc_range (lo := 0) (n := D) (fun i H' => ∃ qs : List Addr, qs.length = i ∧ qs.Nodup ∧ Same H2 H' ∧ H' qu = some (.lst (qs.map V.ref)) ∧ ∀ b ∈ qs, H' b = some (.lst (nats [9, 9, 9, 9])) ∧ H2 b = none ∧ b ≠ qu) ⟨[], rfl, List.nodup_nil, same_upd nqu, upd_same, fun b hb => by cases hb⟩ ?_ ?_
  · rintro i H' hi ⟨qs, hl, hn, s, hq, hall⟩
    refine ⟨rfl, yes_if ?_⟩
    refine ⟨by show 1 ≤ sizeLine; decide, fun x1 nx1 => ?_⟩
    refine ⟨x1, 4, _, rfl, rfl, upd_same, by decide, by decide, by decide, fun x2 nx2 => ?_⟩
    have t1 := same_upd (o := .lst [V.int 9]) nx1
    have t2 := same_upd (o := .lst (List.replicate (4 : Int).toNat [V.int 9]).flatten) nx2
    have nx2' : H' x2 = none := t1.free nx2
    have hq2 := (t1.trans t2) _ _ hq
    have nx2q : x2 ≠ qu := (ne_of_none hq nx2').symm
    refine ⟨_, hq2, by rw [List.length_map, hl]; exact small1000 (by omega), qs ++ [x2], by simp [hl], ?_, ?_, ?_, ?_⟩
    · rw [List.nodup_append]
      exact ⟨hn, by simp, fun b hb c hc e => by
        have : c = x2 := by simpa using hc
        subst this
        subst e
        rw [(hall b hb).1] at nx2'; cases nx2'⟩
    · intro b o hb
      have n : b ≠ qu := ne_of_none hb nqu
      rw [upd_ne n]; exact (t1.trans t2) _ _ (s _ _ hb)
    · rw [upd_same, List.map_append]; rfl
    · intro b hb
      rcases List.mem_append.mp hb with z | z
      · obtain ⟨h1, h2, h3⟩ := hall b z
        refine ⟨?_, h2, h3⟩
        rw [upd_ne h3]; exact (t1.trans t2) _ _ h1
      · have : b = x2 := by simpa using z
        subst this
        refine ⟨?_, s.free nx2', nx2q⟩
        rw [upd_ne nx2q, upd_same]; rfl
  · rintro H3 ⟨qs, hl, hn, s, hq, hall⟩
    refine ⟨_, rfl, a, CH, dx, f2, rfl, s _ _ a2, T.cl_House, T.na_House_quotas, by omega, ?_⟩
    have l3 := putF_len (f := "quotas") (v := .ref qu) (fs := f2)
    generalize ef3 : putF "quotas" (.ref qu) f2 = f3 at l3
    generalize eH4 : upd H3 a (.ins CH dx f3) = H4
    have qsF : ∀ b ∈ qs, b ≠ a ∧ H b = none := fun b hb => b2.fresh a2 (hall b hb).2.1
    have b4 : But a H H4 := fun b o hb n => by rw [← eH4, upd_ne n]; exact s _ _ (b2 _ _ hb n)
    have a4 : H4 a = some (.ins CH dx f3) := by rw [← eH4, upd_same]
    have pl4 : H4 pl = some (.lst (List.replicate D (V.int 0))) := by rw [← eH4, upd_ne npla]; exact s _ _ pl2
    have qu4 : H4 qu = some (.lst (qs.map V.ref)) := by rw [← eH4, upd_ne nqua]; exact hq
    have qs4 : ∀ b ∈ qs, H4 b = some (.lst (nats [9, 9, 9, 9])) := fun b hb => by rw [← eH4, upd_ne (qsF b hb).1]; exact (hall b hb).1
    have nplqu : pl ≠ qu := ne_of_none pl2 nqu
    have nplqs : ∀ b ∈ qs, pl ≠ b := fun b hb => ne_of_none pl2 (hall b hb).2.1
    -- self.kind_of = []
    refine ⟨Nat.zero_le _, fun ki nki => ?_⟩
    obtain ⟨nkia, fki⟩ := b4.fresh a4 nki
    have t1 := same_upd (o := .lst []) nki
    refine ⟨_, rfl, a, CH, dx, f3, rfl, t1 _ _ a4, T.cl_House, T.na_House_kind_of, by omega, ?_⟩
    have l4 := putF_len (f := "kind_of") (v := .ref ki) (fs := f3)
    generalize ef4 : putF "kind_of" (.ref ki) f3 = f4 at l4
    generalize eH5 : upd (upd H4 ki (.lst [])) a (.ins CH dx f4) = H5
    have b45 : But a H4 H5 := fun b o hb n => by rw [← eH5, upd_ne n]; exact t1 _ _ hb
    have a5 : H5 a = some (.ins CH dx f4) := by rw [← eH5, upd_same]
    have ki5 : H5 ki = some (.lst []) := by rw [← eH5, upd_ne nkia, upd_same]
    -- self.days_of = []
    refine ⟨Nat.zero_le _, fun da nda => ?_⟩
    obtain ⟨ndaa, fda4⟩ := b45.fresh a5 nda
    obtain ⟨_, fda⟩ := b4.fresh a4 fda4
    have t2 := same_upd (o := .lst []) nda
    refine ⟨_, rfl, a, CH, dx, f4, rfl, t2 _ _ a5, T.cl_House, T.na_House_days_of, by omega, ?_⟩
    have l5 := putF_len (f := "days_of") (v := .ref da) (fs := f4)
    generalize ef5 : putF "days_of" (.ref da) f4 = f5 at l5
    generalize eH6 : upd (upd H5 da (.lst [])) a (.ins CH dx f5) = H6
    have b56 : But a H5 H6 := fun b o hb n => by rw [← eH6, upd_ne n]; exact t2 _ _ hb
    have a6 : H6 a = some (.ins CH dx f5) := by rw [← eH6, upd_same]
    have da6 : H6 da = some (.lst []) := by rw [← eH6, upd_ne ndaa, upd_same]
    -- self.row = []
    refine ⟨Nat.zero_le _, fun ro nro => ?_⟩
    obtain ⟨nroa, fro5⟩ := b56.fresh a6 nro
    obtain ⟨_, fro4⟩ := b45.fresh a5 fro5
    obtain ⟨_, fro⟩ := b4.fresh a4 fro4
    have t3 := same_upd (o := .lst []) nro
    refine ⟨_, rfl, a, CH, dx, f5, rfl, t3 _ _ a6, T.cl_House, T.na_House_row, by omega, ?_⟩
    generalize eH7 : upd (upd H6 ro (.lst [])) a (.ins CH dx (putF "row" (.ref ro) f5)) = H7
    have b67 : But a H6 H7 := fun b o hb n => by rw [← eH7, upd_ne n]; exact t3 _ _ hb
    have b47 : But a H4 H7 := (b45.trans b56).trans b67
    have nplki := ne_of_none pl4 nki
    have nplda := ne_of_none pl4 fda4
    have nplro := ne_of_none pl4 fro4
    have nquki := ne_of_none qu4 nki
    have nquda := ne_of_none qu4 fda4
    have nquro := ne_of_none qu4 fro4
    have nkida := ne_of_none ki5 nda
    have nkiro := ne_of_none ki5 fro5
    have ndaro := ne_of_none da6 nro
    refine q H7 ⟨dx, pl, qu, ki, da, ro, qs, []⟩ ⟨?_, ?_, ?_, ⟨?_, ?_⟩, ?_, ?_, ⟨rfl, ?_⟩, ?_, ?_⟩ (b4.trans b47) rfl ?_
    · rw [← eH7, upd_same]
      congr 2
      rw [← ef5, ← ef4, ← ef3, ← ef2, ← ef1]
      exact hF_chain (l := ⟨dx, pl, qu, ki, da, ro, qs, []⟩) hfs (by simp [m0])
    · rw [b47 _ _ pl4 npla]
      simp [m0, Vbkoaf.newDay, nats]
    · exact b47 _ _ qu4 nqua
    · simp [m0, hl]
    · intro i b ls h1 h2
      have h1' := List.mem_of_getElem? h1
      have : ls = [9, 9, 9, 9] := by
        have := List.mem_of_getElem? h2
        simp [m0, Vbkoaf.newDay] at this
        exact this.2
      rw [this]
      exact b47 _ _ (qs4 b h1') (qsF b h1').1
    · exact (b56.trans b67) _ _ ki5 nkia
    · exact b67 _ _ da6 ndaa
    · intro i b ls h1; cases h1
    · rw [← eH7, upd_ne nroa, upd_same]; rfl
    · simp only [Lay.all, List.append_nil, List.nodup_cons, List.mem_cons, not_or]
      exact ⟨⟨npla.symm, nqua.symm, nkia.symm, ndaa.symm, nroa.symm, fun z => (qsF a z).1 rfl⟩, ⟨nplqu, nplki, nplda, nplro, fun z => nplqs pl z rfl⟩, ⟨nquki, nquda, nquro, fun z => (hall qu z).2.2 rfl⟩,
        ⟨nkida, nkiro, fun z => ne_of_none (qs4 ki z) nki rfl⟩, ⟨ndaro, fun z => ne_of_none (qs4 da z) fda4 rfl⟩, fun z => ne_of_none (qs4 ro z) fro4 rfl, hn⟩
    · intro b hb
      simp only [Lay.all, List.append_nil, List.mem_cons] at hb
      rcases hb with z | z | z | z | z | z | z
      · exact .inl z
      · exact .inr (z ▸ fpl)
      · exact .inr (z ▸ fqu)
      · exact .inr (z ▸ fki)
      · exact .inr (z ▸ fda)
      · exact .inr (z ▸ fro)
      · exact .inr (qsF b z).2
def spHInit (CH : Addr) : Sp := fun vs H R _ => ∃ (a dx : Addr), vs = [.ref a] ∧ H a = some (.ins CH dx []) ∧
  ∀ H' l, HouseAt CH H' a l (m0 1) → But a H H' → (∀ b ∈ l.all a, b = a ∨ H b = none) → R .non H'
theorem pure_hinit (T : Txt K mg CG CH CR) (vs : List V) (H : Hp) (R : VK) (E : XK) (h : spHInit CH vs H R E) : t_House_init K CG CH CR (spRenew CH) { nx := fun _ H' => R .non H', rt := R } (start ["self"] vs) H := by
  obtain ⟨a, dx, rfl, ha, q⟩ := h
  refine ⟨_, rfl, a, dx, _, rfl, ha, rfl, a, dx, [], 1, rfl, ha, .inl rfl, by decide, fun H' l hs b _ f => q H' l hs b f⟩
end
end Vp
set_option Elab.async false
set_option linter.all false
set_option maxRecDepth 100000
set_option maxHeartbeats 1000000
namespace Vp
open PySem PySem.Spec PyProof.Rows L2
open Vbkoaf (Person Day inside State)
open Vb (G Q keys)

/-- the specification's state -/
def absS (m : M) : State := ⟨m.ds, m.ppl.length, m.row.map (mP m)⟩
def stp (m : M) (c : List (List Int)) : State × List Int := VbkoafNeutral.step (absS m) c

/-! ### the calls as they are handed in -/
theorem flat0 {p : Int} {k : Nat} {tail t : List Int} {c : List (List Int)} (hs : PyVbkoaf.shape p = some (k, 0)) (h : PyFlat.call PyVbkoaf.shape (p :: tail) = some (c, t)) : k ≤ tail.length ∧ c = [p :: tail.take k] ∧ t = tail.drop k := by
  rw [PyFlat.call, hs] at h
  simp only at h
  split at h
  · cases h
  · rename_i n
    rw [PyFlat.rows] at h
    cases h
    exact ⟨by omega, rfl, rfl⟩
theorem flat1 {p : Int} {k : Nat} {tail t : List Int} {c : List (List Int)} (hs : PyVbkoaf.shape p = some (k, 1)) (h : PyFlat.call PyVbkoaf.shape (p :: tail) = some (c, t)) :
    k ≤ tail.length ∧ ∃ (j : Nat) (rest : List Int), tail.drop k = (j : Int) :: rest ∧ j ≤ rest.length ∧ c = [p :: tail.take k, rest.take j] ∧ t = rest.drop j := by
  rw [PyFlat.call, hs] at h
  simp only at h
  split at h
  · cases h
  · rename_i n
    refine ⟨by omega, ?_⟩
    rw [PyFlat.rows] at h
    cases e : tail.drop k with
    | nil => rw [e, PyFlat.row] at h; cases h
    | cons j rest =>
      rw [e, PyFlat.row] at h
      by_cases z : 0 ≤ j ∧ j.toNat ≤ rest.length
      · rw [if_pos z] at h
        simp only [PyFlat.rows] at h
        cases h
        exact ⟨j.toNat, rest, by rw [Int.toNat_of_nonneg z.1], z.2, rfl, rfl⟩
      · rw [if_neg z] at h; cases h
theorem drop_at {ns t : List Int} {n : Nat} {x : Int} (h : ns.drop n = x :: t) : ns[n]? = some x ∧ ns.drop (n + 1) = t ∧ n < ns.length := by
  have h0 : (ns.drop n)[0]? = some x := by rw [h]; rfl
  rw [List.getElem?_drop] at h0
  refine ⟨by simpa using h0, ?_, ?_⟩
  · rw [← List.drop_drop, h]; rfl
  · have := (List.getElem?_eq_some_iff.mp h0).1
    omega
theorem drop_len {ns t : List Int} {n : Nat} (h : ns.drop n = t) (hn : n ≤ ns.length) : ns.length - t.length = n := by
  rw [← h, List.length_drop]; omega

/-! ### what was handed in: never written -/
def Req (K : PySem.W.Frag) (H : Hp) (a : Addr) (ns : List Int) : Prop := (∃ o, H a = some (.frz o (.lst (iV ns)))) ∨
  ∃ (o : Obj) (its : Array Value) (n : Nat), K.lookup a = some o ∧ o.cls = .type "list" ∧ o.dict = none ∧ o.data = .seq its n ∧ its.size ≤ sizeLine ∧ Vals (iV ns) its.toList
theorem Req.sq {K : PySem.W.Frag} {H : Hp} {a : Addr} {ns : List Int} (h : Req K H a ns) : SqL K H a (iV ns) := by
  rcases h with h | h
  · exact .inl (.inr h)
  · exact .inr h
theorem Req.fr {K : PySem.W.Frag} {H H' : Hp} {a : Addr} {ns : List Int} {xs : List Addr} (h : Req K H a ns) (s : Fr xs H H') (n : ∀ b ∈ xs, ∀ o u, H b ≠ some (.frz o u)) : Req K H' a ns := by
  rcases h with ⟨o, h⟩ | h
  · exact .inl ⟨o, s _ _ h fun z => n a z _ _ h⟩
  · exact .inr h
theorem HouseAt.plain {C : Addr} {H : Hp} {a : Addr} {l : Lay} {m : M} (h : HouseAt C H a l m) : ∀ b ∈ l.all a, ∀ o u, H b ≠ some (.frz o u) := by
  intro b hb o u z
  simp only [Lay.all, List.mem_cons, List.mem_append] at hb
  rcases hb with e | e | e | e | e | e | e | e
  · rw [e, h.ins] at z; cases z
  · rw [e, h.pl] at z; cases z
  · rw [e, h.qu] at z; cases z
  · rw [e, h.ki] at z; cases z
  · rw [e, h.da] at z; cases z
  · rw [e, h.ro] at z; cases z
  · obtain ⟨i, hi⟩ := List.mem_iff_getElem?.mp e
    have hl : i < l.qs.length := (List.getElem?_eq_some_iff.mp hi).1
    rw [h.qs.len] at hl
    rw [h.qs.at_ i b _ hi (List.getElem?_eq_getElem hl)] at z; cases z
  · obtain ⟨i, hi⟩ := List.mem_iff_getElem?.mp e
    have hl : i < l.as.length := (List.getElem?_eq_some_iff.mp hi).1
    rw [h.as.len] at hl
    rw [h.as.at_ i b _ hi (List.getElem?_eq_getElem hl)] at z; cases z

/-! ### what a call finds, and leaves -/
structure Pre (K : PySem.W.Frag) (CH CR : Addr) (H : Hp) (h r dxr a : Addr) (l : Lay) (m : M) (ns : List Int) (n : Nat) : Prop where
  hs : HouseAt CH H h l m
  mo : MOk m
  rd : H r = some (.ins CR dxr (rF a (n : Int)))
  rq : Req K H a ns
  rr : r ∉ l.all h
  nl : n ≤ ns.length
  few : ns.length ≤ 14000
structure Post (CH CR : Addr) (H H' : Hp) (h r dxr a : Addr) (l : Lay) (s' : State) (ans : List Int) (n' : Nat) (q : Addr) : Prop where
  ex : ∃ (l' : Lay) (m' : M), HouseAt CH H' h l' m' ∧ MOk m' ∧ absS m' = s' ∧ ∀ b ∈ l'.all h, b ∈ l.all h ∨ H b = none
  rd : H' r = some (.ins CR dxr (rF a (n' : Int)))
  ans : H' q = some (.lst (iV ans))
  new : H q = none
  fr : Fr (r :: l.all h) H H'
def spCallP (K : PySem.W.Frag) (CH CR : Addr) (p : Int) : Sp := fun vs H R _ => ∃ (h r dxr a : Addr) (l : Lay) (m : M) (ns : List Int) (n : Nat) (c : List (List Int)) (t : List Int), vs = [.ref h, .ref r] ∧ Pre K CH CR H h r dxr a l m ns n ∧
  PyFlat.call PyVbkoaf.shape (p :: ns.drop n) = some (c, t) ∧ (∀ x ∈ c, x.length ≤ 60) ∧
  ∀ H' q, Post CH CR H H' h r dxr a l (stp m c).1 (stp m c).2 (ns.length - t.length) q → R (.ref q) H'

theorem HouseAt.fr {C : Addr} {H H' : Hp} {a : Addr} {l : Lay} {m : M} {xs : List Addr} (h : HouseAt C H a l m) (s : Fr xs H H') (n : ∀ b ∈ l.all a, b ∉ xs) : HouseAt C H' a l m := by
  have m1 : ∀ b, b ∈ l.qs → b ∈ l.all a := fun b hb => by simp [Lay.all, hb]
  have m2 : ∀ b, b ∈ l.as → b ∈ l.all a := fun b hb => by simp [Lay.all, hb]
  exact ⟨s _ _ h.ins (n _ (by simp [Lay.all])), s _ _ h.pl (n _ (by simp [Lay.all])), s _ _ h.qu (n _ (by simp [Lay.all])), ⟨h.qs.len, fun i b ls h1 h2 => s _ _ (h.qs.at_ i b ls h1 h2) (n _ (m1 _ (List.mem_of_getElem? h1)))⟩,
    s _ _ h.ki (n _ (by simp [Lay.all])), s _ _ h.da (n _ (by simp [Lay.all])), ⟨h.as.len, fun i b ls h1 h2 => s _ _ (h.as.at_ i b ls h1 h2) (n _ (m2 _ (List.mem_of_getElem? h1)))⟩, s _ _ h.ro (n _ (by simp [Lay.all])), h.nd⟩
theorem But.fr {r : Addr} {H H' : Hp} (b : But r H H') : Fr [r] H H' := fun c o e n => b c o e fun z => n (by rw [z]; exact List.mem_cons_self ..)
section
variable {K : PySem.W.Frag} {mg : Str → Option Value} {CG CH CR : Addr} {H H1 : Hp} {h r dxr a : Addr} {l : Lay} {m : M} {ns : List Int} {n : Nat}
/-- behind a reading -/
theorem Pre.read (p : Pre K CH CR H h r dxr a l m ns n) {n' : Nat} (b : But r H H1) (hr : H1 r = some (.ins CR dxr (rF a (n' : Int)))) (hn : n' ≤ ns.length) : Pre K CH CR H1 h r dxr a l m ns n' :=
  ⟨p.hs.fr b.fr (fun c hc z => by
      have : c = r := by simpa using z
      exact p.rr (this ▸ hc)), p.mo, hr, p.rq.fr b.fr (fun c hc o u z => by
      have : c = r := by simpa using hc
      rw [this, p.rd] at z; cases z), p.rr, hn, p.few⟩
theorem Pre.same (p : Pre K CH CR H h r dxr a l m ns n) (s : Same H H1) : Pre K CH CR H1 h r dxr a l m ns n :=
  ⟨p.hs.same s, p.mo, s _ _ p.rd, p.rq.fr (xs := []) (Fr.of_same s) (fun _ hb => by cases hb), p.rr, p.nl, p.few⟩
/-- the house is as it was, the numbers are read, an answer is laid -/
theorem Post.keep {H2 : Hp} {q : Addr} {c : List (List Int)} {n' : Nat} (p : Pre K CH CR H h r dxr a l m ns n) (p2 : Pre K CH CR H2 h r dxr a l m ns n') (b : But r H H2) (hs : (stp m c).1 = absS m) (ha : H2 q = some (.lst (iV (stp m c).2))) (nq : H q = none) : Post CH CR H H2 h r dxr a l (stp m c).1 (stp m c).2 n' q :=
  ⟨⟨l, m, p2.hs, p2.mo, hs.symm, fun b hb => .inl hb⟩, p2.rd, ha, nq, fun c o e n => b c o e fun z => n (by rw [z]; exact List.mem_cons_self ..)⟩
theorem But.then {r : Addr} {H H1 H2 : Hp} (b : But r H H1) (s : Same H1 H2) : But r H H2 := fun c o e n => s _ _ (b c o e n)
/-- a number alone is answered -/
theorem one_ans {H1 : Hp} {q : Addr} {z : Int} : (upd H1 q (.lst [V.int z])) q = some (.lst (iV [z])) := upd_same
end
end Vp
set_option Elab.async false
set_option linter.all false
set_option maxRecDepth 100000
set_option maxHeartbeats 1000000
namespace Vp
open PySem PySem.Spec PyProof.Rows L2
open Vbkoaf (Person Day inside State)
open Vb (G Q keys)
section
variable {K : PySem.W.Frag} {mg : Str → Option Value} {CG CH CR : Addr}

theorem ids_row {m : M} {A : List Nat} : Vbkoaf.ids (A.map (mP m)) = A := by rw [Vbkoaf.ids, List.map_map]; exact List.map_id A
theorem listed_is {l : List Nat} : iV (Vbkoaf.listed l) = V.int (l.length : Int) :: nats l := by
  show V.int (l.length : Int) :: iV (l.map Vbkoaf.whole) = _
  rw [iV, List.map_map]; rfl
theorem mo_row {m : M} (h : MOk m) : m.row.length ≤ 90000 := by have := h.r8; omega

theorem pure_call_row (T : Txt K mg CG CH CR) (vs : List V) (H : Hp) (R : VK) (E : XK) (h : spCallP K CH CR 6 vs H R E) : t_call_row K CG CH CR spCount { nx := fun _ H' => R .non H', rt := R } (start ["house", "reader"] vs) H := by
  obtain ⟨h, r, dxr, a, l, m, ns, n, c, t, rfl, p, hc, hcl, q⟩ := h
  obtain ⟨_, rfl, rfl⟩ := flat0 (k := 0) rfl hc
  refine ⟨_, rfl, h, CH, l.dx, _, _, rfl, p.hs.ins, T.cl_House, T.na_House_row, hF_row, l.ro, _, rfl, p.hs.ro, by rw [nats_length]; exact mo_row p.mo, fun H' x s nx hx => ?_⟩
  refine q H' x ?_
  rw [List.drop_zero, drop_len rfl p.nl]
  refine Post.keep p (p.same s) (But.of_same s) rfl ?_ nx
  rw [hx]
  show some (HO.lst _) = some (HO.lst (iV (Vbkoaf.listed (Vbkoaf.ids (m.row.map (mP m))))))
  rw [ids_row, listed_is, nats_length]

/-- those served, by numbers -/
def svd (m : M) : List Nat := Vb.servedN m.ds (mP m) [] m.row
theorem svd_sub {m : M} : ∀ a ∈ svd m, a ∈ m.row := fun a ha => by
  rcases Vb.served_sub ha with z | z
  · cases z
  · exact z
theorem svd_nd {m : M} (h : MOk m) : (svd m).Nodup := Vb.served_nd (by simpa using h.rn)
theorem svd_len {m : M} (h : MOk m) : (svd m).length ≤ 8 := Nat.le_trans (Vb.nodup_length (svd_nd h) svd_sub) h.r8
theorem svd_can {m : M} : Vbkoaf.canServe m.ds ((svd m).map (mP m)) = true := Vb.served_can Vb.can_nil
theorem served_abs {m : M} : Vbkoaf.served (absS m) = (svd m).map (mP m) := Vb.served_is m.row []
theorem giving_abs {m : M} {A : List Nat} (nd : A.Nodup) : Vbkoaf.giving m.ds (A.map (mP m)) = toldN m A := Vb.give_is A (mP m) [] (by simpa using nd)

theorem pure_call_served (T : Txt K mg CG CH CR) (vs : List V) (H : Hp) (R : VK) (E : XK) (h : spCallP K CH CR 7 vs H R E) : t_call_served K CG CH CR spCount (spServed CH) { nx := fun _ H' => R .non H', rt := R } (start ["house", "reader"] vs) H := by
  obtain ⟨h, r, dxr, a, l, m, ns, n, c, t, rfl, p, hc, hcl, q⟩ := h
  obtain ⟨_, rfl, rfl⟩ := flat0 (k := 0) rfl hc
  refine ⟨_, rfl, h, l, m, rfl, p.hs, p.mo, fun H1 y s1 ny hy => ?_⟩
  have hlen := svd_len p.mo
  refine ⟨y, _, rfl, hy, by rw [nats_length]; exact Nat.le_trans hlen (by decide), fun H' x s nx hx => ?_⟩
  refine q H' x ?_
  rw [List.drop_zero, drop_len rfl p.nl]
  have s2 := s1.trans s
  refine Post.keep p (p.same s2) (But.of_same s2) rfl ?_ (s1.free nx)
  rw [hx]
  show some (HO.lst _) = some (HO.lst (iV (Vbkoaf.listed (Vbkoaf.ids (Vbkoaf.served (absS m))))))
  rw [served_abs, ids_row, listed_is, nats_length]; rfl

/-- one behind another: who, and their day -/
def pairsV (A dl : List Nat) : List Nat := (A.zip dl).flatMap fun t => [t.1, t.2]
theorem pure_call_days (T : Txt K mg CG CH CR) (vs : List V) (H : Hp) (R : VK) (E : XK) (h : spCallP K CH CR 8 vs H R E) : t_call_days K CG CH CR (spServed CH) (spTold K CH) { nx := fun _ H' => R .non H', rt := R } (start ["house", "reader", "applicants", "told", "answer", "applicant"] vs) H := by
  obtain ⟨h, r, dxr, a, l, m, ns, n, c, t, rfl, p, hc, hcl, q⟩ := h
  obtain ⟨_, rfl, rfl⟩ := flat0 (k := 0) rfl hc
  have hlen := svd_len p.mo
  -- applicants = served(house)
  refine ⟨_, rfl, h, l, m, rfl, p.hs, p.mo, fun H1 y s1 ny hy => ?_⟩
  -- told = told_giving(house, applicants)
  refine ⟨_, rfl, _, rfl, h, y, l, m, svd m, rfl, p.hs.same s1, p.mo, SqL.of hy, svd_nd p.mo, fun b hb => p.mo.rl b (svd_sub b hb), svd_can, fun H2 w s2 nw hw hwl => ?_⟩
  have hy2 := s2 _ _ hy
  -- answer = [len(applicants)]
  refine ⟨_, rfl, y, _, rfl, .inl (SqL.of hy2), by show 1 ≤ sizeLine; decide, fun x nx => ?_⟩
  have s3 := same_upd (o := .lst [V.int ((nats (svd m)).length : Int)]) nx
  have nx0 : H x = none := (s1.trans s2).free nx
  have sA := (s1.trans s2).trans s3
  have hy3 := s3 _ _ hy2
  have hw3 := s3 _ _ hw
  have nyx : y ≠ x := ne_of_none hy2 nx
  have nwx : w ≠ x := ne_of_none hw nx
  refine ⟨_, rfl, y, rfl, ⟨_, SqL.of hy3⟩, ?_⟩
  refine for_list (K := K) (a := y) (xs := nats (svd m)) (fun i σ H' => ∃ v5 : Option V, σ = [some (.ref h), some (.ref r), some (.ref y), some (.ref w), some (.ref x), v5] ∧ Same H H' ∧ H' y = some (.lst (nats (svd m))) ∧ H' w = some (.dK (kvs dayV ((svd m).zip (toldN m (svd m))))) ∧ H' x = some (.lst (V.int ((svd m).length : Int) :: nats (pairsV ((svd m).take i) ((toldN m (svd m)).take i)))))
    ⟨none, rfl, sA, hy3, hw3, by rw [upd_same, nats_length]; rfl⟩ (fun i σ H' _ ⟨_, _, _, h5, _⟩ => SqL.of h5) ?_ ?_
  · rintro i z σ H' hz ⟨v5, rfl, s, hy', hw', hx'⟩
    obtain ⟨b, hb, rfl⟩ := of_nats hz
    have hi : i < (svd m).length := (List.getElem?_eq_some_iff.mp hb).1
    have hi2 : i < (toldN m (svd m)).length := by rw [hwl]; exact hi
    have hd : (toldN m (svd m))[i]? = some (toldN m (svd m))[i] := List.getElem?_eq_getElem hi2
    generalize (toldN m (svd m))[i] = d at hd
    have hpl : (pairsV ((svd m).take i) ((toldN m (svd m)).take i)).length ≤ 1000 := by
      have : ∀ (A B : List Nat), (pairsV A B).length ≤ 2 * A.length := fun A => by
        induction A with
        | nil => intro B; simp [pairsV]
        | cons x A ih =>
          intro B
          cases B with
          | nil => simp [pairsV]
          | cons y B =>
            have := ih B
            simp [pairsV] at this ⊢
            omega
      have := this ((svd m).take i) ((toldN m (svd m)).take i)
      have := (List.take_sublist i (svd m)).length_le
      omega
    refine ⟨_, rfl, .inl ⟨rfl, _, SqL.of hx'⟩, _, rfl, x, _, _, rfl, rfl, hx', by rw [List.length_cons, nats_length]; exact small_size (by omega), ?_⟩
    have hx2 : (upd H' x (.lst (V.int ((svd m).length : Int) :: nats (pairsV ((svd m).take i) ((toldN m (svd m)).take i)) ++ [V.int (b : Int)]))) x = some (.lst (V.int ((svd m).length : Int) :: nats (pairsV ((svd m).take i) ((toldN m (svd m)).take i)) ++ [V.int (b : Int)])) := upd_same
    have hw2 : (upd H' x (.lst (V.int ((svd m).length : Int) :: nats (pairsV ((svd m).take i) ((toldN m (svd m)).take i)) ++ [V.int (b : Int)]))) w = some (.dK (kvs dayV ((svd m).zip (toldN m (svd m))))) := by rw [upd_ne nwx]; exact hw'
    have hlook : ((svd m).zip (toldN m (svd m))).lookup b = some d := by
      refine mem_look (by rw [zip_keys hwl.symm]; exact svd_nd p.mo) ?_
      refine List.mem_of_getElem? (i := i) ?_
      rw [List.getElem?_zip_eq_some]
      exact ⟨hb, hd⟩
    refine ⟨_, rfl, .inl ⟨rfl, _, SqL.of hx2⟩, _, rfl, _, rfl, w, dayV d, rfl, .inl ⟨_, Sum.inl (b : Int), .inl hw2, rfl, by rw [val_kvs, hlook]; rfl⟩, x, _, _, rfl, rfl, hx2, by simp [nats_length]; exact small_size (by omega), ?_⟩
    refine ⟨_, rfl, fun c o hc => ?_, ?_, ?_, ?_⟩
    · rw [upd_ne (ne_of_none hc nx0), upd_ne (ne_of_none hc nx0)]; exact s _ _ hc
    · rw [upd_ne nyx, upd_ne nyx]; exact hy'
    · rw [upd_ne nwx]; exact hw2
    · rw [upd_same, take_more hb, take_more hd]
      have e1 : pairsV ((svd m).take i ++ [b]) ((toldN m (svd m)).take i ++ [d]) = pairsV ((svd m).take i) ((toldN m (svd m)).take i) ++ [b, d] := by
        rw [pairsV, List.zip_append (by rw [List.length_take, List.length_take, hwl]), List.flatMap_append]; rfl
      rw [e1, nats_append]
      simp [nats, dayV]
  · rintro σ H' ⟨v5, rfl, s, hy', hw', hx'⟩
    refine ⟨_, rfl, q H' x ?_⟩
    rw [List.drop_zero, drop_len rfl p.nl]
    refine Post.keep p (p.same s) (But.of_same s) rfl ?_ nx0
    rw [hx']
    have e1 : (svd m).take (nats (svd m)).length = svd m := by rw [nats_length, List.take_length]
    have e2 : (toldN m (svd m)).take (nats (svd m)).length = toldN m (svd m) := by rw [nats_length, ← hwl, List.take_length]
    rw [e1, e2]
    show some (HO.lst _) = some (HO.lst (iV (Vbkoaf.whole (Vbkoaf.served (absS m)).length :: ((Vbkoaf.served (absS m)).zip (Vbkoaf.giving m.ds (Vbkoaf.served (absS m)))).flatMap fun t => Vbkoaf.ints [t.1.id, t.2])))
    rw [served_abs, giving_abs (svd_nd p.mo), List.length_map]
    have e3 : (((svd m).map (mP m)).zip (toldN m (svd m))).flatMap (fun t => Vbkoaf.ints [t.1.id, t.2]) = (pairsV (svd m) (toldN m (svd m))).map Vbkoaf.whole := by
      generalize toldN m (svd m) = dl
      rw [pairsV]
      induction svd m generalizing dl with
      | nil => rfl
      | cons b A ih =>
        cases dl with
        | nil => rfl
        | cons d dl =>
          rw [List.map_cons, List.zip_cons_cons, List.flatMap_cons, ih, List.zip_cons_cons, List.flatMap_cons, List.map_append]
          rfl
    rw [e3]
    show _ = some (HO.lst (V.int ((svd m).length : Int) :: iV ((pairsV (svd m) (toldN m (svd m))).map Vbkoaf.whole)))
    rw [iV, List.map_map]; rfl
end
end Vp
set_option Elab.async false
set_option linter.all false
set_option maxRecDepth 100000
set_option maxHeartbeats 1000000
namespace Vp
open PySem PySem.Spec PyProof.Rows L2
open Vbkoaf (Person Day inside State)
open Vb (G Q keys)

theorem flat_1 {p : Int} {ns t : List Int} {n : Nat} {c : List (List Int)} (hs : PyVbkoaf.shape p = some (1, 0)) (hn : n ≤ ns.length) (h : PyFlat.call PyVbkoaf.shape (p :: ns.drop n) = some (c, t)) :
    ∃ x, ns[n]? = some x ∧ c = [[p, x]] ∧ ns.length - t.length = n + 1 ∧ n + 1 ≤ ns.length := by
  obtain ⟨hl, rfl, rfl⟩ := flat0 hs h
  cases e : ns.drop n with
  | nil => rw [e] at hl; simp at hl
  | cons x r =>
    obtain ⟨h1, h2, h3⟩ := drop_at e
    exact ⟨x, h1, rfl, by rw [show (x :: r).drop 1 = r from rfl, drop_len h2 h3], h3⟩
theorem flat_2 {p : Int} {ns t : List Int} {n : Nat} {c : List (List Int)} (hs : PyVbkoaf.shape p = some (2, 0)) (hn : n ≤ ns.length) (h : PyFlat.call PyVbkoaf.shape (p :: ns.drop n) = some (c, t)) :
    ∃ x y, ns[n]? = some x ∧ ns[n + 1]? = some y ∧ c = [[p, x, y]] ∧ ns.length - t.length = n + 2 ∧ n + 2 ≤ ns.length := by
  obtain ⟨hl, rfl, rfl⟩ := flat0 hs h
  cases e : ns.drop n with
  | nil => rw [e] at hl; simp at hl
  | cons x r =>
    obtain ⟨h1, h2, h3⟩ := drop_at e
    cases r with
    | nil => rw [e] at hl; simp at hl
    | cons y r =>
      obtain ⟨g1, g2, g3⟩ := drop_at h2
      exact ⟨x, y, h1, g1, rfl, by rw [show (x :: y :: r).drop 2 = r from rfl, drop_len g2 g3], g3⟩
theorem flat_3 {p : Int} {ns t : List Int} {n : Nat} {c : List (List Int)} (hs : PyVbkoaf.shape p = some (3, 0)) (hn : n ≤ ns.length) (h : PyFlat.call PyVbkoaf.shape (p :: ns.drop n) = some (c, t)) :
    ∃ x y z, ns[n]? = some x ∧ ns[n + 1]? = some y ∧ ns[n + 2]? = some z ∧ c = [[p, x, y, z]] ∧ ns.length - t.length = n + 3 ∧ n + 3 ≤ ns.length := by
  obtain ⟨hl, rfl, rfl⟩ := flat0 hs h
  cases e : ns.drop n with
  | nil => rw [e] at hl; simp at hl
  | cons x r =>
    obtain ⟨h1, h2, h3⟩ := drop_at e
    cases r with
    | nil => rw [e] at hl; simp at hl
    | cons y r =>
      obtain ⟨g1, g2, g3⟩ := drop_at h2
      cases r with
      | nil => rw [e] at hl; simp at hl
      | cons z r =>
        obtain ⟨f1, f2, f3⟩ := drop_at g2
        exact ⟨x, y, z, h1, g1, f1, rfl, by rw [show (x :: y :: z :: r).drop 3 = r from rfl, drop_len f2 f3], f3⟩
theorem flat_01 {p : Int} {ns t : List Int} {n : Nat} {c : List (List Int)} (hs : PyVbkoaf.shape p = some (0, 1)) (hn : n ≤ ns.length) (h : PyFlat.call PyVbkoaf.shape (p :: ns.drop n) = some (c, t)) :
    ∃ (j : Nat), ns[n]? = some (j : Int) ∧ n + 1 + j ≤ ns.length ∧ c = [[p], (ns.drop (n + 1)).take j] ∧ ns.length - t.length = n + 1 + j := by
  obtain ⟨hl, j, rest, e, hj, rfl, rfl⟩ := flat1 hs h
  rw [List.drop_zero] at e
  obtain ⟨h1, h2, h3⟩ := drop_at e
  have hr : rest.length = ns.length - (n + 1) := by rw [← h2, List.length_drop]
  exact ⟨j, h1, by omega, by rw [h2]; rfl, by rw [List.length_drop]; omega⟩
theorem flat_11 {p : Int} {ns t : List Int} {n : Nat} {c : List (List Int)} (hs : PyVbkoaf.shape p = some (1, 1)) (hn : n ≤ ns.length) (h : PyFlat.call PyVbkoaf.shape (p :: ns.drop n) = some (c, t)) :
    ∃ (x : Int) (j : Nat), ns[n]? = some x ∧ ns[n + 1]? = some (j : Int) ∧ n + 2 + j ≤ ns.length ∧ c = [[p, x], (ns.drop (n + 2)).take j] ∧ ns.length - t.length = n + 2 + j := by
  obtain ⟨hl, j, rest, e, hj, rfl, rfl⟩ := flat1 hs h
  cases e0 : ns.drop n with
  | nil => rw [e0] at hl; simp at hl
  | cons x r =>
    rw [e0] at e
    obtain ⟨h1, h2, h3⟩ := drop_at e0
    have e : r = (j : Int) :: rest := e
    rw [e] at h2
    obtain ⟨g1, g2, g3⟩ := drop_at h2
    have hr : rest.length = ns.length - (n + 2) := by rw [← g2, List.length_drop]
    exact ⟨x, j, h1, g1, by omega, by rw [g2]; rfl, by rw [List.length_drop]; omega⟩

theorem mok0 {D : Nat} (h : D ≤ 8) : MOk (m0 D) := by
  refine ⟨⟨?_, ?_, ?_, ?_⟩, ?_, ?_, ?_, ?_, fun t ht => by cases ht⟩
  · show (List.replicate D Vbkoaf.newDay).length ≤ 8
    rw [List.length_replicate]; exact h
  · intro y hy
    have := List.eq_of_mem_replicate hy
    subst this; rfl
  · intro t ht; cases ht
  · exact Nat.zero_le _
  · exact List.nodup_nil
  · intro a ha; cases ha
  · exact Nat.zero_le _
  · intro t ht; cases ht
theorem in_nat {x lo hi : Int} (h : inside x lo hi = true) (hl : 0 ≤ lo) : ∃ D : Nat, x = (D : Int) ∧ lo ≤ x ∧ x ≤ hi := by
  rw [inside, Bool.and_eq_true, decide_eq_true_eq, decide_eq_true_eq] at h
  exact ⟨x.toNat, by omega, h.1, h.2⟩

section
variable {K : PySem.W.Frag} {mg : Str → Option Value} {CG CH CR : Addr}
theorem pure_call_house (T : Txt K mg CG CH CR) (vs : List V) (H : Hp) (R : VK) (E : XK) (h : spCallP K CH CR 0 vs H R E) : t_call_house K CG CH CR (spNum K CR) spWithin (spRenew CH) { nx := fun _ H' => R .non H', rt := R } (start ["house", "reader", "day_count"] vs) H := by
  obtain ⟨h, r, dxr, a, l, m, ns, n, c, t, rfl, p, hc, hcl, q⟩ := h
  obtain ⟨x, hx, rfl, ht, hn⟩ := flat_1 rfl p.nl hc
  rw [ht] at q
  refine ⟨_, rfl, r, dxr, _, rfl, p.rd, rF_no (by decide +kernel), r, dxr, a, n, ns, x, rfl, p.rd, p.rq.sq, hx, fun H1 b1 hr1 => ?_⟩
  have p1 := p.read b1 hr1 hn
  refine ⟨_, rfl, x, 1, 8, rfl, _, rfl, ite2 (fun c => ?_) (fun c => ?_)⟩
  · have c' : inside x 1 8 = false := by simpa using c
    refine ⟨by show 1 ≤ sizeLine; decide, fun y ny => ?_⟩
    have s := same_upd (o := .lst [V.int (-1)]) ny
    have hst : stp m [[0, x]] = (absS m, [-1]) := if_pos c'
    refine q _ y (Post.keep p (p1.same s) (b1.then s) (by rw [hst]) (by rw [hst, upd_same]; rfl) (b1.fresh hr1 ny).2)
  · have c' : inside x 1 8 = true := by
      cases e : inside x 1 8 with
      | true => rfl
      | false => rw [e] at c; exact absurd rfl c
    obtain ⟨D, rfl, h1, h2⟩ := in_nat c' (by decide)
    have hst : stp m [[0, (D : Int)]] = (absS (m0 D), [(D : Int)]) := if_neg (by rw [c']; decide)
    refine ⟨_, rfl, h, l.dx, _, rfl, p1.hs.ins, hF_no (by decide +kernel), _, rfl, h, l.dx, _, D, rfl, p1.hs.ins, .inr ⟨_, l, rfl⟩, by omega, fun H2 l2 hs2 b2 _ f2 => ?_⟩
    refine ⟨_, rfl, by show 1 ≤ sizeLine; decide, fun y ny => ?_⟩
    have s := same_upd (o := .lst [V.int (D : Int)]) ny
    have nrh : r ≠ h := fun e => p.rr (by rw [e]; simp [Lay.all])
    have hr2 : H2 r = _ := b2 _ _ hr1 nrh
    have ny1 := (b2.fresh hs2.ins ny).2
    refine q _ y ⟨⟨l2, m0 D, hs2.same s, mok0 (by omega), by rw [hst], fun b hb => ?_⟩, s _ _ hr2, by rw [hst, upd_same]; rfl, (b1.fresh hr1 ny1).2, fun b o hb hnb => ?_⟩
    · rcases f2 b hb with z | z
      · exact .inl (by rw [z]; simp [Lay.all])
      · exact .inr (b1.fresh hr1 z).2
    · rw [List.mem_cons, not_or] at hnb
      have : b ≠ h := fun e => hnb.2 (by rw [e]; simp [Lay.all])
      exact s _ _ (b2 _ _ (b1 _ _ hb hnb.1) this)
end
end Vp
set_option Elab.async false
set_option linter.all false
set_option maxRecDepth 100000
set_option maxHeartbeats 1000000
namespace Vp
open PySem PySem.Spec PyProof.Rows L2
open Vbkoaf (Person Day inside State)
open Vb (G Q keys)
section
variable {K : PySem.W.Frag} {mg : Str → Option Value} {CG CH CR : Addr}
theorem refuse {H H1 : Hp} {h r dxr a : Addr} {l : Lay} {m : M} {ns : List Int} {n n' : Nat} {c : List (List Int)} {R : VK} {z : Int} (p : Pre K CH CR H h r dxr a l m ns n) (p1 : Pre K CH CR H1 h r dxr a l m ns n') (b1 : But r H H1)
    (q : ∀ H' y, Post CH CR H H' h r dxr a l (stp m c).1 (stp m c).2 n' y → R (.ref y) H') (hst : stp m c = (absS m, [z])) : ([V.int z] : List V).length ≤ sizeLine ∧ ∀ y, H1 y = none → R (.ref y) (upd H1 y (.lst [V.int z])) := by
  refine ⟨by show 1 ≤ sizeLine; decide, fun y ny => ?_⟩
  have s := same_upd (o := .lst [V.int z]) ny
  exact q _ y (Post.keep p (p1.same s) (b1.then s) (by rw [hst]) (by rw [hst, upd_same]; rfl) (b1.fresh p1.rd ny).2)
theorem ff_of {b : Bool} (c : ¬ b = true) : b = false := Bool.eq_false_iff.mpr c
theorem mok_ds {m : M} (h : MOk m) {ds : List Day} (hl : ds.length = m.ds.length) (hk : ∀ y ∈ ds, y.kinds.length = 4) : MOk { m with ds := ds } :=
  ⟨⟨by show ds.length ≤ 8; rw [hl]; exact h.wf.dn, hk, h.wf.pk, h.wf.pn⟩, h.rn, h.rl, h.r8, fun t ht d hd => by show d < ds.length; rw [hl]; exact h.pd t ht d hd, h.dl⟩
theorem mem_set {α : Type} {l : List α} {i : Nat} {x y : α} (h : y ∈ l.set i x) : y ∈ l ∨ y = x := List.mem_or_eq_of_mem_set h

theorem pure_call_places (T : Txt K mg CG CH CR) (vs : List V) (H : Hp) (R : VK) (E : XK) (h : spCallP K CH CR 1 vs H R E) : t_call_places K CG CH CR (spNum K CR) spWithin (spIn 0 7) { nx := fun _ H' => R .non H', rt := R } (start ["house", "reader", "day", "places", "before"] vs) H := by
  obtain ⟨h, r, dxr, a, l, m, ns, n, c, t, rfl, p, hc, hcl, q⟩ := h
  obtain ⟨x, z, hx, hz, rfl, ht, hn⟩ := flat_2 rfl p.nl hc
  rw [ht] at q
  refine ⟨_, rfl, r, dxr, _, rfl, p.rd, rF_no (by decide +kernel), r, dxr, a, n, ns, x, rfl, p.rd, p.rq.sq, hx, fun H0 b0 hr0 => ?_⟩
  have p0 := p.read b0 hr0 (by omega)
  refine ⟨_, rfl, r, dxr, _, rfl, p0.rd, rF_no (by decide +kernel), r, dxr, a, n + 1, ns, z, rfl, p0.rd, p0.rq.sq, hz, fun H1 b01 hr1 => ?_⟩
  have p1 := p0.read b01 hr1 hn
  have b1 := b0.trans b01
  have hst : stp m [[1, x, z]] = if (inside x 0 7 && inside z 0 9) = false then (absS m, [-1]) else Vbkoaf.onDay (absS m) x fun d y => (Vbkoaf.setDays (absS m) (m.ds.set d { y with places := z.toNat }), [(y.places : Int)]) := rfl
  refine ⟨_, rfl, x, rfl, _, rfl, ite2 (fun c1 => ?_) (fun c1 => ?_)⟩
  · refine ⟨_, rfl, z, 0, 9, rfl, _, rfl, ite2 (fun c2 => ?_) (fun c2 => ?_)⟩
    · have c' : inside z 0 9 = false := by simpa using c2
      exact refuse p p1 b1 q (by rw [hst, c', Bool.and_false]; rfl)
    · have c' : inside z 0 9 = true := by
        cases e : inside z 0 9 with
        | true => rfl
        | false => rw [e] at c2; exact absurd rfl c2
      rw [c1, c', Bool.and_true, if_neg (by decide)] at hst
      obtain ⟨d, rfl, _, _⟩ := in_nat c1 (by decide)
      obtain ⟨w, rfl, _, _⟩ := in_nat c' (by decide)
      -- if day >= house.day_count
      refine ⟨_, rfl, _, rfl, h, CH, l.dx, _, _, rfl, p1.hs.ins, T.cl_House, T.na_House_day_count, hF_day_count, _, _, rfl, rfl, _, rfl, ite2 (fun c3 => ?_) (fun c3 => ?_)⟩
      · have c4 := of_decide_eq_true c3
        have e : m.ds[d]? = none := List.getElem?_eq_none (by omega)
        refine refuse p p1 b1 q ?_
        rw [hst, Vbkoaf.onDay, show (absS m).days[(d : Int).toNat]? = none by rw [Int.toNat_natCast]; exact e]; rfl
      · have c4 : ¬ ((m.ds.length : Int) ≤ (d : Int)) := fun y => c3 (decide_eq_true y)
        have hd : d < m.ds.length := by omega
        have hy : m.ds[d]? = some m.ds[d] := List.getElem?_eq_getElem hd
        generalize m.ds[d] = y at hy
        have hst2 : stp m [[1, (d : Int), (w : Int)]] = (absS { m with ds := m.ds.set d { y with places := w } }, [(y.places : Int)]) := by
          rw [hst, Vbkoaf.onDay, show (absS m).days[(d : Int).toNat]? = some y by rw [Int.toNat_natCast]; exact hy]; rfl
        have hpl : (m.ds.map (·.places))[d]? = some y.places := by rw [List.getElem?_map, hy]; rfl
        -- before = house.places[day]
        refine ⟨_, rfl, h, CH, l.dx, _, _, rfl, p1.hs.ins, T.cl_House, T.na_House_places, hF_places, _, rfl, l.pl, _, _, _, rfl, rfl, SqL.of p1.hs.pl, atI_nat (nats_some hpl), ?_⟩
        -- house.places[day] = places
        refine ⟨_, rfl, _, rfl, h, CH, l.dx, _, _, rfl, p1.hs.ins, T.cl_House, T.na_House_places, hF_places, _, rfl, l.pl, _, _, d, rfl, rfl, p1.hs.pl, ?_, ?_⟩
        · rw [nats_length, List.length_map]
          unfold ixN
          rw [if_pos (by omega), if_pos (by omega)]
          simp
        · have hs2 := p1.hs.setPlaces (c := w) hy
          have pa := apart p.hs.nd
          refine ⟨_, rfl, by show 1 ≤ sizeLine; decide, fun v nv => ?_⟩
          have s := same_upd (o := .lst [V.int (y.places : Int)]) nv
          have nrp : r ≠ l.pl := fun e => p.rr (by rw [e]; simp [Lay.all])
          have hr2 : (upd H1 l.pl (.lst ((nats (m.ds.map (·.places))).set d (.int (w : Int))))) r = H1 r := by rw [upd_ne nrp]
          have nvp : v ≠ l.pl := fun e => by rw [e, upd_same] at nv; cases nv
          have nv1 : H1 v = none := by rw [upd_ne nvp] at nv; exact nv
          refine q _ v ⟨⟨l, _, hs2.same s, mok_ds p.mo (by rw [List.length_set]) ?_, by rw [hst2], fun b hb => .inl hb⟩, s _ _ (hr2.trans hr1), by rw [hst2, upd_same]; rfl, (b1.fresh hr1 nv1).2, fun b o hb hnb => ?_⟩
          · intro y' hy'
            rcases mem_set hy' with e | e
            · exact p.mo.wf.kn y' e
            · rw [e]; exact p.mo.wf.kn y (List.mem_of_getElem? hy)
          · rw [List.mem_cons, not_or] at hnb
            have : b ≠ l.pl := fun e => hnb.2 (by rw [e]; simp [Lay.all])
            refine s _ _ ?_
            rw [upd_ne this]
            exact b1 _ _ hb hnb.1
  · exact ite2 (fun _ => refuse p p1 b1 q (by rw [hst, ff_of c1, Bool.false_and]; rfl)) (fun c2 => absurd rfl c2)

theorem pure_call_quota (T : Txt K mg CG CH CR) (vs : List V) (H : Hp) (R : VK) (E : XK) (h : spCallP K CH CR 2 vs H R E) : t_call_quota K CG CH CR (spNum K CR) spWithin (spIn 0 7) (spIn 0 3) { nx := fun _ H' => R .non H', rt := R } (start ["house", "reader", "kind", "day", "quota", "before"] vs) H := by
  obtain ⟨h, r, dxr, a, l, m, ns, n, c, t, rfl, p, hc, hcl, q⟩ := h
  obtain ⟨k, x, z, hk, hx, hz, rfl, ht, hn⟩ := flat_3 rfl p.nl hc
  rw [ht] at q
  refine ⟨_, rfl, r, dxr, _, rfl, p.rd, rF_no (by decide +kernel), r, dxr, a, n, ns, k, rfl, p.rd, p.rq.sq, hk, fun H0 b0 hr0 => ?_⟩
  have p0 := p.read b0 hr0 (by omega)
  refine ⟨_, rfl, r, dxr, _, rfl, p0.rd, rF_no (by decide +kernel), r, dxr, a, n + 1, ns, x, rfl, p0.rd, p0.rq.sq, hx, fun H01 b00 hr00 => ?_⟩
  have p00 := p0.read b00 hr00 (by omega)
  refine ⟨_, rfl, r, dxr, _, rfl, p00.rd, rF_no (by decide +kernel), r, dxr, a, n + 2, ns, z, rfl, p00.rd, p00.rq.sq, hz, fun H1 b01 hr1 => ?_⟩
  have p1 := p00.read b01 hr1 hn
  have b1 := (b0.trans b00).trans b01
  have hst : stp m [[2, k, x, z]] = if (inside k 0 3 && (inside x 0 7 && inside z 0 9)) = false then (absS m, [-1]) else Vbkoaf.onDay (absS m) x fun d y => (Vbkoaf.setDays (absS m) (m.ds.set d { y with kinds := y.kinds.set k.toNat z.toNat }), [((y.kinds.getD k.toNat 0 : Nat) : Int)]) := rfl
  refine ⟨_, rfl, k, rfl, _, rfl, ite2 (fun c0 => ?_) (fun c0 => ?_)⟩
  · refine ⟨_, rfl, x, rfl, _, rfl, ite2 (fun c1 => ?_) (fun c1 => ?_)⟩
    · refine ⟨_, rfl, z, 0, 9, rfl, _, rfl, ite2 (fun c2 => ?_) (fun c2 => ?_)⟩
      · have c' : inside z 0 9 = false := by simpa using c2
        exact refuse p p1 b1 q (by rw [hst, c', Bool.and_false, Bool.and_false]; rfl)
      · have c' : inside z 0 9 = true := by
          cases e : inside z 0 9 with
          | true => rfl
          | false => rw [e] at c2; exact absurd rfl c2
        rw [c0, c1, c', Bool.and_true, Bool.and_true, if_neg (by decide)] at hst
        obtain ⟨d, rfl, _, _⟩ := in_nat c1 (by decide)
        obtain ⟨w, rfl, _, _⟩ := in_nat c' (by decide)
        obtain ⟨k, rfl, _, _⟩ := in_nat c0 (by decide)
        refine ⟨_, rfl, _, rfl, h, CH, l.dx, _, _, rfl, p1.hs.ins, T.cl_House, T.na_House_day_count, hF_day_count, _, _, rfl, rfl, _, rfl, ite2 (fun c3 => ?_) (fun c3 => ?_)⟩
        · have c4 := of_decide_eq_true c3
          have e : m.ds[d]? = none := List.getElem?_eq_none (by omega)
          refine refuse p p1 b1 q ?_
          rw [hst, Vbkoaf.onDay, show (absS m).days[(d : Int).toNat]? = none by rw [Int.toNat_natCast]; exact e]; rfl
        · have c4 : ¬ ((m.ds.length : Int) ≤ (d : Int)) := fun y => c3 (decide_eq_true y)
          have hd : d < m.ds.length := by omega
          have hy : m.ds[d]? = some m.ds[d] := List.getElem?_eq_getElem hd
          generalize m.ds[d] = y at hy
          have hk4 : k < y.kinds.length := by rw [p.mo.wf.kn y (List.mem_of_getElem? hy)]; omega
          have hst2 : stp m [[2, (k : Int), (d : Int), (w : Int)]] = (absS { m with ds := m.ds.set d { y with kinds := y.kinds.set k w } }, [((y.kinds.getD k 0 : Nat) : Int)]) := by
            rw [hst, Vbkoaf.onDay, show (absS m).days[(d : Int).toNat]? = some y by rw [Int.toNat_natCast]; exact hy]; rfl
          have hkn : (m.ds.map (·.kinds))[d]? = some y.kinds := by rw [List.getElem?_map, hy]; rfl
          obtain ⟨qa, hqa, hq⟩ := p1.hs.qs.get hkn
          have hkk : y.kinds[k]? = some (y.kinds.getD k 0) := by rw [List.getD_eq_getElem?_getD, List.getElem?_eq_getElem hk4]; rfl
          refine ⟨_, rfl, h, CH, l.dx, _, _, rfl, p1.hs.ins, T.cl_House, T.na_House_quotas, hF_quotas, _, rfl, l.qu, _, _, _, rfl, rfl, SqL.of p1.hs.qu, atI_nat (refs_some hqa), _, rfl, qa, _, _, _, rfl, rfl, SqL.of hq, atI_nat (nats_some hkk), ?_⟩
          refine ⟨_, rfl, _, rfl, h, CH, l.dx, _, _, rfl, p1.hs.ins, T.cl_House, T.na_House_quotas, hF_quotas, _, rfl, l.qu, _, _, _, rfl, rfl, SqL.of p1.hs.qu, atI_nat (refs_some hqa), _, rfl, qa, _, _, k, rfl, rfl, hq, ?_, ?_⟩
          · rw [nats_length]
            unfold ixN
            rw [if_pos (by omega), if_pos (by omega)]
            simp
          · have hs2 := p1.hs.setQuota (k := k) (q := w) hy hqa
            have hqm : qa ∈ l.all h := by simp [Lay.all, List.mem_of_getElem? hqa]
            refine ⟨_, rfl, by show 1 ≤ sizeLine; decide, fun v nv => ?_⟩
            have s := same_upd (o := .lst [V.int ((y.kinds.getD k 0 : Nat) : Int)]) nv
            have nrp : r ≠ qa := fun e => p.rr (by rw [e]; exact hqm)
            have hr2 : (upd H1 qa (.lst ((nats y.kinds).set k (.int (w : Int))))) r = H1 r := by rw [upd_ne nrp]
            have nvp : v ≠ qa := fun e => by rw [e, upd_same] at nv; cases nv
            have nv1 : H1 v = none := by rw [upd_ne nvp] at nv; exact nv
            refine q _ v ⟨⟨l, _, hs2.same s, mok_ds p.mo (by rw [List.length_set]) ?_, by rw [hst2], fun b hb => .inl hb⟩, s _ _ (hr2.trans hr1), by rw [hst2, upd_same]; rfl, (b1.fresh hr1 nv1).2, fun b o hb hnb => ?_⟩
            · intro y' hy'
              rcases mem_set hy' with e | e
              · exact p.mo.wf.kn y' e
              · rw [e]
                show (y.kinds.set k w).length = 4
                rw [List.length_set]; exact p.mo.wf.kn y (List.mem_of_getElem? hy)
            · rw [List.mem_cons, not_or] at hnb
              have : b ≠ qa := fun e => hnb.2 (by rw [e]; exact hqm)
              refine s _ _ ?_
              rw [upd_ne this]
              exact b1 _ _ hb hnb.1
    · exact ite2 (fun _ => refuse p p1 b1 q (by rw [hst, ff_of c1, Bool.false_and, Bool.and_false]; rfl)) (fun c2 => absurd rfl c2)
  · exact ite2 (fun _ => refuse p p1 b1 q (by rw [hst, ff_of c0, Bool.false_and]; rfl)) (fun c2 => absurd rfl c2)
end
end Vp
set_option Elab.async false
set_option linter.all false
set_option maxRecDepth 100000
set_option maxHeartbeats 1000000
namespace Vp
open PySem PySem.Spec PyProof.Rows L2
open Vbkoaf (Person Day inside State)
open Vb (G Q keys)

theorem inV_nats {k : Nat} {l : List Nat} : inV (.int (k : Int)) (nats l) = decide (k ∈ l) := by
  rw [inV, nats, List.any_map, Bool.eq_iff_iff, List.any_eq_true, decide_eq_true_eq]
  constructor
  · rintro ⟨y, hy, e⟩
    have : (y : Int) = (k : Int) := by simpa [eqV] using e
    have : y = k := by omega
    exact this ▸ hy
  · intro h
    exact ⟨k, h, by simp [eqV]⟩
theorem find_abs {m : M} {k : Nat} : Vbkoaf.find (absS m) k = if k ∈ m.row then some (mP m k) else none := by
  show (m.row.map (mP m)).find? (fun p => p.id == k) = _
  induction m.row with
  | nil => rfl
  | cons b l ih =>
    rw [List.map_cons, List.find?_cons]
    by_cases c : b = k
    · subst c
      have : ((mP m b).id == b) = true := by simp [mP]
      rw [this]; simp
    · have : ((mP m b).id == k) = false := by simpa [mP] using c
      have c2 : ¬ k = b := fun z => c z.symm
      rw [this, ih]; simp [c2]
theorem without_map {m : M} {k : Nat} {l : List Nat} : Vbkoaf.without (l.map (mP m)) k = (l.filter fun z => z != k).map (mP m) := by
  rw [Vbkoaf.without, List.filter_map]; rfl
theorem HouseAt.there {C : Addr} {H : Hp} {a : Addr} {l : Lay} {m : M} (h : HouseAt C H a l m) (v : Addr) (hv : v ∈ l.all a) : ∃ o, H v = some o := by
  simp only [Lay.all, List.mem_cons, List.mem_append] at hv
  rcases hv with e | e | e | e | e | e | e | e
  · exact ⟨_, by rw [e]; exact h.ins⟩
  · exact ⟨_, by rw [e]; exact h.pl⟩
  · exact ⟨_, by rw [e]; exact h.qu⟩
  · exact ⟨_, by rw [e]; exact h.ki⟩
  · exact ⟨_, by rw [e]; exact h.da⟩
  · exact ⟨_, by rw [e]; exact h.ro⟩
  · obtain ⟨i, hi⟩ := List.mem_iff_getElem?.mp e
    have hl : i < l.qs.length := (List.getElem?_eq_some_iff.mp hi).1
    rw [h.qs.len] at hl
    exact ⟨_, h.qs.at_ i v _ hi (List.getElem?_eq_getElem hl)⟩
  · obtain ⟨i, hi⟩ := List.mem_iff_getElem?.mp e
    have hl : i < l.as.length := (List.getElem?_eq_some_iff.mp hi).1
    rw [h.as.len] at hl
    exact ⟨_, h.as.at_ i v _ hi (List.getElem?_eq_getElem hl)⟩
theorem mok_row {m : M} (h : MOk m) {r : List Nat} (hn : r.Nodup) (hs : ∀ a ∈ r, a ∈ m.row) : MOk { m with row := r } :=
  ⟨⟨h.wf.dn, h.wf.kn, h.wf.pk, h.wf.pn⟩, hn, fun a ha => h.rl a (hs a ha), Nat.le_trans (Vb.nodup_length hn hs) h.r8, h.pd, h.dl⟩

section
variable {K : PySem.W.Frag} {mg : Str → Option Value} {CG CH CR : Addr}
theorem ahead_perm {row : List Nat} {x y : Nat} (hx : x ∈ row) (nd : row.Nodup) : (aheadRow row x y).1.Nodup ∧ ∀ a ∈ (aheadRow row x y).1, a ∈ row := by
  simp only [aheadRow]
  generalize hi : ((row.filter fun z => z != x).takeWhile fun z => z != y).length = i
  have hno : x ∉ row.filter fun z => z != x := fun z => by simpa using (List.mem_filter.mp z).2
  have nd2 : (row.filter fun z => z != x).Nodup := List.Nodup.sublist List.filter_sublist nd
  generalize ho : (row.filter fun z => z != x) = o at hno nd2
  constructor
  · have hp : (o.take i ++ x :: o.drop i).Perm (x :: o) := by
      have := List.perm_middle (a := x) (l₁ := o.take i) (l₂ := o.drop i)
      rw [List.take_append_drop] at this
      exact this
    rw [hp.nodup_iff, List.nodup_cons]
    exact ⟨hno, nd2⟩
  · intro b hb
    rcases List.mem_append.mp hb with z | z
    · rw [← ho] at z
      exact (List.mem_filter.mp (List.mem_of_mem_take z)).1
    · rcases List.mem_cons.mp z with z | z
      · rw [z]; exact hx
      · rw [← ho] at z
        exact (List.mem_filter.mp (List.mem_of_mem_drop z)).1
theorem while_map {m : M} {k : Nat} {l : List Nat} : ((l.map (mP m)).takeWhile fun z => z.id != k).length = (l.takeWhile fun z => z != k).length := by
  induction l with
  | nil => rfl
  | cons b l ih =>
    rw [List.map_cons, List.takeWhile_cons, List.takeWhile_cons]
    show (if (b != k) = true then _ else _ : List Person).length = _
    split <;> simp [ih]

theorem pure_call_ahead (T : Txt K mg CG CH CR) (vs : List V) (H : Hp) (R : VK) (E : XK) (h : spCallP K CH CR 5 vs H R E) : t_call_ahead K CG CH CR (spNum K CR) (spIn 0 19) (spAhead CH) { nx := fun _ H' => R .non H', rt := R } (start ["house", "reader", "applicant", "other"] vs) H := by
  obtain ⟨h, r, dxr, a, l, m, ns, n, c, t, rfl, p, hc, hcl, q⟩ := h
  obtain ⟨x, z, hx, hz, rfl, ht, hn⟩ := flat_2 rfl p.nl hc
  rw [ht] at q
  refine ⟨_, rfl, r, dxr, _, rfl, p.rd, rF_no (by decide +kernel), r, dxr, a, n, ns, x, rfl, p.rd, p.rq.sq, hx, fun H0 b0 hr0 => ?_⟩
  have p0 := p.read b0 hr0 (by omega)
  refine ⟨_, rfl, r, dxr, _, rfl, p0.rd, rF_no (by decide +kernel), r, dxr, a, n + 1, ns, z, rfl, p0.rd, p0.rq.sq, hz, fun H1 b01 hr1 => ?_⟩
  have p1 := p0.read b01 hr1 hn
  have b1 := b0.trans b01
  have hst : stp m [[5, x, z]] = if (inside x 0 19 && inside z 0 19) = false then (absS m, [-1]) else match Vbkoaf.find (absS m) x.toNat, Vbkoaf.find (absS m) z.toNat with
      | some p, some q => if x = z then Vbkoaf.no (absS m) (-5) else let others := Vbkoaf.without (absS m).row p.id
          let i := (others.takeWhile fun z => z.id != q.id).length
          ({ absS m with row := Vbkoaf.putAt others i p }, [Vbkoaf.whole i])
      | _, _ => Vbkoaf.no (absS m) (-4) := rfl
  refine ⟨_, rfl, x, rfl, _, rfl, ite2 (fun c1 => ?_) (fun c1 => ?_)⟩
  · refine ⟨_, rfl, z, rfl, _, rfl, ite2 (fun c2 => ?_) (fun c2 => ?_)⟩
    · have c' : inside z 0 19 = false := by simpa using c2
      exact refuse p p1 b1 q (by rw [hst, c', Bool.and_false]; rfl)
    · have c' : inside z 0 19 = true := by
        cases e : inside z 0 19 with
        | true => rfl
        | false => rw [e] at c2; exact absurd rfl c2
      rw [c1, c', Bool.and_true, if_neg (by decide)] at hst
      obtain ⟨k, rfl, _, _⟩ := in_nat c1 (by decide)
      obtain ⟨j, rfl, _, _⟩ := in_nat c' (by decide)
      rw [Int.toNat_natCast, Int.toNat_natCast, find_abs, find_abs] at hst
      refine ⟨_, rfl, _, rfl, h, CH, l.dx, _, _, rfl, p1.hs.ins, T.cl_House, T.na_House_row, hF_row, l.ro, _, rfl, .inl (SqL.of p1.hs.ro), rfl, flat_nats _, _, rfl, ite2 (fun c3 => ?_) (fun c3 => ?_)⟩
      · have c4 : k ∉ m.row := fun z => by
          have : (!inV (.int (k : Int)) (nats m.row)) = true := c3
          rw [inV_nats, decide_eq_true z] at this; cases this
        exact iteT (refuse p p1 b1 q (by rw [hst, if_neg c4]; rfl))
      · have c4 : k ∈ m.row := by
          by_cases z : k ∈ m.row
          · exact z
          · exact absurd (show (!inV (.int (k : Int)) (nats m.row)) = true by rw [inV_nats, decide_eq_false z]; rfl) c3
        refine ⟨_, rfl, _, rfl, h, CH, l.dx, _, _, rfl, p1.hs.ins, T.cl_House, T.na_House_row, hF_row, l.ro, _, rfl, .inl (SqL.of p1.hs.ro), rfl, flat_nats _, _, rfl, ite2 (fun c5 => ?_) (fun c5 => ?_)⟩
        · have c6 : j ∉ m.row := fun z => by
            have : (!inV (.int (j : Int)) (nats m.row)) = true := c5
            rw [inV_nats, decide_eq_true z] at this; cases this
          exact refuse p p1 b1 q (by rw [hst, if_neg c6, if_pos c4]; rfl)
        · have c6 : j ∈ m.row := by
            by_cases z : j ∈ m.row
            · exact z
            · exact absurd (show (!inV (.int (j : Int)) (nats m.row)) = true by rw [inV_nats, decide_eq_false z]; rfl) c5
          rw [if_pos c4, if_pos c6] at hst
          refine ⟨_, rfl, _, rfl, rfl, _, rfl, ite2 (fun c7 => ?_) (fun c7 => ?_)⟩
          · have c8 : (k : Int) = (j : Int) := V.int.inj (of_decide_eq_true c7)
            exact refuse p p1 b1 q (by rw [hst]; exact if_pos c8)
          · have c8 : ¬ (k : Int) = (j : Int) := fun z => c7 (by rw [z]; exact decide_eq_true rfl)
            have hst2 : stp m [[5, (k : Int), (j : Int)]] = (absS { m with row := (aheadRow m.row k j).1 }, [((aheadRow m.row k j).2 : Int)]) := by
              rw [hst]
              refine (if_neg c8).trans ?_
              show (({ absS m with row := Vbkoaf.putAt (Vbkoaf.without (m.row.map (mP m)) k) ((Vbkoaf.without (m.row.map (mP m)) k).takeWhile fun z => z.id != j).length (mP m k) } : State), [Vbkoaf.whole ((Vbkoaf.without (m.row.map (mP m)) k).takeWhile fun z => z.id != j).length]) = _
              rw [without_map, while_map]
              simp only [aheadRow, absS, Vbkoaf.putAt, Vbkoaf.whole, List.map_append, List.map_cons, List.map_take, List.map_drop]
              rfl
            obtain ⟨nd2, sub2⟩ := ahead_perm (y := j) c4 p.mo.rn
            refine ⟨_, rfl, h, l.dx, _, rfl, p1.hs.ins, hF_no (by decide +kernel), _, rfl, _, rfl, h, l, m, k, j, rfl, p1.hs, p.mo.rn, by have := p.mo.r8; omega, c4, c6, fun e => c8 (by rw [e]), fun H2 hs2 f2 => ?_⟩
            refine ⟨by show 1 ≤ sizeLine; decide, fun v nv => ?_⟩
            have s := same_upd (o := .lst [V.int ((aheadRow m.row k j).2 : Int)]) nv
            have hr2 := f2 _ _ hr1 p.rr
            have nv0 : H v = none := by
              cases e : H v with
              | none => rfl
              | some o =>
                exfalso
                by_cases y1 : v = r
                · rw [y1, hr2] at nv; cases nv
                · by_cases y2 : v ∈ l.all h
                  · have := hs2.there v y2
                    obtain ⟨o2, ho2⟩ := this
                    rw [ho2] at nv; cases nv
                  · rw [f2 _ _ (b1 _ _ e y1) y2] at nv; cases nv
            refine q _ v ⟨⟨l, _, hs2.same s, mok_row p.mo nd2 sub2, by rw [hst2], fun b hb => .inl hb⟩, s _ _ hr2, by rw [hst2, upd_same]; rfl, nv0, fun b o hb hnb => ?_⟩
            rw [List.mem_cons, not_or] at hnb
            exact s _ _ (f2 _ _ (b1 _ _ hb hnb.1) hnb.2)
  · exact ite2 (fun _ => refuse p p1 b1 q (by rw [hst, ff_of c1, Bool.false_and]; rfl)) (fun c2 => absurd rfl c2)

theorem rising_nats {hi : Int} : ∀ {ns : List Int}, Vbkoaf.rising 0 hi ns = true → ns = (Vbkoaf.nats ns).map (fun (k : Nat) => (k : Int)) ∧ ∀ d ∈ Vbkoaf.nats ns, (d : Int) ≤ hi
  | [], _ => ⟨rfl, fun d hd => by cases hd⟩
  | [x], h => by
    rw [Vbkoaf.rising] at h
    · obtain ⟨D, rfl, h1, h2⟩ := in_nat h (by decide)
      refine ⟨rfl, fun d hd => ?_⟩
      have : d = D := by simpa [Vbkoaf.nats] using hd
      omega
  | x :: y :: ns, h => by
    rw [Vbkoaf.rising, Bool.and_eq_true, Bool.and_eq_true] at h
    obtain ⟨D, rfl, h1, h2⟩ := in_nat h.1 (by decide)
    obtain ⟨g1, g2⟩ := rising_nats h.2.2
    refine ⟨?_, fun d hd => ?_⟩
    · show (D : Int) :: y :: ns = (((D : Int).toNat : Nat) : Int) :: (Vbkoaf.nats (y :: ns)).map (fun (k : Nat) => (k : Int))
      rw [← g1, Int.toNat_natCast]
    · rcases List.mem_cons.mp hd with z | z
      · rw [z, Int.toNat_natCast]; exact h2
      · exact g2 d z
theorem mP_more {m : M} {t : Nat × List Nat} {r : List Nat} {b : Nat} (hb : b < m.ppl.length) : mP { m with ppl := m.ppl ++ [t], row := r } b = mP m b := by
  have e : (m.ppl ++ [t]).getD b (0, []) = m.ppl.getD b (0, []) := by
    rw [List.getD_eq_getElem?_getD, List.getD_eq_getElem?_getD, List.getElem?_append_left hb]
  simp only [mP, kindAt, daysAt, e]
theorem mP_last {m : M} {t : Nat × List Nat} {r : List Nat} : mP { m with ppl := m.ppl ++ [t], row := r } m.ppl.length = ⟨m.ppl.length, t.1, t.2⟩ := by
  have e : (m.ppl ++ [t]).getD m.ppl.length (0, []) = t := by
    rw [List.getD_eq_getElem?_getD, List.getElem?_append_right (Nat.le_refl _)]; simp
  simp only [mP, kindAt, daysAt, e]
theorem mok_apply {m : M} (h : MOk m) {k : Nat} {days : List Nat} (hk : k < 4) (hd : ∀ d ∈ days, d < m.ds.length) (hl : days.length ≤ 60) (h8 : m.row.length < 8) (h20 : m.ppl.length < 20) : MOk { m with ppl := m.ppl ++ [(k, days)], row := m.row ++ [m.ppl.length] } := by
  refine ⟨⟨h.wf.dn, h.wf.kn, fun t ht => ?_, ?_⟩, ?_, fun a ha => ?_, ?_, fun t ht => ?_, fun t ht => ?_⟩
  · rcases List.mem_append.mp ht with z | z
    · exact h.wf.pk t z
    · have : t = (k, days) := by simpa using z
      rw [this]; exact hk
  · show (m.ppl ++ [(k, days)]).length ≤ 20
    rw [List.length_append]; show m.ppl.length + 1 ≤ 20; omega
  · show (m.row ++ [m.ppl.length]).Nodup
    rw [List.nodup_append]
    refine ⟨h.rn, by simp, fun b hb c hc e => ?_⟩
    have : c = m.ppl.length := by simpa using hc
    have := h.rl b hb
    omega
  · show a < (m.ppl ++ [(k, days)]).length
    rw [List.length_append]
    rcases List.mem_append.mp ha with z | z
    · have := h.rl a z
      show a < m.ppl.length + 1
      omega
    · have : a = m.ppl.length := by simpa using z
      show a < m.ppl.length + 1
      omega
  · show (m.row ++ [m.ppl.length]).length ≤ 8
    rw [List.length_append]; show m.row.length + 1 ≤ 8; omega
  · rcases List.mem_append.mp ht with z | z
    · exact h.pd t z
    · have : t = (k, days) := by simpa using z
      rw [this]; exact hd
  · rcases List.mem_append.mp ht with z | z
    · exact h.dl t z
    · have : t = (k, days) := by simpa using z
      rw [this]; exact hl
theorem abs_apply {m : M} (h : MOk m) {k : Nat} {days : List Nat} : absS { m with ppl := m.ppl ++ [(k, days)], row := m.row ++ [m.ppl.length] } = ⟨m.ds, m.ppl.length + 1, m.row.map (mP m) ++ [⟨m.ppl.length, k, days⟩]⟩ := by
  rw [absS]
  congr 1
  · show (m.ppl ++ [(k, days)]).length = _
    rw [List.length_append]; rfl
  · show (m.row ++ [m.ppl.length]).map _ = _
    rw [List.map_append, List.map_cons, List.map_nil, mP_last]
    congr 1
    exact List.map_congr_left fun b hb => mP_more (h.rl b hb)

end
end Vp
set_option Elab.async false
set_option linter.all false
set_option maxRecDepth 100000
set_option maxHeartbeats 1000000
/-! Calls about one in the row, and about somebody new: what is handed on answers. -/
namespace Vp
open PySem PySem.Spec PyProof.Rows L2
open Vbkoaf (Person Day inside State)
open Vb (G Q keys)

/-- what one who answers leaves -/
structure PostH (CH : Addr) (H H' : Hp) (h : Addr) (l : Lay) (xs : List Addr) (s' : State) (ans : List Int) (q : Addr) : Prop where
  ex : ∃ (l' : Lay) (m' : M), HouseAt CH H' h l' m' ∧ MOk m' ∧ absS m' = s' ∧ ∀ b ∈ l'.all h, b ∈ l.all h ∨ b ∈ xs ∨ H b = none
  ans : H' q = some (.lst (iV ans))
  new : H q = none
  fr : Fr (l.all h) H H'
/-- nothing changed -/
theorem PostH.keep {CH : Addr} {H H' : Hp} {h : Addr} {l : Lay} {m : M} {xs : List Addr} {ans : List Int} {q : Addr} (hs : HouseAt CH H h l m) (mo : MOk m) (s : Same H H') (ha : H' q = some (.lst (iV ans))) (nq : H q = none) : PostH CH H H' h l xs (absS m) ans q :=
  ⟨⟨l, m, hs.same s, mo, rfl, fun b hb => .inl hb⟩, ha, nq, Fr.of_same s⟩
def spAbt (CH : Addr) (F : M → Person → State × List Int) : Sp := fun vs H R _ => ∃ (h : Addr) (l : Lay) (m : M) (x : Nat), vs = [.ref h, .int (x : Int)] ∧ HouseAt CH H h l m ∧ MOk m ∧ x ∈ m.row ∧
  ∀ H' q, PostH CH H H' h l [] (F m (mP m x)).1 (F m (mP m x)).2 q → R (.ref q) H'
def spNew (CH : Addr) (F : M → Nat → List Nat → State × List Int) : Sp := fun vs H R _ => ∃ (h dl : Addr) (l : Lay) (m : M) (k : Nat) (days : List Nat), vs = [.ref h, .int (k : Int), .ref dl] ∧ HouseAt CH H h l m ∧ MOk m ∧ H dl = some (.lst (nats days)) ∧ dl ∉ l.all h ∧ k < 4 ∧ (∀ d ∈ days, d < m.ds.length) ∧ days.length ≤ 60 ∧ m.row.length < 8 ∧ m.ppl.length < 20 ∧
  ∀ H' q, PostH CH H H' h l [dl] (F m k days).1 (F m k days).2 q → R (.ref q) H'
def spAbout (K : PySem.W.Frag) (CH CR f : Addr) (p : Int) : Sp := fun vs H R E => ∃ (h r : Addr), vs = [.ref h, .ref r, .ref f] ∧ spCallP K CH CR p [.ref h, .ref r] H R E
def oneS (f : Addr) (sp : Sp) : Addr → Option Sp := fun g => if g = f then some sp else none
theorem one_held {P : Program} {w : World} {K : PySem.W.Frag} {mg : Str → Option Value} {base : Heap} {k : Nat} {f g : Addr} {sp sp' : Sp} (hs : oneS f sp g = some sp') (h : Held P w K mg base k f sp) : Held P w K mg base k g sp' := by
  rw [oneS] at hs
  split at hs
  · rename_i e
    cases hs
    exact e ▸ h
  · cases hs

section
variable {K : PySem.W.Frag} {mg : Str → Option Value} {CG CH CR : Addr}
theorem pure_about (T : Txt K mg CG CH CR) {f : Addr} {p : Int} {F : M → Person → State × List Int} (hsh : PyVbkoaf.shape p = some (1, 0)) (hF : ∀ m x, stp m [[p, x]] = Vbkoaf.onPerson (absS m) x (F m)) (vs : List V) (H : Hp) (R : VK) (E : XK) (h : spAbout K CH CR f p vs H R E) : t_about_applicant K CG CH CR (spNum K CR) (spIn 0 19) (oneS f (spAbt CH F)) { nx := fun _ H' => R .non H', rt := R } (start ["house", "reader", "answer_about", "applicant"] vs) H := by
  obtain ⟨h, r, rfl, h', r', dxr, a, l, m, ns, n, c, t, e, pr, hc, hcl, q⟩ := h
  cases e
  obtain ⟨x, hx, rfl, ht, hn⟩ := flat_1 hsh pr.nl hc
  rw [ht] at q
  refine ⟨_, rfl, r, dxr, _, rfl, pr.rd, rF_no (by decide +kernel), r, dxr, a, n, ns, x, rfl, pr.rd, pr.rq.sq, hx, fun H1 b1 hr1 => ?_⟩
  have p1 := pr.read b1 hr1 hn
  have hst := hF m x
  refine ⟨_, rfl, x, rfl, _, rfl, ite2 (fun c => ?_) (fun c => ?_)⟩
  · have c' : inside x 0 19 = false := by simpa using c
    exact refuse pr p1 b1 q (by rw [hst, Vbkoaf.onPerson, c']; rfl)
  · have c' : inside x 0 19 = true := by
      cases e : inside x 0 19 with
      | true => rfl
      | false => rw [e] at c; exact absurd rfl c
    rw [Vbkoaf.onPerson, c', if_neg (by decide)] at hst
    obtain ⟨k, rfl, _, _⟩ := in_nat c' (by decide)
    rw [Int.toNat_natCast, find_abs] at hst
    refine ⟨_, rfl, _, rfl, h, CH, l.dx, _, _, rfl, p1.hs.ins, T.cl_House, T.na_House_row, hF_row, l.ro, _, rfl, .inl (SqL.of p1.hs.ro), rfl, flat_nats _, _, rfl, ite2 (fun c1 => ?_) (fun c1 => ?_)⟩
    · have c2 : k ∉ m.row := fun z => by
        have : (!inV (.int (k : Int)) (nats m.row)) = true := c1
        rw [inV_nats, decide_eq_true z] at this; cases this
      exact refuse pr p1 b1 q (by rw [hst, if_neg c2]; rfl)
    · have c2 : k ∈ m.row := by
        by_cases z : k ∈ m.row
        · exact z
        · exact absurd (show (!inV (.int (k : Int)) (nats m.row)) = true by rw [inV_nats, decide_eq_false z]; rfl) c1
      rw [if_pos c2] at hst
      have hst2 : stp m [[p, (k : Int)]] = F m (mP m k) := hst
      refine ⟨f, spAbt CH F, rfl, if_pos rfl, _, rfl, _, rfl, h, l, m, k, rfl, p1.hs, pr.mo, c2, fun H2 y po => ?_⟩
      obtain ⟨l', m', g1, g2, g3, g4⟩ := po.ex
      refine q H2 y ⟨⟨l', m', g1, g2, by rw [hst2]; exact g3, fun b hb => ?_⟩, po.fr _ _ hr1 pr.rr, by rw [hst2]; exact po.ans, (b1.fresh hr1 po.new).2, fun b o hb hnb => ?_⟩
      · rcases g4 b hb with z | z | z
        · exact .inl z
        · cases z
        · exact .inr (b1.fresh hr1 z).2
      · rw [List.mem_cons, not_or] at hnb
        exact po.fr _ _ (b1 _ _ hb hnb.1) hnb.2

theorem pure_newcomer (T : Txt K mg CG CH CR) {f : Addr} {p : Int} {F : M → Nat → List Nat → State × List Int} (hsh : PyVbkoaf.shape p = some (1, 1))
    (hF : ∀ m x ls, stp m [[p, x], ls] = if inside x 0 3 = false then (absS m, [-1]) else if (!ls.isEmpty && Vbkoaf.rising 0 ((m.ds.length : Int) - 1) ls) = false then (absS m, [-2]) else if decide (8 ≤ (m.row.map (mP m)).length ∨ 20 ≤ m.ppl.length) = true then (absS m, [-7]) else F m x.toNat (Vbkoaf.nats ls))
    (vs : List V) (H : Hp) (R : VK) (E : XK) (h : spAbout K CH CR f p vs H R E) : t_about_newcomer K CG CH CR (spNum K CR) (spList K CR) (spIn 0 3) (spDays K CH) (spApplied CH) (oneS f (spNew CH F)) { nx := fun _ H' => R .non H', rt := R } (start ["house", "reader", "answer_about", "kind", "days"] vs) H := by
  obtain ⟨h, r, rfl, h', r', dxr, a, l, m, ns, n, c, t, e, pr, hc, hcl, q⟩ := h
  cases e
  obtain ⟨x, j, hx, hj, hn, rfl, ht⟩ := flat_11 hsh pr.nl hc
  rw [ht] at q
  have hjl : ((ns.drop (n + 2)).take j).length ≤ 60 := hcl _ (by simp)
  refine ⟨_, rfl, r, dxr, _, rfl, pr.rd, rF_no (by decide +kernel), r, dxr, a, n, ns, x, rfl, pr.rd, pr.rq.sq, hx, fun H0 b0 hr0 => ?_⟩
  have p0 := pr.read b0 hr0 (by omega)
  refine ⟨_, rfl, r, dxr, _, rfl, p0.rd, rF_no (by decide +kernel), r, dxr, a, n + 1, j, ns, rfl, p0.rd, p0.rq.sq, hj, by omega, fun H1 dl b01 hr1 ndl hdl => ?_⟩
  have hr1' : H1 r = some (.ins CR dxr (rF a ((n + 2 + j : Nat) : Int))) := hr1
  have p1 := p0.read b01 hr1' hn
  have b1 := b0.trans b01
  have ndl0 := (b0.fresh hr0 ndl).2
  have hdl : H1 dl = some (.lst (iV ((ns.drop (n + 2)).take j))) := hdl
  have hst := hF m x ((ns.drop (n + 2)).take j)
  generalize (ns.drop (n + 2)).take j = ls at hjl hdl hst q
  refine ⟨_, rfl, x, rfl, _, rfl, ite2 (fun c1 => ?_) (fun c1 => ?_)⟩
  · have c' : inside x 0 3 = false := by simpa using c1
    exact refuse pr p1 b1 q (by rw [hst, c']; rfl)
  · have c' : inside x 0 3 = true := by
      cases e : inside x 0 3 with
      | true => rfl
      | false => rw [e] at c1; exact absurd rfl c1
    rw [c', if_neg (by decide)] at hst
    refine ⟨_, rfl, _, rfl, h, dl, l, m, ls, rfl, p1.hs, SqL.of hdl, by omega, _, rfl, ite2 (fun c2 => ?_) (fun c2 => ?_)⟩
    · have c3 : (!ls.isEmpty && Vbkoaf.rising 0 ((m.ds.length : Int) - 1) ls) = false := by
        cases e : (!ls.isEmpty && Vbkoaf.rising 0 ((m.ds.length : Int) - 1) ls) with
        | false => rfl
        | true => rw [e] at c2; cases c2
      exact refuse pr p1 b1 q (by rw [hst, if_pos c3])
    · have c3 : (!ls.isEmpty && Vbkoaf.rising 0 ((m.ds.length : Int) - 1) ls) = true := by
        cases e : (!ls.isEmpty && Vbkoaf.rising 0 ((m.ds.length : Int) - 1) ls) with
        | true => rfl
        | false => rw [e] at c2; exact absurd rfl c2
      rw [c3, if_neg (by decide), List.length_map] at hst
      -- len(house.row) >= MOST_IN_ROW or house.applied() >= MOST_APPLIED
      have no7 : (8 ≤ m.row.length ∨ 20 ≤ m.ppl.length) → stp m [[p, x], ls] = (absS m, [-7]) := fun z => by rw [hst, if_pos (decide_eq_true z)]
      refine ⟨_, rfl, h, CH, l.dx, _, _, rfl, p1.hs.ins, T.cl_House, T.na_House_row, hF_row, l.ro, _, rfl, .inl (SqL.of p1.hs.ro), _, _, rfl, rfl, _, rfl, ite2 (fun c4 => ?_) (fun c4 => ?_)⟩
      · have c5 := of_decide_eq_true c4
        rw [nats_length] at c5
        exact iteT (refuse pr p1 b1 q (no7 (.inl (by omega))))
      · have c5 : ¬ (8 : Int) ≤ ((nats m.row).length : Int) := fun z => c4 (decide_eq_true z)
        rw [nats_length] at c5
        refine ⟨_, rfl, h, l.dx, _, rfl, p1.hs.ins, hF_no (by decide +kernel), h, l, m, rfl, p1.hs, _, _, rfl, rfl, _, rfl, ite2 (fun c6 => ?_) (fun c6 => ?_)⟩
        · have c7 := of_decide_eq_true c6
          exact refuse pr p1 b1 q (no7 (.inr (by omega)))
        · have c7 : ¬ (20 : Int) ≤ (m.ppl.length : Int) := fun z => c6 (decide_eq_true z)
          rw [if_neg (fun z => by rcases of_decide_eq_true z with z | z <;> omega)] at hst
          obtain ⟨k, rfl, _, _⟩ := in_nat c' (by decide)
          rw [Bool.and_eq_true] at c3
          obtain ⟨e1, e2⟩ := rising_nats c3.2
          have hdn : H1 dl = some (.lst (nats (Vbkoaf.nats ls))) := by
            rw [hdl, nats_iV, ← e1]
          rw [Int.toNat_natCast] at hst
          have ndall : dl ∉ l.all h := fun z => by
            obtain ⟨o, ho⟩ := pr.hs.there dl z
            rw [ndl0] at ho; cases ho
          refine ⟨f, spNew CH F, rfl, if_pos rfl, _, rfl, _, rfl, _, rfl, h, dl, l, m, k, Vbkoaf.nats ls, rfl, p1.hs, pr.mo, hdn, ndall, by omega, (fun d hd => by have := e2 d hd; omega), by rw [Vbkoaf.nats, List.length_map]; exact hjl, by omega, by omega, fun H2 y po => ?_⟩
          obtain ⟨l', m', g1, g2, g3, g4⟩ := po.ex
          refine q H2 y ⟨⟨l', m', g1, g2, by rw [hst]; exact g3, fun b hb => ?_⟩, po.fr _ _ hr1' pr.rr, by rw [hst]; exact po.ans, (b1.fresh hr1' po.new).2, fun b o hb hnb => ?_⟩
          · rcases g4 b hb with z | z | z
            · exact .inl z
            · have : b = dl := by simpa using z
              exact .inr (this ▸ ndl0)
            · exact .inr (b1.fresh hr1' z).2
          · rw [List.mem_cons, not_or] at hnb
            exact po.fr _ _ (b1 _ _ hb hnb.1) hnb.2

/-! ### the calls that hand on -/
theorem hand_on {p : Int} {f : Addr} {vs : List V} {H : Hp} {R : VK} {E E' : XK} (h : spCallP K CH CR p vs H R E) : ∃ h r, vs = [.ref h, .ref r] ∧ spAbout K CH CR f p [.ref h, .ref r, .ref f] H R E' := by
  obtain ⟨h, r, dxr, a, l, m, ns, n, c, t, rfl, z⟩ := h
  exact ⟨h, r, rfl, h, r, rfl, h, r, dxr, a, l, m, ns, n, c, t, rfl, z⟩
theorem pure_call_leave (T : Txt K mg CG CH CR) {f : Addr} (vs : List V) (H : Hp) (R : VK) (E : XK) (h : spCallP K CH CR 4 vs H R E) : t_call_leave K CG CH CR (spAbout K CH CR f 4) f { nx := fun _ H' => R .non H', rt := R } (start ["house", "reader"] vs) H := by
  obtain ⟨h, r, rfl, z⟩ := hand_on (E' := E0) h
  exact ⟨_, rfl, _, rfl, z⟩
theorem pure_call_why (T : Txt K mg CG CH CR) {f : Addr} (vs : List V) (H : Hp) (R : VK) (E : XK) (h : spCallP K CH CR 9 vs H R E) : t_call_why K CG CH CR (spAbout K CH CR f 9) f { nx := fun _ H' => R .non H', rt := R } (start ["house", "reader"] vs) H := by
  obtain ⟨h, r, rfl, z⟩ := hand_on (E' := E0) h
  exact ⟨_, rfl, _, rfl, z⟩
theorem pure_call_lacking (T : Txt K mg CG CH CR) {f : Addr} (vs : List V) (H : Hp) (R : VK) (E : XK) (h : spCallP K CH CR 14 vs H R E) : t_call_lacking K CG CH CR (spAbout K CH CR f 14) f { nx := fun _ H' => R .non H', rt := R } (start ["house", "reader"] vs) H := by
  obtain ⟨h, r, rfl, z⟩ := hand_on (E' := E0) h
  exact ⟨_, rfl, _, rfl, z⟩
theorem pure_call_far (T : Txt K mg CG CH CR) {f : Addr} (vs : List V) (H : Hp) (R : VK) (E : XK) (h : spCallP K CH CR 15 vs H R E) : t_call_far K CG CH CR (spAbout K CH CR f 15) f { nx := fun _ H' => R .non H', rt := R } (start ["house", "reader"] vs) H := by
  obtain ⟨h, r, rfl, z⟩ := hand_on (E' := E0) h
  exact ⟨_, rfl, _, rfl, z⟩
theorem pure_call_apply (T : Txt K mg CG CH CR) {f : Addr} (vs : List V) (H : Hp) (R : VK) (E : XK) (h : spCallP K CH CR 3 vs H R E) : t_call_apply K CG CH CR (spAbout K CH CR f 3) f { nx := fun _ H' => R .non H', rt := R } (start ["house", "reader"] vs) H := by
  obtain ⟨h, r, rfl, z⟩ := hand_on (E' := E0) h
  exact ⟨_, rfl, _, rfl, z⟩
theorem pure_call_would (T : Txt K mg CG CH CR) {f : Addr} (vs : List V) (H : Hp) (R : VK) (E : XK) (h : spCallP K CH CR 13 vs H R E) : t_call_would K CG CH CR (spAbout K CH CR f 13) f { nx := fun _ H' => R .non H', rt := R } (start ["house", "reader"] vs) H := by
  obtain ⟨h, r, rfl, z⟩ := hand_on (E' := E0) h
  exact ⟨_, rfl, _, rfl, z⟩

/-! ### leave, apply -/
def fLeave (m : M) (p : Person) : State × List Int := ({ absS m with row := Vbkoaf.without (m.row.map (mP m)) p.id }, [Vbkoaf.whole (Vbkoaf.without (m.row.map (mP m)) p.id).length])
theorem pure_leave (T : Txt K mg CG CH CR) (vs : List V) (H : Hp) (R : VK) (E : XK) (h : spAbt CH fLeave vs H R E) : t_leave K CG CH CR { nx := fun _ H' => R .non H', rt := R } (start ["house", "applicant"] vs) H := by
  obtain ⟨h, l, m, k, rfl, hs, mo, c2, q⟩ := h
  have hst2 : fLeave m (mP m k) = (absS { m with row := m.row.filter fun z => z != k }, [((m.row.filter fun z => z != k).length : Int)]) := by
    show (({ absS m with row := Vbkoaf.without (m.row.map (mP m)) k } : State), [((Vbkoaf.without (m.row.map (mP m)) k).length : Int)]) = _
    rw [without_map, List.length_map]; rfl
  rw [hst2] at q
  obtain ⟨h1, h2⟩ := first_at c2
  have hro : H l.ro = some (.lst ((m.row.map fun (n : Nat) => (n : Int)).map V.int)) := by rw [List.map_map]; exact hs.ro
  refine ⟨_, rfl, h, CH, l.dx, _, _, rfl, hs.ins, T.cl_House, T.na_House_row, hF_row, .inl ⟨rfl, _, SqL.of hs.ro⟩, _, rfl, l.ro, _, (k : Int), _, rfl, rfl, hro, nat_at h1, fun i hi => nat_not (h2 i hi), ?_⟩
  rw [erase_map, erase_is mo.rn h1]
  have hs2 := hs.setRow (m.row.filter fun z => z != k)
  refine ⟨_, rfl, h, CH, l.dx, _, _, rfl, hs2.ins, T.cl_House, T.na_House_row, hF_row, l.ro, _, rfl, .inl (SqL.of hs2.ro), by show 1 ≤ sizeLine; decide, fun v nv => ?_⟩
  have s := same_upd (o := .lst [V.int ((nats (m.row.filter fun z => z != k)).length : Int)]) nv
  have nvp : v ≠ l.ro := fun e => by rw [e, upd_same] at nv; cases nv
  have nv1 : H v = none := by rw [upd_ne nvp] at nv; exact nv
  refine q _ v ⟨⟨l, _, hs2.same s, mok_row mo (List.Nodup.sublist List.filter_sublist mo.rn) (fun b hb => (List.mem_filter.mp hb).1), rfl, fun b hb => .inl hb⟩, ?_, nv1, fun b o hb hnb => ?_⟩
  · show (upd _ v (.lst [V.int ((nats (m.row.filter fun z => z != k)).length : Int)])) v = some (.lst [V.int ((m.row.filter fun z => z != k).length : Int)])
    rw [upd_same, nats_length]
  · have : b ≠ l.ro := fun e => hnb (by rw [e]; simp [Lay.all])
    refine s _ _ ?_
    rw [upd_ne this]
    exact hb
def fApply (m : M) (k : Nat) (days : List Nat) : State × List Int := (⟨m.ds, m.ppl.length + 1, m.row.map (mP m) ++ [⟨m.ppl.length, k, days⟩]⟩, [Vbkoaf.whole m.ppl.length])
theorem pure_apply (T : Txt K mg CG CH CR) (vs : List V) (H : Hp) (R : VK) (E : XK) (h : spNew CH fApply vs H R E) : t_apply K CG CH CR (spAdmit CH) { nx := fun _ H' => R .non H', rt := R } (start ["house", "kind", "days"] vs) H := by
  obtain ⟨h, dl, l, m, k, days, rfl, hs, mo, hd, nd, hk, hdd, hdl, h8, h20, q⟩ := h
  have hst2 : fApply m k days = (absS { m with ppl := m.ppl ++ [(k, days)], row := m.row ++ [m.ppl.length] }, [(m.ppl.length : Int)]) := by rw [abs_apply mo]; rfl
  rw [hst2] at q
  refine ⟨_, rfl, h, l.dx, _, rfl, hs.ins, hF_no (by decide +kernel), _, rfl, _, rfl, h, dl, l, m, k, days, rfl, hs, by omega, by omega, hd, nd, fun H2 hs2 f2 => ?_⟩
  refine ⟨by show 1 ≤ sizeLine; decide, fun v nv => ?_⟩
  have s := same_upd (o := .lst [V.int (m.ppl.length : Int)]) nv
  have f2 : Fr (l.all h) H H2 := fun b o hb hnb => f2 b o hb fun z => hnb (by
    simp only [List.mem_cons, List.not_mem_nil, or_false] at z
    rcases z with z | z | z <;> rw [z] <;> simp [Lay.all])
  have hall : ({ l with as := l.as ++ [dl] } : Lay).all h = l.all h ++ [dl] := by simp [Lay.all]
  have nv0 : H v = none := by
    cases e : H v with
    | none => rfl
    | some o =>
      exfalso
      by_cases y2 : v ∈ l.all h
      · obtain ⟨o2, ho2⟩ := hs2.there v (by rw [hall]; exact List.mem_append_left _ y2)
        rw [ho2] at nv; cases nv
      · rw [f2 _ _ e y2] at nv; cases nv
  refine q _ v ⟨⟨_, _, hs2.same s, mok_apply mo hk hdd hdl h8 h20, rfl, fun b hb => ?_⟩, upd_same, nv0, fun b o hb hnb => s _ _ (f2 _ _ hb hnb)⟩
  rw [hall] at hb
  rcases List.mem_append.mp hb with z | z
  · exact .inl z
  · exact .inr (.inl z)
end
end Vp
set_option Elab.async false
set_option linter.all false
set_option maxRecDepth 100000
set_option maxHeartbeats 1000000
/-! Rooms, crowds, the told crowd. -/
namespace Vp
open PySem PySem.Spec PyProof.Rows L2
open Vbkoaf (Person Day inside State)
open Vb (G Q keys)

theorem size_of {n : Nat} (h : n ≤ 100000) : n < sizeLine := Nat.lt_of_le_of_lt h (by decide)
theorem kindAny_more {P : Nat → Person} {A : List Nat} {a d k : Nat} : Vb.kindAny P (A ++ [a]) d k ↔ Vb.kindAny P A d k ∨ ((P a).kind = k ∧ d ∈ (P a).days) := by
  constructor
  · rintro ⟨b, hb, h⟩
    rcases List.mem_append.mp hb with z | z
    · exact .inl ⟨b, z, h⟩
    · have : b = a := by simpa using z
      exact .inr (this ▸ h)
  · rintro (⟨b, hb, h⟩ | h)
    · exact ⟨b, List.mem_append_left _ hb, h⟩
    · exact ⟨a, List.mem_append_right _ (List.mem_cons_self ..), h⟩
theorem cast_sum : ∀ (l : List Nat), (l.map fun (n : Nat) => (n : Int)).sum = ((l.sum : Nat) : Int)
  | [] => rfl
  | a :: l => by rw [List.map_cons, List.sum_cons, List.sum_cons, cast_sum l]; omega
theorem dp_ints {K : PySem.W.Frag} {H : Hp} : ∀ (ns : List Int), DpAll K H (iV ns) (ns.map PyData.int)
  | [] => .nil
  | n :: ns => .cons (.int n) (dp_ints ns)
theorem eqv_ints : ∀ (ns ms : List Int), PyData.eqvAll (ns.map PyData.int) (ms.map PyData.int) = decide (ns = ms)
  | [], [] => by simp [PyData.eqvAll]
  | [], _ :: _ => by simp [PyData.eqvAll]
  | _ :: _, [] => by simp [PyData.eqvAll]
  | n :: r, k :: q => by
    simp only [List.map_cons, PyData.eqvAll, PyData.eqv, eqv_ints r q]
    by_cases h : n = k <;> simp [h]
theorem eqD_ints {K : PySem.W.Frag} {H : Hp} {a b : Addr} {ns ms : List Int} {Q : VK} (ha : SqL K H a (iV ns)) (hb : SqL K H b (iV ms)) (q : Q (.bl (decide (ns = ms))) H) : rEqD K (.ref a) (.ref b) H Q := by
  refine ⟨.list (ns.map .int), .list (ms.map .int), .lst ha (dp_ints ns), .lst hb (dp_ints ms), PySem.W.shaped_ints ns, PySem.W.shaped_ints ms, ?_⟩
  have e : PyData.eqv (.list (ns.map .int)) (.list (ms.map .int)) = decide (ns = ms) := by
    simp only [PyData.eqv]; exact eqv_ints ns ms
  rw [e]; exact q

section
variable {K : PySem.W.Frag} {mg : Str → Option Value} {CG CH CR : Addr}
/-! ### kinds_on_day -/
def spKinds (K : PySem.W.Frag) (CH : Addr) : Sp := fun vs H R _ => ∃ (h ap : Addr) (l : Lay) (m : M) (A : List Nat) (d : Nat), vs = [.ref h, .ref ap, .int (d : Int)] ∧ HouseAt CH H h l m ∧ SqL K H ap (nats A) ∧ (∀ a ∈ A, a < m.ppl.length) ∧ A.length ≤ 1000 ∧
  ∀ H' p ks, Same H H' → H p = none → H' p = some (.lst (nats ks)) → ks.Nodup → (∀ k, k ∈ ks ↔ Vb.kindAny (mP m) A d k) → R (.ref p) H'
theorem pure_kinds (T : Txt K mg CG CH CR) (vs : List V) (H : Hp) (R : VK) (E : XK) (h : spKinds K CH vs H R E) : t_kinds_on_day K CG CH CR { nx := fun _ H' => R .non H', rt := R } (start ["house", "applicants", "day", "kinds", "applicant", "kind"] vs) H := by
  obtain ⟨h, ap, l, m, A, d, rfl, hs, hA, lt, few, q⟩ := h
  refine ⟨Nat.zero_le _, fun p np => ?_⟩
  have s1 := same_upd (o := .lst []) np
  refine ⟨_, rfl, ap, rfl, ⟨_, s1.seq hA⟩, ?_⟩
  refine for_list (K := K) (a := ap) (xs := nats A) (fun i σ H' => ∃ (v4 v5 : Option V) (ks : List Nat), σ = [some (.ref h), some (.ref ap), some (.int (d : Int)), some (.ref p), v4, v5] ∧ Same H H' ∧ H' p = some (.lst (nats ks)) ∧ ks.Nodup ∧ ks.length ≤ i ∧ ∀ k, k ∈ ks ↔ Vb.kindAny (mP m) (A.take i) d k)
    ⟨none, none, [], rfl, s1, upd_same, List.nodup_nil, Nat.zero_le _, fun k => by simp [Vb.kindAny]⟩ (fun i σ H' _ ⟨_, _, _, _, s, _⟩ => s.seq hA) ?_ ?_
  · rintro i y σ H' hy ⟨v4, v5, ks, rfl, s, hp, nd, hl, hk⟩
    obtain ⟨a, ha, rfl⟩ := of_nats hy
    have hi : i < A.length := (List.getElem?_eq_some_iff.mp ha).1
    have haP := lt a (List.mem_of_getElem? ha)
    have hs' := hs.same s
    obtain ⟨h1, h2⟩ := as_get hs' haP
    have hmore : ∀ k, Vb.kindAny (mP m) (A.take (i + 1)) d k ↔ Vb.kindAny (mP m) (A.take i) d k ∨ (kindAt m a = k ∧ d ∈ daysAt m a) := fun k => by
      rw [take_more ha]; exact kindAny_more
    refine ⟨_, rfl, h, CH, l.dx, _, _, rfl, hs'.ins, T.cl_House, T.na_House_kind_of, hF_kind_of, _, rfl, l.ki, _, _, _, rfl, rfl, SqL.of hs'.ki, atI_nat (nats_some (kind_get haP)), ?_⟩
    refine ⟨_, rfl, _, rfl, h, CH, l.dx, _, _, rfl, hs'.ins, T.cl_House, T.na_House_days_of, hF_days_of, _, rfl, l.da, _, _, _, rfl, rfl, SqL.of hs'.da, atI_nat (refs_some h1), l.as.getD a 0, _, rfl, .inl (SqL.of h2), rfl, flat_nats _, _, rfl, ite2 (fun c1 => ?_) (fun c1 => ?_)⟩
    · have c1' : d ∈ daysAt m a := by
        have : inV (.int (d : Int)) (nats (daysAt m a)) = true := c1
        rw [inV_nats] at this
        exact of_decide_eq_true this
      refine ⟨_, rfl, _, rfl, p, _, rfl, .inl (SqL.of hp), rfl, flat_nats _, _, rfl, ite2 (fun c2 => ?_) (fun c2 => ?_)⟩
      · have c2' : kindAt m a ∉ ks := fun z => by
          have : (!inV (.int (kindAt m a : Int)) (nats ks)) = true := c2
          rw [inV_nats, decide_eq_true z] at this; cases this
        refine ⟨_, rfl, .inl ⟨rfl, _, SqL.of hp⟩, _, rfl, p, _, _, rfl, rfl, hp, by rw [nats_length]; exact small1000 (by omega), ?_⟩
        refine ⟨_, _, ks ++ [kindAt m a], rfl, fun b o hb => ?_, ?_, ?_, by simp; omega, fun k => ?_⟩
        · rw [upd_ne (ne_of_none hb np)]; exact s _ _ hb
        · rw [upd_same, nats_append]; rfl
        · rw [List.nodup_append]
          exact ⟨nd, by simp, fun b hb c hc e => c2' (by
            have : c = kindAt m a := by simpa using hc
            rw [← this, ← e]; exact hb)⟩
        · rw [hmore, List.mem_append, hk]
          constructor
          · rintro (z | z)
            · exact .inl z
            · have : k = kindAt m a := by simpa using z
              exact .inr ⟨this.symm, c1'⟩
          · rintro (z | z)
            · exact .inl z
            · exact .inr (by rw [z.1]; exact List.mem_cons_self ..)
      · have c2' : kindAt m a ∈ ks := by
          by_cases z : kindAt m a ∈ ks
          · exact z
          · exact absurd (show (!inV (.int (kindAt m a : Int)) (nats ks)) = true by rw [inV_nats, decide_eq_false z]; rfl) c2
        refine ⟨_, _, ks, rfl, s, hp, nd, by omega, fun k => ?_⟩
        rw [hmore]
        constructor
        · intro z; exact .inl ((hk k).mp z)
        · rintro (z | z)
          · exact (hk k).mpr z
          · rw [← z.1]; exact c2'
    · have c1' : ¬ d ∈ daysAt m a := fun z => c1 (by
        show inV (.int (d : Int)) (nats (daysAt m a)) = true
        rw [inV_nats]; exact decide_eq_true z)
      refine iteF ⟨_, _, ks, rfl, s, hp, nd, by omega, fun k => ?_⟩
      rw [hmore, hk]
      exact ⟨.inl, fun z => z.elim id fun y => absurd y.2 c1'⟩
  · rintro σ H' ⟨v4, v5, ks, rfl, s, hp, nd, hl, hk⟩
    have e0 : A.take (nats A).length = A := by rw [nats_length, List.take_length]
    rw [e0] at hk
    exact ⟨_, rfl, q H' p ks s np hp nd hk⟩

/-! ### room_by_day -/
def spRooms (K : PySem.W.Frag) (CH : Addr) : Sp := fun vs H R _ => ∃ (h ap : Addr) (l : Lay) (m : M) (A : List Nat), vs = [.ref h, .ref ap] ∧ HouseAt CH H h l m ∧ MWf m ∧ SqL K H ap (nats A) ∧ (∀ a ∈ A, a < m.ppl.length) ∧ A.length ≤ 1000 ∧
  ∀ H' p, Same H H' → H p = none → H' p = some (.lst (nats (Vbkoaf.roomsOf m.ds (A.map (mP m))))) → R (.ref p) H'
theorem pure_rooms (T : Txt K mg CG CH CR) (vs : List V) (H : Hp) (R : VK) (E : XK) (h : spRooms K CH vs H R E) : t_room_by_day K CG CH CR (spKinds K CH) { nx := fun _ H' => R .non H', rt := R } (start ["house", "applicants", "rooms", "day", "quotas", "kind"] vs) H := by
  obtain ⟨h, ap, l, m, A, rfl, hs, mw, hA, lt, few, q⟩ := h
  rw [Vb.roomsOf_is] at q
  refine ⟨Nat.zero_le _, fun p np => ?_⟩
  have s1 := same_upd (o := .lst []) np
  have hdn := mw.dn
  refine ⟨_, rfl, h, CH, l.dx, _, _, rfl, (hs.same s1).ins, T.cl_House, T.na_House_day_count, hF_day_count, (m.ds.length : Int), rfl, by omega, by omega, ?_⟩
  rw [Int.toNat_natCast]
  refine for_range (lo := 0) (n := m.ds.length) (fun i σ H' => ∃ (v3 v4 v5 : Option V), σ = [some (.ref h), some (.ref ap), some (.ref p), v3, v4, v5] ∧ Same H H' ∧ H' p = some (.lst (nats ((List.range i).map (Vb.roomD m.ds (A.map (mP m)))))))
    ⟨none, none, none, rfl, s1, upd_same⟩ ?_ ?_
  · rintro i σ H' hi ⟨v3, v4, v5, rfl, s, hp⟩
    rw [Int.zero_add]
    have hs' := hs.same s
    refine ⟨_, rfl, _, rfl, _, rfl, h, ap, l, m, A, i, rfl, hs', s.seq hA, lt, few, fun H1 kp ks t1 nkp hkp nd hks => ?_⟩
    have hks4 : ∀ k ∈ ks, k < 4 := fun k hk => by
      obtain ⟨a, ha, e, _⟩ := (hks k).mp hk
      rw [← e]; exact mw.kind (lt a ha)
    have hkl : ks.length ≤ 4 := by
      have := Vb.nodup_length nd (m := List.range 4) fun k hk => List.mem_range.mpr (hks4 k hk)
      simpa using this
    refine ⟨kp, rfl, ⟨_, SqL.of hkp⟩, fun D hD => ?_⟩
    refine lc_list (K := K) (a := kp) (xs := nats ks) (fun j H2 => Same H1 H2 ∧ H2 D = some (.lst (nats ((ks.take j).map (Vb.quotaOf m.ds i))))) ⟨same_upd hD, upd_same⟩ (fun j H2 _ z => z.1.seq (SqL.of hkp)) ?_ ?_
    · rintro j x H2 hx ⟨t2, hD2⟩
      obtain ⟨k, hk, rfl⟩ := of_nats hx
      have hs2 := hs'.same (t1.trans t2)
      obtain ⟨y, g1, g2, g3⟩ := quota_get mw hi (hks4 k (List.mem_of_getElem? hk))
      obtain ⟨qa, hqa, hq⟩ := hs2.qs.get g2
      refine ⟨rfl, yes_if ?_⟩
      refine ⟨_, rfl, h, CH, l.dx, _, _, rfl, hs2.ins, T.cl_House, T.na_House_quotas, hF_quotas, _, rfl, l.qu, _, _, _, rfl, rfl, SqL.of hs2.qu, atI_nat (refs_some hqa), _, rfl, qa, _, _, _, rfl, rfl, SqL.of hq, atI_nat (nats_some g3), ?_⟩
      refine ⟨_, hD2, ?_, fun b o hb => ?_, ?_⟩
      · rw [nats_length, List.length_map]
        have := (List.take_sublist j ks).length_le
        exact small1000 (by omega)
      · rw [upd_ne (ne_of_none hb hD)]; exact t2 _ _ hb
      · rw [upd_same, take_more hk, List.map_append, nats_append]; rfl
    · rintro H2 ⟨t2, hD2⟩
      have e0 : ks.take (nats ks).length = ks := by rw [nats_length, List.take_length]
      rw [e0] at hD2
      have s2 := s.trans (t1.trans t2)
      have hs2 := hs.same s2
      have hp2 := (t1.trans t2) _ _ hp
      have hDs : SqL K H2 D (((ks.map (Vb.quotaOf m.ds i)).map fun (n : Nat) => (n : Int)).map V.int) := by
        rw [List.map_map]; exact SqL.of hD2
      refine ⟨_, rfl, .inl ⟨rfl, _, SqL.of hp2⟩, _, rfl, h, CH, l.dx, _, _, rfl, hs2.ins, T.cl_House, T.na_House_places, hF_places, _, rfl, l.pl, _, _, _, rfl, rfl, SqL.of hs2.pl, atI_nat (nats_some (places_get hi)), _, rfl, D, _, rfl, hDs, _, _, rfl, p, _, _, rfl, rfl, hp2, by rw [nats_length, List.length_map, List.length_range]; exact small1000 (by omega), ?_⟩
      refine ⟨_, _, _, rfl, fun b o hb => ?_, ?_⟩
      · rw [upd_ne (ne_of_none hb np)]; exact s2 _ _ hb
      · have hy : m.ds[i]? = some m.ds[i] := List.getElem?_eq_getElem hi
        have er : Vb.roomD m.ds (A.map (mP m)) i = min (Vb.placesOf m.ds i) ((ks.map (Vb.quotaOf m.ds i)).sum) := by
          rw [Vb.roomD_once hy nd hks4 hks, Vb.placesOf_some hy]
          congr 2
          exact List.map_congr_left fun k _ => (Vb.quotaOf_some hy).symm
        rw [upd_same, List.range_succ, List.map_append, nats_append, List.map_cons, List.map_nil, er, cast_sum]
        congr 3
        show [V.int _] = [V.int _]
        congr 2
        split <;> omega
  · rintro σ H' ⟨v3, v4, v5, rfl, s, hp⟩
    exact ⟨_, rfl, q H' p s np hp⟩

/-! ### is_crowd -/
def spIsCrowd (K : PySem.W.Frag) (CH : Addr) : Sp := fun vs H R _ => ∃ (h ap : Addr) (l : Lay) (m : M) (A : List Nat), vs = [.ref h, .ref ap] ∧ HouseAt CH H h l m ∧ MWf m ∧ SqL K H ap (nats A) ∧ (∀ a ∈ A, a < m.ppl.length) ∧ A.length ≤ 1000 ∧
  ∀ H', Same H H' → R (.bl (Vbkoaf.isCrowd m.ds (A.map (mP m)))) H'
theorem pure_is_crowd (T : Txt K mg CG CH CR) (vs : List V) (H : Hp) (R : VK) (E : XK) (h : spIsCrowd K CH vs H R E) : t_is_crowd K CG CH CR (spRooms K CH) { nx := fun _ H' => R .non H', rt := R } (start ["house", "applicants"] vs) H := by
  obtain ⟨h, ap, l, m, A, rfl, hs, mw, hA, lt, few, q⟩ := h
  refine ⟨_, rfl, ap, _, rfl, .inl hA, _, rfl, _, rfl, h, ap, l, m, A, rfl, hs, mw, hA, lt, few, fun H1 p s1 np hp => ?_⟩
  have hps : SqL K H1 p (((Vbkoaf.roomsOf m.ds (A.map (mP m))).map fun (n : Nat) => (n : Int)).map V.int) := by
    rw [List.map_map]; exact SqL.of hp
  refine ⟨p, _, rfl, hps, _, _, rfl, rfl, ?_⟩
  refine vq (Q := R) ?_ (q H1 s1)
  rw [Vbkoaf.isCrowd, cast_sum, nats_length, Vbkoaf.room, Vb.sum_is, List.length_map]
  exact decide_eq_decide.mpr (by omega)

/-! ### with_one_more -/
theorem last_nats {s : List Nat} {z : Nat} (h : s.getLast? = some z) : atI (nats s) (-1) = some (.int (z : Int)) := by
  have hne : s ≠ [] := fun e => by rw [e] at h; cases h
  have e1 : s = s.dropLast ++ [z] := by
    have := List.dropLast_concat_getLast hne
    rw [List.getLast?_eq_some_getLast hne] at h
    rw [← Option.some.inj h]; exact this.symm
  rw [e1, nats_append]
  exact atI_last _ _
theorem Lists.more {H : Hp} {as : List Addr} {ls : List (List Nat)} {w : Addr} {s : List Nat} (h : Lists H as ls) (hw : H w = some (.lst (nats s))) : Lists H (as ++ [w]) (ls ++ [s]) := by
  refine ⟨by simp [h.len], fun i a l h1 h2 => ?_⟩
  by_cases c : i < as.length
  · rw [List.getElem?_append_left c] at h1
    rw [List.getElem?_append_left (by rw [← h.len]; exact c)] at h2
    exact h.at_ i a l h1 h2
  · rw [List.getElem?_append_right (by omega)] at h1
    rw [List.getElem?_append_right (by rw [← h.len]; omega), ← h.len] at h2
    have e : i - as.length = 0 := by
      have := (List.getElem?_eq_some_iff.mp h1).1
      simp at this
      omega
    rw [e] at h1 h2
    cases h1; cases h2
    exact hw
def spMore (K : PySem.W.Frag) : Sp := fun vs H R _ => ∃ (pa ap : Addr) (as : List Addr) (ls : List (List Nat)) (l : List Nat), vs = [.ref pa, .ref ap] ∧ SqL K H pa (as.map V.ref) ∧ Lists H as ls ∧ SqL K H ap (nats l) ∧ l.length ≤ 20 ∧ ls.length ≤ 1000 ∧ (∀ s ∈ ls, s.length ≤ 100) ∧
  ∀ H' p bs, Same H H' → H p = none → H' p = some (.lst (bs.map V.ref)) → Lists H' bs (ls.flatMap (Vb.extB l)) → (∀ b ∈ bs, H b = none) → R (.ref p) H'
theorem ext_len {l s : List Nat} : (Vb.extB l s).length ≤ l.length := by
  rw [Vb.extB, List.length_map]; exact List.length_filter_le ..
theorem flat_len {l : List Nat} : ∀ {ls : List (List Nat)}, (ls.flatMap (Vb.extB l)).length ≤ ls.length * l.length
  | [] => Nat.zero_le _
  | s :: ls => by
    rw [List.flatMap_cons, List.length_append, List.length_cons, Nat.succ_mul]
    have := ext_len (l := l) (s := s)
    have := flat_len (l := l) (ls := ls)
    omega
theorem pure_more (vs : List V) (H : Hp) (R : VK) (E : XK) (h : spMore K vs H R E) : t_with_one_more K CG CH CR { nx := fun _ H' => R .non H', rt := R } (start ["parts", "applicants", "longer", "part", "applicant"] vs) H := by
  obtain ⟨pa, ap, as, ls, l, rfl, hpa, hls, hap, hl, hll, hsl, q⟩ := h
  refine ⟨Nat.zero_le _, fun p np => ?_⟩
  have s1 := same_upd (o := .lst []) np
  refine ⟨_, rfl, pa, rfl, ⟨_, s1.seq hpa⟩, ?_⟩
  refine for_list (K := K) (a := pa) (xs := as.map V.ref) (fun i σ H' => ∃ (v3 v4 : Option V) (bs : List Addr), σ = [some (.ref pa), some (.ref ap), some (.ref p), v3, v4] ∧ Same H H' ∧ H' p = some (.lst (bs.map V.ref)) ∧ Lists H' bs ((ls.take i).flatMap (Vb.extB l)) ∧ ∀ b ∈ bs, H b = none)
    ⟨none, none, [], rfl, s1, upd_same, ⟨rfl, fun i a l h1 => by cases h1⟩, fun b hb => by cases hb⟩ (fun i σ H' _ ⟨_, _, _, _, s, _⟩ => s.seq hpa) ?_ ?_
  · rintro i y σ H' hy ⟨v3, v4, bs, rfl, s, hp, hb, hn⟩
    rw [List.getElem?_map] at hy
    cases e : as[i]? with
    | none => rw [e] at hy; cases hy
    | some pp =>
      rw [e] at hy
      cases hy
      have hi : i < as.length := (List.getElem?_eq_some_iff.mp e).1
      have hi2 : i < ls.length := by rw [← hls.len]; exact hi
      have hst : ls[i]? = some ls[i] := List.getElem?_eq_getElem hi2
      have hpart := hls.at_ i pp _ e hst
      have hs100 := hsl ls[i] (List.getElem_mem hi2)
      generalize ls[i] = part at hst hpart hs100
      have hbase : ((ls.take i).flatMap (Vb.extB l)).length ≤ 20000 := by
        have := flat_len (l := l) (ls := ls.take i)
        have h2 : (ls.take i).length ≤ 1000 := by rw [List.length_take]; omega
        have := Nat.mul_le_mul h2 hl
        omega
      refine ⟨_, rfl, ap, rfl, ⟨_, s.seq hap⟩, ?_⟩
      refine for_list (K := K) (a := ap) (xs := nats l) (fun j σ H' => ∃ (v4 : Option V) (bs : List Addr), σ = [some (.ref pa), some (.ref ap), some (.ref p), some (.ref pp), v4] ∧ Same H H' ∧ H' p = some (.lst (bs.map V.ref)) ∧ Lists H' bs ((ls.take i).flatMap (Vb.extB l) ++ Vb.extB (l.take j) part) ∧ ∀ b ∈ bs, H b = none)
        ⟨v4, bs, rfl, s, hp, by rw [List.take_zero]; simpa [Vb.extB] using hb, hn⟩ (fun j σ H' _ ⟨_, _, _, s, _⟩ => s.seq hap) ?_ ?_
      · rintro j y σ H' hy ⟨v4, bs, rfl, s, hp, hb, hn⟩
        obtain ⟨a, ha, rfl⟩ := of_nats hy
        have hext : Vb.extB (l.take (j + 1)) part = Vb.extB (l.take j) part ++ (if Vb.okB part a = true then [part ++ [a]] else []) := by
          rw [take_more ha, Vb.extB, Vb.extB, List.filter_append, List.map_append, List.filter_cons]
          congr 1
          split <;> rfl
        have hpart' := s _ _ hpart
        have hbl : bs.length ≤ 20020 := by
          have := hb.len
          rw [List.length_append] at this
          have h2 := ext_len (l := l.take j) (s := part)
          have : (l.take j).length ≤ 20 := by rw [List.length_take]; omega
          omega
        refine ⟨_, rfl, Nat.zero_le _, fun z nz => ?_⟩
        have t1 := same_upd (o := .lst []) nz
        have hpI : SqL K (upd H' z (.lst [])) pp (iV (part.map fun (n : Nat) => (n : Int))) := by rw [← nats_iV]; exact SqL.of (t1 _ _ hpart')
        have hzI : SqL K (upd H' z (.lst [])) z (iV []) := SqL.of upd_same
        refine eqD_ints hpI hzI ⟨_, rfl, ?_⟩
        have yes : Vb.okB part a = true → tDrop (tBM K "list" rAppend (tVar 2) (tCons (tOp rCat (tVar 3) (tLst (tCons (tVar 4) tNil))) tNil)) { nx := fun σ H' => ∃ (v4 : Option V) (bs : List Addr), σ = [some (.ref pa), some (.ref ap), some (.ref p), some (.ref pp), v4] ∧ Same H H' ∧ H' p = some (.lst (bs.map V.ref)) ∧ Lists H' bs ((ls.take i).flatMap (Vb.extB l) ++ Vb.extB (l.take (j + 1)) part) ∧ ∀ b ∈ bs, H b = none, rt := R } [some (.ref pa), some (.ref ap), some (.ref p), some (.ref pp), some (.int (a : Int))] (upd H' z (.lst [])) := fun ok => by
          have hp1 := t1 _ _ hp
          refine ⟨_, rfl, .inl ⟨rfl, _, SqL.of hp1⟩, _, rfl, _, rfl, by show 1 ≤ sizeLine; decide, fun y ny => ?_⟩
          have t2 := same_upd (o := .lst [V.int (a : Int)]) ny
          refine ⟨pp, y, _, _, rfl, rfl, t2 _ _ (t1 _ _ hpart'), upd_same, by rw [nats_length]; exact Nat.le_of_lt (size_of (show part.length + 1 ≤ 100000 by omega)), fun w nw => ?_⟩
          have t3 := same_upd (o := .lst (nats part ++ [V.int (a : Int)])) nw
          have t := (t1.trans t2).trans t3
          have nw0 : H w = none := s.free ((t1.trans t2).free nw)
          have npw : w ≠ p := fun e => by rw [e, (t1.trans t2) _ _ hp] at nw; cases nw
          refine ⟨p, _, _, rfl, rfl, t _ _ hp, by rw [List.length_map]; exact size_of (by omega), ?_⟩
          refine ⟨_, bs ++ [w], rfl, fun b o hb => ?_, by rw [upd_same, List.map_append]; rfl, ?_, fun b hb' => ?_⟩
          · rw [upd_ne (ne_of_none hb np)]; exact t _ _ (s _ _ hb)
          · rw [hext, if_pos ok, ← List.append_assoc]
            have hb2 : Lists (upd (upd (upd (upd H' z (.lst [])) y (.lst [V.int (a : Int)])) w (.lst (nats part ++ [V.int (a : Int)]))) p (.lst (bs.map V.ref ++ [V.ref w]))) bs ((ls.take i).flatMap (Vb.extB l) ++ Vb.extB (l.take j) part) := (hb.same t).upd fun b hb' e => by
              subst e
              rw [hn p hb'] at np
              have : H' p = some (.lst (bs.map V.ref)) := hp
              -- p is a list of addresses and of numbers at once: it was made first
              obtain ⟨ix, hix⟩ := List.mem_iff_getElem?.mp hb'
              have hlt : ix < bs.length := (List.getElem?_eq_some_iff.mp hix).1
              rw [hb.len] at hlt
              have hat := hb.at_ ix p _ hix (List.getElem?_eq_getElem hlt)
              rw [hp] at hat
              have hat := HO.lst.inj (Option.some.inj hat)
              have h0 : (bs.map V.ref)[ix]? = some (.ref p) := by rw [List.getElem?_map, hix]; rfl
              rw [hat] at h0
              obtain ⟨_, _, h0⟩ := of_nats h0
              cases h0
            refine hb2.more ?_
            rw [upd_ne npw, upd_same, nats_append]; rfl
          · rcases List.mem_append.mp hb' with z | z
            · exact hn b z
            · have : b = w := by simpa using z
              rw [this]; exact nw0
        have no : Vb.okB part a = false → ∃ (v4 : Option V) (bs : List Addr), [some (.ref pa), some (.ref ap), some (.ref p), some (.ref pp), some (.int (a : Int))] = [some (.ref pa), some (.ref ap), some (.ref p), some (.ref pp), v4] ∧ Same H (upd H' z (.lst [])) ∧ (upd H' z (.lst [])) p = some (.lst (bs.map V.ref)) ∧ Lists (upd H' z (.lst [])) bs ((ls.take i).flatMap (Vb.extB l) ++ Vb.extB (l.take (j + 1)) part) ∧ ∀ b ∈ bs, H b = none := fun ok => by
          refine ⟨_, bs, rfl, s.trans t1, t1 _ _ hp, ?_, hn⟩
          rw [hext, ok]
          simpa using hb.same t1
        refine ite2 (fun c => ?_) (fun c => ?_)
        · refine iteT (yes ?_)
          have c' : part.map (fun (n : Nat) => (n : Int)) = [] := of_decide_eq_true c
          have : part = [] := by simpa using c'
          subst this; rfl
        · have c' : part ≠ [] := fun z => c (by subst z; rfl)
          obtain ⟨z', hz'⟩ : ∃ z', part.getLast? = some z' := ⟨_, List.getLast?_eq_some_getLast c'⟩
          have hok : Vb.okB part a = decide (z' < a) := by rw [Vb.okB, hz']
          refine ⟨_, rfl, _, rfl, _, rfl, pp, _, _, .int (z' : Int), rfl, rfl, SqL.of (t1 _ _ hpart'), last_nats hz', _, _, rfl, rfl, _, rfl, ite2 (fun c2 => ?_) (fun c2 => ?_)⟩
          · refine yes ?_
            have := of_decide_eq_true c2
            rw [hok]; exact decide_eq_true (by omega)
          · refine no ?_
            have c3 : ¬ ((z' : Int) < (a : Int)) := fun z => c2 (decide_eq_true z)
            rw [hok]; exact decide_eq_false (by omega)
      · rintro σ H' ⟨v4, bs, rfl, s, hp, hb, hn⟩
        refine ⟨_, _, bs, rfl, s, hp, ?_, hn⟩
        rw [nats_length, List.take_length] at hb
        rw [take_more hst, List.flatMap_append]
        simpa using hb
  · rintro σ H' ⟨v3, v4, bs, rfl, s, hp, hb, hn⟩
    have e0 : ls.take (as.map V.ref).length = ls := by rw [List.length_map, hls.len, List.take_length]
    rw [e0] at hb
    exact ⟨_, rfl, q H' p bs s np hp hb hn⟩
end
end Vp
set_option Elab.async false
set_option linter.all false
set_option maxRecDepth 100000
set_option maxHeartbeats 1000000
/-! The told crowd; why, can, room. -/
namespace Vp
open PySem PySem.Spec PyProof.Rows L2
open Vbkoaf (Person Day inside State)
open Vb (G Q keys)

theorem choose_len : ∀ (l : List Nat) (k : Nat), (Vbkoaf.choose k l).length ≤ 2 ^ l.length
  | l, 0 => by rw [Vb.choose_zero]; exact Nat.one_le_two_pow
  | [], k + 1 => by rw [Vbkoaf.choose]; exact Nat.zero_le _
  | x :: l, k + 1 => by
    rw [Vbkoaf.choose, List.length_append, List.length_map, List.length_cons, Nat.pow_succ]
    have := choose_len l k
    have := choose_len l (k + 1)
    omega
theorem choose_ne {l : List Nat} {k : Nat} (h : k ≤ l.length) : 0 < (Vbkoaf.choose k l).length :=
  List.length_pos_of_mem (Vb.mem_choose.mpr ⟨List.take_sublist k l, by rw [List.length_take]; omega⟩)
theorem find_atL {α : Type} {p : α → Bool} {e : α} : ∀ {l : List α} {i : Nat} {d : α}, l.find? p = some d → l[i]? = some e → p e = true → (∀ j b, j < i → l[j]? = some b → p b = false) → e = d
  | [], i, d, h, _, _, _ => by cases h
  | b :: l, 0, d, h, he, hp, _ => by
    have : b = e := by simpa using he
    subst this
    rw [List.find?_cons, hp] at h
    exact Option.some.inj h
  | b :: l, i + 1, d, h, he, hp, hn => by
    have hb := hn 0 b (by omega) rfl
    rw [List.find?_cons, hb] at h
    exact find_atL (l := l) (i := i) h (by simpa using he) hp fun j c hj hc => hn (j + 1) c (by omega) (by simpa using hc)
theorem sorted_of {A : List Nat} {ns : List Int} (nd : A.Nodup) (lt : ∀ a ∈ A, a < 20) (hp : ns.Perm (A.map fun (n : Nat) => (n : Int))) (hs : ns.Pairwise (· ≤ ·)) : ns.map V.int = nats (Vb.sorted A) := by
  have e1 : (ns.map Int.toNat).map (fun (n : Nat) => (n : Int)) = ns := by
    rw [List.map_map]
    refine (List.map_congr_left fun x hx => ?_).trans (List.map_id ns)
    obtain ⟨n, _, rfl⟩ := List.mem_map.mp (hp.subset hx)
    simp
  have p1 : (ns.map Int.toNat).Perm A := by
    have := hp.map Int.toNat
    rw [List.map_map] at this
    have e2 : A.map (Int.toNat ∘ fun (n : Nat) => (n : Int)) = A := (List.map_congr_left fun x _ => by simp).trans (List.map_id A)
    rwa [e2] at this
  have up : (ns.map Int.toNat).Pairwise (· ≤ ·) := List.Pairwise.map _ (fun a b h => Int.toNat_le_toNat h) hs
  have e2 := Vb.up_eq Vb.sorted_up up ((Vb.sorted_perm nd lt).trans p1.symm)
  conv => lhs; rw [← e1]
  rw [← e2, nats, List.map_map]; rfl
theorem cut_to {xs : List V} {j : Nat} (h : j ≤ xs.length) : cutV xs none (some (j : Int)) = xs.take j := by
  unfold cutV
  rw [HT.sIx_none, HT.sIx_nat, Nat.min_eq_left h, List.drop_zero, Nat.sub_zero]
theorem cut_from {xs : List V} {j : Nat} (h : j ≤ xs.length) : cutV xs (some (j : Int)) none = xs.drop j := by
  unfold cutV
  rw [HT.sIx_none, HT.sIx_nat, Nat.min_eq_left h]
  exact List.take_of_length_le (by rw [List.length_drop]; exact Nat.le_refl _)
theorem nats_take {l : List Nat} {i : Nat} : (nats l).take i = nats (l.take i) := List.map_take.symm
theorem nats_drop {l : List Nat} {i : Nat} : (nats l).drop i = nats (l.drop i) := List.map_drop.symm

section
variable {K : PySem.W.Frag} {mg : Str → Option Value} {CG CH CR : Addr}
/-! ### told_crowd -/
def spCrowd (K : PySem.W.Frag) (CH : Addr) : Sp := fun vs H R _ => ∃ (h ap : Addr) (l : Lay) (m : M) (A c : List Nat), vs = [.ref h, .ref ap] ∧ HouseAt CH H h l m ∧ MWf m ∧ SqL K H ap (nats A) ∧ A.Nodup ∧ (∀ a ∈ A, a < m.ppl.length) ∧ A.length ≤ 8 ∧ Vb.crowdN m.ds (mP m) (Vb.sorted A) = some c ∧
  ∀ H' p, Same H H' → H p = none → H' p = some (.lst (nats c)) → c.length ≤ 8 → R (.ref p) H'
theorem pure_crowd (T : Txt K mg CG CH CR) (vs : List V) (H : Hp) (R : VK) (E : XK) (h : spCrowd K CH vs H R E) : t_told_crowd K CG CH CR (spIsCrowd K CH) (spMore K) { nx := fun _ H' => R .non H', rt := R } (start ["house", "applicants", "rising", "parts", "part"] vs) H := by
  obtain ⟨h, ap, l, m, A, c, rfl, hs, mw, hA, nd, lt, h8, hc, q⟩ := h
  have lt20 : ∀ a ∈ A, a < 20 := fun a ha => Nat.lt_of_lt_of_le (lt a ha) mw.pn
  obtain ⟨k0, hk0, hfind, hbefore⟩ := Vb.some_range hc
  have hrl : (Vb.sorted A).length = A.length := (Vb.sorted_perm nd lt20).length_eq
  have hmem : ∀ a ∈ Vb.sorted A, a < m.ppl.length := fun a ha => lt a ((Vb.mem_sorted lt20).mp ha)
  have hAs : SqL K H ap ((A.map fun (n : Nat) => (n : Int)).map V.int) := by rw [List.map_map]; exact hA
  refine ⟨_, rfl, ap, _, rfl, hAs, by rw [List.length_map]; omega, fun ns rp hperm hpair nrp => ?_⟩
  rw [sorted_of nd lt20 hperm hpair]
  have hup : (Vb.sorted A).Pairwise (· < ·) := Vb.sorted_up
  generalize Vb.sorted A = rl at hc hk0 hfind hbefore hrl hmem hup
  have hfind : (Vbkoaf.choose k0 rl).find? (fun s => Vbkoaf.isCrowd m.ds (s.map (mP m))) = some c := hfind
  have hbefore : ∀ j, j < k0 → (Vbkoaf.choose j rl).find? (fun s => Vbkoaf.isCrowd m.ds (s.map (mP m))) = none := hbefore
  have s1 := same_upd (o := .lst (nats rl)) nrp
  refine ⟨Nat.zero_le _, fun e ne => ⟨by show 1 ≤ sizeLine; decide, fun pp npp => ?_⟩⟩
  have s2 := same_upd (o := .lst []) ne
  have s3 := same_upd (o := .lst [V.ref e]) npp
  obtain ⟨W, hW⟩ : ∃ W : Nat → L2.St → Hp → Prop, ∀ mz σ H', W mz σ H' ↔ ∃ (k : Nat) (pp : Addr) (as : List Addr) (v4 : Option V), mz = k0 + 1 - k ∧ k ≤ k0 ∧ σ = [some (.ref h), some (.ref ap), some (.ref rp), some (.ref pp), v4] ∧ Same H H' ∧ H' rp = some (.lst (nats rl)) ∧ H' pp = some (.lst (as.map V.ref)) ∧ Lists H' as (Vbkoaf.choose k rl) ∧ ∀ b ∈ as, H b = none := ⟨fun _ _ _ => _, fun _ _ _ => Iff.rfl⟩
  refine ⟨W, ⟨k0 + 1, (hW _ _ _).mpr ⟨0, pp, [e], none, rfl, Nat.zero_le _, rfl, (s1.trans s2).trans s3, (s2.trans s3) _ _ upd_same, upd_same, ?_, ?_⟩⟩, ?_⟩
  · rw [Vb.choose_zero]
    refine ⟨rfl, fun i a ls h1 h2 => ?_⟩
    cases i with
    | zero => cases h1; cases h2; exact s3 _ _ upd_same
    | succ i => simp at h1
  · intro b hb
    have : b = e := by simpa using hb
    rw [this]; exact s1.free ne
  rintro mz σ H' hw
  obtain ⟨k, pp, as, v4, rfl, hk, rfl, s, hrp, hpp, hls, hn⟩ := (hW _ _ _).mp hw
  have hasl : as.length = (Vbkoaf.choose k rl).length := hls.len
  have hpos := choose_ne (l := rl) (k := k) (by omega)
  have h256 : (Vbkoaf.choose k rl).length ≤ 256 := by
    have h1 := choose_len rl k
    have h2 : 2 ^ rl.length ≤ 2 ^ 8 := Nat.pow_le_pow_right (by decide) (by omega)
    have : (2 : Nat) ^ 8 = 256 := by decide
    omega
  refine ⟨_, rfl, pp, _, rfl, .inl (SqL.of hpp), _, _, rfl, rfl, _, rfl, ite2 (fun _ => ?_) (fun cc => absurd (decide_eq_true (by rw [List.length_map]; omega)) cc)⟩
  refine ⟨fun σ' H'' => ∃ m', m' < k0 + 1 - k ∧ W m' σ' H'', fun _ _ z => z, ?_⟩
  refine ⟨_, rfl, pp, rfl, ⟨_, SqL.of hpp⟩, ?_⟩
  refine for_list (K := K) (a := pp) (xs := as.map V.ref) (fun i σ H'' => ∃ v4 : Option V, σ = [some (.ref h), some (.ref ap), some (.ref rp), some (.ref pp), v4] ∧ Same H' H'' ∧ ∀ j s, j < i → (Vbkoaf.choose k rl)[j]? = some s → Vbkoaf.isCrowd m.ds (s.map (mP m)) = false)
    ⟨v4, rfl, Same.refl _, fun j s hj => by omega⟩ (fun i σ H'' _ ⟨_, _, t, _⟩ => SqL.of (t _ _ hpp)) ?_ ?_
  · rintro i y σ H'' hy ⟨v4, rfl, t, hno⟩
    rw [List.getElem?_map] at hy
    cases ea : as[i]? with
    | none => rw [ea] at hy; cases hy
    | some pa =>
      rw [ea] at hy
      cases hy
      have hi : i < as.length := (List.getElem?_eq_some_iff.mp ea).1
      have hpt : (Vbkoaf.choose k rl)[i]? = some (Vbkoaf.choose k rl)[i] := List.getElem?_eq_getElem (by omega)
      generalize (Vbkoaf.choose k rl)[i] = part at hpt
      have hpa := hls.at_ i pa _ ea hpt
      obtain ⟨hsub, hlen⟩ := Vb.mem_choose.mp (List.mem_of_getElem? hpt)
      have hpl : part.length ≤ 8 := by have := hsub.length_le; omega
      refine ⟨_, rfl, _, rfl, h, pa, l, m, part, rfl, hs.same (s.trans t), mw, SqL.of (t _ _ hpa), fun a ha => hmem a (hsub.subset ha), by omega, fun H2 s2 => ⟨_, rfl, ite2 (fun cc => ?_) (fun cc => ?_)⟩⟩
      · have hkk : k = k0 := by
          by_cases z : k = k0
          · exact z
          · have := hbefore k (by omega)
            rw [List.find?_eq_none] at this
            exact absurd cc (this part (List.mem_of_getElem? hpt))
        subst hkk
        have hpc : part = c := by
          refine find_atL (p := fun s => Vbkoaf.isCrowd m.ds (s.map (mP m))) (l := Vbkoaf.choose k rl) (i := i) (d := c) ?_ ?_ ?_ ?_
          · exact hfind
          · exact hpt
          · exact cc
          · exact hno
        subst hpc
        refine ⟨_, rfl, q H2 pa ((s.trans t).trans s2) (hn pa (List.mem_of_getElem? ea)) ((t.trans s2) _ _ hpa) hpl⟩
      · refine ⟨_, rfl, t.trans s2, fun j s' hj hs' => ?_⟩
        by_cases ej : j = i
        · subst ej
          rw [hpt] at hs'; cases hs'
          exact Bool.eq_false_iff.mpr cc
        · exact hno j s' (by omega) hs'
  · rintro σ H'' ⟨v4, rfl, t, hno⟩
    rw [List.length_map, hasl] at hno
    have hlt : k < k0 := by
      by_cases z : k = k0
      · exfalso
        subst z
        obtain ⟨j, hj⟩ := List.mem_iff_getElem?.mp (List.mem_of_find?_eq_some hfind)
        have h1 := hno j c (List.getElem?_eq_some_iff.mp hj).1 hj
        have h2 := List.find?_some hfind
        rw [h1] at h2; cases h2
      · omega
    refine ⟨_, rfl, _, rfl, pp, rp, as, _, rl, rfl, SqL.of (t _ _ hpp), hls.same t, SqL.of (t _ _ hrp), by omega, by omega, fun s' hs' => ?_, fun H2 p bs s2 np hp hb hn2 => ?_⟩
    · have := (Vb.mem_choose.mp hs').1.length_le
      omega
    · rw [Vb.ext_choose rl k hup] at hb
      have st := (s.trans t)
      exact ⟨k0 + 1 - (k + 1), by omega, (hW _ _ _).mpr ⟨k + 1, p, bs, _, rfl, by omega, rfl, st.trans s2, (t.trans s2) _ _ hrp, hp, hb, fun b hb' => st.free (hn2 b hb')⟩⟩

/-! ### why -/
def fWhy (m : M) (p : Person) : State × List Int := (absS m, match Vbkoaf.why (absS m) p with
  | none => [0]
  | some l => 1 :: Vbkoaf.listed (Vbkoaf.ids l))
theorem split_at {x : Nat} : ∀ {row : List Nat}, x ∈ row → ∃ af, row = (row.takeWhile fun y => y != x) ++ x :: af
  | [], h => by cases h
  | a :: row, h => by
    by_cases c : a = x
    · subst c
      exact ⟨row, by simp⟩
    · have hx : x ∈ row := by
        rcases List.mem_cons.mp h with z | z
        · exact absurd z.symm c
        · exact z
      obtain ⟨af, e⟩ := split_at hx
      have e1 : (a != x) = true := by simpa using c
      refine ⟨af, ?_⟩
      rw [List.takeWhile_cons, e1, if_pos rfl, List.cons_append, ← e]
theorem while_people {m : M} {k : Nat} : ∀ {l : List Nat}, ((l.map (mP m)).takeWhile fun z => z.id != k) = (l.takeWhile fun z => z != k).map (mP m)
  | [] => rfl
  | b :: l => by
    rw [List.map_cons, List.takeWhile_cons, List.takeWhile_cons]
    show (if (b != k) = true then _ else _ : List Person) = _
    split <;> simp [while_people]
theorem ahead_abs {m : M} {x : Nat} : Vbkoaf.aheadOf (absS m) (mP m x) = (Vb.servedN m.ds (mP m) [] (m.row.takeWhile fun y => y != x) ++ [x]).map (mP m) := by
  show Vbkoaf.servedOf m.ds [] ((m.row.map (mP m)).takeWhile fun y => y.id != x) ++ [mP m x] = _
  rw [while_people, List.map_append]
  congr 1
  exact Vb.served_is _ []
theorem crowd_some {m : M} (mw : MWf m) {A : List Nat} (nd : A.Nodup) (lt : ∀ a ∈ A, a < m.ppl.length) (h : Vbkoaf.canServe m.ds (A.map (mP m)) = false) : ∃ c, Vb.crowdN m.ds (mP m) (Vb.sorted A) = some c ∧ Vbkoaf.crowd m.ds (A.map (mP m)) = some (c.map (mP m)) := by
  have e := Vb.crowd_is (ds := m.ds) (ids_mP mw nd lt)
  rw [Vbkoaf.canServe] at h
  cases z : Vb.crowdN m.ds (mP m) (Vb.sorted A) with
  | none => rw [e, z] at h; cases h
  | some c => exact ⟨c, rfl, by rw [e, z]; rfl⟩
theorem crowd_no {m : M} {l : List Person} (h : Vbkoaf.canServe m.ds l = true) : Vbkoaf.crowd m.ds l = none := by
  rw [Vbkoaf.canServe, Option.isNone_iff_eq_none] at h; exact h
theorem sub_len {A row : List Nat} (nd : A.Nodup) (h : ∀ a ∈ A, a ∈ row) (h8 : row.length ≤ 8) : A.length ≤ 8 := Nat.le_trans (Vb.nodup_length nd h) h8
theorem pure_why (T : Txt K mg CG CH CR) (vs : List V) (H : Hp) (R : VK) (E : XK) (h : spAbt CH fWhy vs H R E) : t_why K CG CH CR (spServed CH) spCount (spCrowd K CH) { nx := fun _ H' => R .non H', rt := R } (start ["house", "applicant", "taken", "ahead", "together", "other"] vs) H := by
  obtain ⟨h, l, m, x, rfl, hs, mo, hx, q⟩ := h
  have hf : (fWhy m (mP m x)).1 = absS m := rfl
  obtain ⟨af, hsplit⟩ := split_at hx
  obtain ⟨hat, hfirst⟩ := first_at hx
  have hcan := Vb.served_at (ds := m.ds) (P := mP m) (bf := m.row.takeWhile fun y => y != x) (af := af) (x := x) (by rw [← hsplit]; exact mo.rn)
  have hbef := Vb.served_before (ds := m.ds) (P := mP m) (bf := m.row.takeWhile fun y => y != x) (af := x :: af) (by rw [← hsplit]; exact mo.rn)
  rw [← hsplit] at hcan hbef
  -- taken = served(house)
  refine ⟨_, rfl, h, l, m, rfl, hs, mo, fun H1 y s1 ny hy => ?_⟩
  refine ⟨_, rfl, _, rfl, y, _, rfl, .inl (SqL.of hy), rfl, flat_nats _, _, rfl, ite2 (fun c => ?_) (fun c => ?_)⟩
  · have c' : x ∈ svd m := by
      have : inV (.int (x : Int)) (nats (svd m)) = true := c
      rw [inV_nats] at this
      exact of_decide_eq_true this
    have ha : (fWhy m (mP m x)).2 = [0] := by
      show (match Vbkoaf.crowd m.ds (Vbkoaf.aheadOf (absS m) (mP m x)) with | none => [0] | some l => 1 :: Vbkoaf.listed (Vbkoaf.ids l) : List Int) = _
      rw [ahead_abs, crowd_no (hcan.mp c')]
    refine ⟨by show 1 ≤ sizeLine; decide, fun v nv => ?_⟩
    have s2 := same_upd (o := .lst [V.int 0]) nv
    refine q _ v ?_
    rw [hf, ha]
    exact PostH.keep hs mo (s1.trans s2) upd_same (s1.free nv)
  · have c' : x ∉ svd m := fun z => c (by
      show inV (.int (x : Int)) (nats (svd m)) = true
      rw [inV_nats]; exact decide_eq_true z)
    have hs1 := hs.same s1
    have hjl : (m.row.takeWhile fun y => y != x).length ≤ m.row.length := by
      have := (List.getElem?_eq_some_iff.mp hat).1
      omega
    have htake : m.row.take (m.row.takeWhile fun y => y != x).length = m.row.takeWhile fun y => y != x := by
      conv => lhs; arg 2; rw [hsplit]
      simp
    generalize hbf : (m.row.takeWhile fun y => y != x) = bf at hat hfirst hcan hbef hjl htake hsplit
    -- ahead = house.row[:house.row.index(applicant)]
    refine ⟨_, rfl, h, CH, l.dx, _, _, rfl, hs1.ins, T.cl_House, T.na_House_row, hF_row, _, rfl, h, CH, l.dx, _, _, rfl, hs1.ins, T.cl_House, T.na_House_row, hF_row, .inl ⟨rfl, _, SqL.of hs1.ro⟩, _, rfl, l.ro, _, .int (x : Int), bf.length, .int (x : Int), rfl, rfl, SqL.of hs1.ro, rfl, flat_nats _, nats_some hat, by simp [eqV], fun i z' hi hz => ?_, _, rfl, l.ro, _, rfl, SqL.of hs1.ro, fun ah nah => ?_⟩
    · obtain ⟨n, hn, rfl⟩ := of_nats hz
      have : n ≠ x := fun e => hfirst i hi (by rw [hn, e])
      have : (n : Int) ≠ (x : Int) := by omega
      simpa [eqV] using this
    rw [cut_to (by rw [nats_length]; exact hjl), nats_take, htake]
    have s2 := same_upd (o := .lst (nats bf)) nah
    have sA := s1.trans s2
    -- together = [other for other in ahead if other in taken] + [applicant]
    refine ⟨_, rfl, ah, rfl, ⟨_, SqL.of upd_same⟩, fun D hD => ?_⟩
    have hah : (upd H1 ah (.lst (nats bf))) ah = some (.lst (nats bf)) := upd_same
    generalize upd H1 ah (.lst (nats bf)) = H2 at s2 sA hah hD
    refine lc_list (K := K) (a := ah) (xs := nats bf) (fun i H' => Same H2 H' ∧ H' D = some (.lst (nats ((bf.take i).filter fun a => decide (a ∈ svd m))))) ⟨same_upd hD, upd_same⟩ (fun i H' _ z => z.1.seq (SqL.of hah)) ?_ ?_
    · rintro i v H' hv ⟨t, hD'⟩
      obtain ⟨o, ho, rfl⟩ := of_nats hv
      have hstep : (bf.take (i + 1)).filter (fun a => decide (a ∈ svd m)) = (bf.take i).filter (fun a => decide (a ∈ svd m)) ++ (if decide (o ∈ svd m) = true then [o] else []) := by
        rw [take_more ho, List.filter_append, List.filter_cons]; rfl
      refine ⟨rfl, _, rfl, _, rfl, y, _, rfl, .inl (SqL.of ((s2.trans t) _ _ hy)), rfl, flat_nats _, _, rfl, ite2 (fun cc => ?_) (fun cc => ?_)⟩
      · have cc' : decide (o ∈ svd m) = true := by
          have : inV (.int (o : Int)) (nats (svd m)) = true := cc
          rwa [inV_nats] at this
        refine ⟨_, rfl, _, hD', ?_, fun b u hb => ?_, ?_⟩
        · rw [nats_length]
          have := List.length_filter_le (fun a => decide (a ∈ svd m)) (bf.take i)
          have := (List.take_sublist i bf).length_le
          have := mo.r8
          exact small1000 (by omega)
        · rw [upd_ne (ne_of_none hb hD)]; exact t _ _ hb
        · rw [upd_same, hstep, if_pos cc', nats_append]; rfl
      · have cc' : ¬ decide (o ∈ svd m) = true := fun z => cc (by
          show inV (.int (o : Int)) (nats (svd m)) = true
          rwa [inV_nats])
        refine ⟨t, ?_⟩
        rw [hD', hstep, if_neg cc', List.append_nil]
    · rintro H3 ⟨t, hD3⟩
      have e0 : bf.take (nats bf).length = bf := by rw [nats_length, List.take_length]
      have e1 : (bf.filter fun a => decide (a ∈ svd m)) = Vb.servedN m.ds (mP m) [] bf := hbef
      rw [e0, e1] at hD3
      refine ⟨_, rfl, by show 1 ≤ sizeLine; decide, fun u nu => ?_⟩
      have t2 := same_upd (o := .lst [V.int (x : Int)]) nu
      have hSsub : ∀ a ∈ Vb.servedN m.ds (mP m) [] bf ++ [x], a ∈ m.row := fun a ha => by
        rcases List.mem_append.mp ha with z | z
        · rcases Vb.served_sub z with y | y
          · cases y
          · rw [hsplit]; exact List.mem_append_left _ y
        · have : a = x := by simpa using z
          rw [this]; exact hx
      have hSnd : (Vb.servedN m.ds (mP m) [] bf ++ [x]).Nodup := by
        have hnd := mo.rn
        rw [hsplit] at hnd
        have h3 := List.nodup_append.mp hnd
        refine List.nodup_append.mpr ⟨Vb.served_nd (by simpa using h3.1), by simp, fun a ha b hb e => ?_⟩
        have hbx : b = x := by simpa using hb
        rcases Vb.served_sub ha with y | y
        · cases y
        · exact h3.2.2 a y x (List.mem_cons_self ..) (by rw [e, hbx])
      have hSl := sub_len hSnd hSsub mo.r8
      have hSl2 : (Vb.servedN m.ds (mP m) [] bf).length + 1 ≤ 8 := by
        rw [List.length_append] at hSl; exact hSl
      refine ⟨D, u, _, _, rfl, rfl, t2 _ _ hD3, upd_same, by rw [nats_length]; exact Nat.le_of_lt (size_of (show _ + 1 ≤ 100000 by omega)), fun tg ntg => ?_⟩
      have e2 : nats (Vb.servedN m.ds (mP m) [] bf) ++ [V.int (x : Int)] = nats (Vb.servedN m.ds (mP m) [] bf ++ [x]) := by rw [nats_append]; rfl
      rw [e2]
      have t3 := same_upd (o := .lst (nats (Vb.servedN m.ds (mP m) [] bf ++ [x]))) ntg
      have htg : (upd (upd H3 u (.lst [V.int (x : Int)])) tg (.lst (nats (Vb.servedN m.ds (mP m) [] bf ++ [x])))) tg = some (.lst (nats (Vb.servedN m.ds (mP m) [] bf ++ [x]))) := upd_same
      have sB := sA.trans ((t.trans t2).trans t3)
      generalize upd (upd H3 u (.lst [V.int (x : Int)])) tg (.lst (nats (Vb.servedN m.ds (mP m) [] bf ++ [x]))) = H4 at sB htg
      have hno : Vbkoaf.canServe m.ds ((Vb.servedN m.ds (mP m) [] bf ++ [x]).map (mP m)) = false := by
        cases z : Vbkoaf.canServe m.ds ((Vb.servedN m.ds (mP m) [] bf ++ [x]).map (mP m)) with
        | false => rfl
        | true => exact absurd (hcan.mpr z) c'
      have ha : ∀ c, Vbkoaf.crowd m.ds ((Vb.servedN m.ds (mP m) [] bf ++ [x]).map (mP m)) = some (c.map (mP m)) → (fWhy m (mP m x)).2 = 1 :: Vbkoaf.listed c := fun c hc => by
        show (match Vbkoaf.crowd m.ds (Vbkoaf.aheadOf (absS m) (mP m x)) with | none => [0] | some l => 1 :: Vbkoaf.listed (Vbkoaf.ids l) : List Int) = _
        rw [ahead_abs, hbf, hc]
        show 1 :: Vbkoaf.listed (Vbkoaf.ids (c.map (mP m))) = _
        rw [ids_row]
      generalize Vb.servedN m.ds (mP m) [] bf ++ [x] = S at hSsub hSnd hSl htg hno ha
      have hlt : ∀ a ∈ S, a < m.ppl.length := fun a ha => mo.rl a (hSsub a ha)
      obtain ⟨c0, hc1, hc2⟩ := crowd_some mo.wf hSnd hlt hno
      -- return [1] + with_count(told_crowd(house, together))
      refine ⟨by show 1 ≤ sizeLine; decide, fun a1 na1 => ?_⟩
      have t4 := same_upd (o := .lst [V.int 1]) na1
      refine ⟨_, rfl, _, rfl, h, tg, l, m, S, c0, rfl, hs.same (sB.trans t4), mo.wf, SqL.of (t4 _ _ htg), hSnd, hlt, hSl, hc1, fun H5 cp s5 ncp hcp hcl => ?_⟩
      refine ⟨cp, _, rfl, hcp, by rw [nats_length]; omega, fun H6 wp s6 nwp hwp => ?_⟩
      refine ⟨a1, wp, _, _, rfl, rfl, (s5.trans s6) _ _ upd_same, hwp, by rw [List.length_cons, List.length_cons, nats_length]; exact Nat.le_of_lt (size_of (show 1 + (c0.length + 1) ≤ 100000 by omega)), fun r nr => ?_⟩
      have t7 := same_upd (o := .lst ([V.int 1] ++ V.int ((nats c0).length : Int) :: nats c0)) nr
      have sC := ((sB.trans t4).trans (s5.trans s6)).trans t7
      refine q _ r ?_
      rw [hf, ha c0 hc2]
      refine PostH.keep hs mo sC ?_ (((sB.trans t4).trans (s5.trans s6)).free nr)
      rw [upd_same]
      show _ = some (HO.lst (V.int 1 :: iV (Vbkoaf.listed c0)))
      rw [listed_is, nats_length]; rfl
end
end Vp
set_option Elab.async false
set_option linter.all false
set_option maxRecDepth 100000
set_option maxHeartbeats 1000000
/-! can, room. -/
namespace Vp
open PySem PySem.Spec PyProof.Rows L2
open Vbkoaf (Person Day inside State)
open Vb (G Q keys)

theorem inV_iV {x : Int} {ns : List Int} : inV (.int x) (iV ns) = decide (x ∈ ns) := by
  rw [inV, iV, List.any_map, Bool.eq_iff_iff, List.any_eq_true, decide_eq_true_eq]
  constructor
  · rintro ⟨y, hy, e⟩
    have : y = x := by simpa [eqV] using e
    exact this ▸ hy
  · intro h
    exact ⟨x, h, by simp [eqV]⟩
theorem flat_iV (l : List Int) : (iV l).all flatV = true := by
  rw [List.all_eq_true]
  intro x hx
  obtain ⟨n, _, rfl⟩ := List.mem_map.mp hx
  rfl
theorem rising_all {lo hi : Int} : ∀ (l : List Int), Vbkoaf.rising lo hi l = (upB l && l.all fun x => inside x lo hi)
  | [] => rfl
  | [a] => by
    show inside a lo hi = (true && (inside a lo hi && true))
    rw [Bool.true_and, Bool.and_true]
  | a :: b :: l => by
    rw [Vbkoaf.rising, upB, rising_all (b :: l)]
    show (inside a lo hi && (decide (a < b) && (upB (b :: l) && (b :: l).all fun x => inside x lo hi))) = ((decide (a < b) && upB (b :: l)) && (inside a lo hi && (b :: l).all fun x => inside x lo hi))
    generalize ((b :: l).all fun x => inside x lo hi) = z
    generalize upB (b :: l) = u
    generalize inside a lo hi = v
    generalize decide (a < b) = w
    cases z <;> cases u <;> cases v <;> cases w <;> rfl
def inRow (m : M) (ns : List Int) : Bool := upB ns && ns.all fun x => inV (.int x) (nats m.row)
theorem inV_row {m : M} {x : Int} : inV (.int x) (nats m.row) = (m.row.map (mP m)).any fun p => Vbkoaf.whole p.id == x := by
  rw [nats_iV, inV_iV, List.any_map, Bool.eq_iff_iff, decide_eq_true_eq, List.any_eq_true]
  constructor
  · intro h
    obtain ⟨n, hn, e⟩ := List.mem_map.mp h
    exact ⟨n, hn, by simpa [Vbkoaf.whole, mP] using e⟩
  · rintro ⟨n, hn, e⟩
    exact List.mem_map.mpr ⟨n, hn, by simpa [Vbkoaf.whole, mP] using e⟩
theorem row_lt {m : M} (mo : MOk m) {x : Int} (h : inV (.int x) (nats m.row) = true) : ∃ n : Nat, x = (n : Int) ∧ n ∈ m.row ∧ inside x 0 19 = true := by
  rw [nats_iV, inV_iV] at h
  obtain ⟨n, hn, e⟩ := List.mem_map.mp (of_decide_eq_true h)
  have h1 := mo.rl n hn
  have h2 := mo.wf.pn
  refine ⟨n, e.symm, hn, ?_⟩
  rw [inside, Bool.and_eq_true, decide_eq_true_eq, decide_eq_true_eq]
  omega
theorem people_is {m : M} (mo : MOk m) {ns : List Int} : Vbkoaf.people (absS m) ns = if inRow m ns = true then some ((m.row.filter fun (n : Nat) => decide ((n : Int) ∈ ns)).map (mP m)) else none := by
  have e1 : (Vbkoaf.rising 0 19 ns && ns.all fun x => (m.row.map (mP m)).any fun p => Vbkoaf.whole p.id == x) = inRow m ns := by
    rw [inRow, rising_all]
    have : (ns.all fun x => (m.row.map (mP m)).any fun p => Vbkoaf.whole p.id == x) = ns.all fun x => inV (.int x) (nats m.row) := by
      congr 1; funext x; exact inV_row.symm
    rw [this]
    cases h : (ns.all fun x => inV (.int x) (nats m.row)) with
    | false => rw [Bool.and_false, Bool.and_false]
    | true =>
      have : (ns.all fun x => inside x 0 19) = true := List.all_eq_true.mpr fun x hx => by
        obtain ⟨_, _, _, h3⟩ := row_lt mo (List.all_eq_true.mp h x hx)
        exact h3
      rw [this, Bool.and_true]
  show (if (Vbkoaf.rising 0 19 ns && ns.all fun x => (m.row.map (mP m)).any fun p => Vbkoaf.whole p.id == x) = true then some ((m.row.map (mP m)).filter fun p => ns.contains (Vbkoaf.whole p.id)) else none) = _
  rw [e1]
  have e2 : ((m.row.map (mP m)).filter fun p => ns.contains (Vbkoaf.whole p.id)) = (m.row.filter fun (n : Nat) => decide ((n : Int) ∈ ns)).map (mP m) := by
    rw [List.filter_map]
    congr 1
    refine List.filter_congr fun n _ => ?_
    show ns.contains (n : Int) = decide ((n : Int) ∈ ns)
    rw [Bool.eq_iff_iff]; simp
  rw [e2]
/-- all of a list are in the row: as numbers from 0 on -/
theorem row_nats {m : M} (mo : MOk m) {ns : List Int} (h : inRow m ns = true) : ∃ B : List Nat, ns = B.map (fun (n : Nat) => (n : Int)) ∧ B.Nodup ∧ ∀ b, b ∈ B ↔ b ∈ m.row.filter fun (n : Nat) => decide ((n : Int) ∈ ns) := by
  rw [inRow, Bool.and_eq_true] at h
  have hall := List.all_eq_true.mp h.2
  have e1 : ns = (ns.map Int.toNat).map (fun (n : Nat) => (n : Int)) := by
    rw [List.map_map]
    symm
    refine (List.map_congr_left fun x hx => ?_).trans (List.map_id ns)
    obtain ⟨n, rfl, _, _⟩ := row_lt mo (hall x hx)
    simp
  have hnd : ∀ {l : List Int}, upB l = true → l.Nodup := fun {l} hu => by
    have hp : l.Pairwise (· < ·) := by
      clear h hall e1
      induction l with
      | nil => exact List.Pairwise.nil
      | cons a l ih =>
        refine List.pairwise_cons.mpr ⟨fun b hb => ?_, ih ?_⟩
        · clear ih
          induction l generalizing a with
          | nil => cases hb
          | cons c l ih2 =>
            rw [upB, Bool.and_eq_true, decide_eq_true_eq] at hu
            rcases List.mem_cons.mp hb with z | z
            · rw [z]; exact hu.1
            · have := ih2 c hu.2 z
              omega
        · cases l with
          | nil => rfl
          | cons c l =>
            rw [upB, Bool.and_eq_true] at hu
            exact hu.2
    exact hp.imp fun h => by omega
  refine ⟨ns.map Int.toNat, e1, ?_, fun b => ?_⟩
  · have := hnd h.1
    rw [e1] at this
    exact List.Pairwise.of_map _ (fun a b h e => h (by rw [e])) this
  · constructor
    · intro hb
      obtain ⟨x, hx, e⟩ := List.mem_map.mp hb
      obtain ⟨n, rfl, h2, _⟩ := row_lt mo (hall x hx)
      have : n = b := by simpa using e
      subst this
      exact List.mem_filter.mpr ⟨h2, decide_eq_true hx⟩
    · intro hb
      have := of_decide_eq_true (List.mem_filter.mp hb).2
      exact List.mem_map.mpr ⟨_, this, by simp⟩

section
variable {K : PySem.W.Frag} {mg : Str → Option Value} {CG CH CR : Addr}
def spInRow (K : PySem.W.Frag) (CH : Addr) : Sp := fun vs H R _ => ∃ (h a : Addr) (l : Lay) (m : M) (ns : List Int), vs = [.ref h, .ref a] ∧ HouseAt CH H h l m ∧ SqL K H a (iV ns) ∧ ns.length ≤ 1000 ∧
  ∀ H', Same H H' → R (.bl (inRow m ns)) H'
theorem pure_in_row (T : Txt K mg CG CH CR) (vs : List V) (H : Hp) (R : VK) (E : XK) (h : spInRow K CH vs H R E) : t_are_in_row K CG CH CR (spRising K) { nx := fun _ H' => R .non H', rt := R } (start ["house", "applicants", "applicant"] vs) H := by
  obtain ⟨h, a, l, m, ns, rfl, hs, ha, few, q⟩ := h
  refine ⟨_, rfl, a, ns, rfl, ha, by omega, _, rfl, ite2 (fun c => ?_) (fun c => ?_)⟩
  · refine ⟨_, rfl, a, rfl, ⟨_, ha⟩, fun D hD => ?_⟩
    refine lc_list (K := K) (a := a) (xs := iV ns) (fun i H' => Same H H' ∧ H' D = some (.lst (((ns.take i).map fun x => inV (.int x) (nats m.row)).map V.bl))) ⟨same_upd hD, upd_same⟩ (fun i H' _ z => z.1.seq ha) ?_ ?_
    · rintro i v H' hv ⟨t, hD'⟩
      obtain ⟨x, hx, rfl⟩ := of_iV hv
      have hs' := hs.same t
      refine ⟨rfl, yes_if ?_⟩
      refine ⟨_, rfl, _, rfl, h, CH, l.dx, _, _, rfl, hs'.ins, T.cl_House, T.na_House_row, hF_row, l.ro, _, rfl, .inl (SqL.of hs'.ro), rfl, flat_nats _, _, hD', ?_, fun b u hb => ?_, ?_⟩
      · rw [List.length_map, List.length_map]
        have := (List.take_sublist i ns).length_le
        exact small1000 (by omega)
      · rw [upd_ne (ne_of_none hb hD)]; exact t _ _ hb
      · rw [upd_same, take_more hx, List.map_append, List.map_append]; rfl
    · rintro H' ⟨t, hD'⟩
      have e0 : ns.take (iV ns).length = ns := by rw [iV_length, List.take_length]
      rw [e0] at hD'
      refine ⟨D, _, rfl, SqL.of hD', ?_⟩
      refine vq (Q := R) ?_ (q H' t)
      rw [inRow, c, Bool.true_and, List.all_map]
      rfl
  · refine vq (Q := R) ?_ (q H (Same.refl _))
    rw [inRow, Bool.eq_false_iff.mpr c, Bool.false_and]

/-- a list is read, and is looked at -/
theorem pure_call_room (T : Txt K mg CG CH CR) (vs : List V) (H : Hp) (R : VK) (E : XK) (h : spCallP K CH CR 11 vs H R E) : t_call_room K CG CH CR (spList K CR) (spInRow K CH) (spRooms K CH) { nx := fun _ H' => R .non H', rt := R } (start ["house", "reader", "applicants", "rooms"] vs) H := by
  obtain ⟨h, r, dxr, a, l, m, ns, n, c, t, rfl, p, hc, hcl, q⟩ := h
  obtain ⟨j, hj, hn, rfl, ht⟩ := flat_01 rfl p.nl hc
  rw [ht] at q
  have hjl : ((ns.drop (n + 1)).take j).length ≤ 60 := hcl _ (by simp)
  refine ⟨_, rfl, r, dxr, _, rfl, p.rd, rF_no (by decide +kernel), r, dxr, a, n, j, ns, rfl, p.rd, p.rq.sq, hj, by omega, fun H1 dl b1 hr1 ndl hdl => ?_⟩
  have p1 := p.read b1 hr1 hn
  have hst : stp m [[11], (ns.drop (n + 1)).take j] = match Vbkoaf.people (absS m) ((ns.drop (n + 1)).take j) with
      | none => (absS m, [-2])
      | some q => (absS m, Vbkoaf.ints ([q.length, Vbkoaf.room m.ds q] ++ Vbkoaf.roomsOf m.ds q)) := rfl
  generalize (ns.drop (n + 1)).take j = ls at hjl hdl hst q
  rw [people_is p.mo] at hst
  refine ⟨_, rfl, _, rfl, h, dl, l, m, ls, rfl, p1.hs, SqL.of hdl, by omega, fun H2 s2 => ⟨_, rfl, ite2 (fun c1 => ?_) (fun c1 => ?_)⟩⟩
  · have c' : inRow m ls = false := by simpa using c1
    exact refuse p (p1.same s2) (b1.then s2) q (by rw [hst, c']; rfl)
  · have c' : inRow m ls = true := by
      cases e : inRow m ls with
      | true => rfl
      | false => rw [e] at c1; exact absurd rfl c1
    rw [if_pos c'] at hst
    obtain ⟨B, rfl, hnd, hmem⟩ := row_nats p.mo c'
    generalize hA : (m.row.filter fun (n : Nat) => decide ((n : Int) ∈ B.map fun (n : Nat) => (n : Int))) = A at hst hmem
    have hAnd : A.Nodup := by rw [← hA]; exact List.Nodup.sublist List.filter_sublist p.mo.rn
    have hArow : ∀ a ∈ A, a ∈ m.row := fun a ha => by rw [← hA] at ha; exact (List.mem_filter.mp ha).1
    have hlen : A.length = B.length := Vb.length_same hAnd hnd fun a => (hmem a).symm
    have hBl : B.length ≤ 60 := by simpa using hjl
    have hdl2 : H2 dl = some (.lst (nats B)) := by rw [nats_iV]; exact s2 _ _ hdl
    have hst2 : stp m [[11], B.map fun (n : Nat) => (n : Int)] = (absS m, Vbkoaf.ints ([B.length, (Vbkoaf.roomsOf m.ds (B.map (mP m))).sum] ++ Vbkoaf.roomsOf m.ds (B.map (mP m)))) := by
      rw [hst]
      show (absS m, Vbkoaf.ints ([(A.map (mP m)).length, Vbkoaf.room m.ds (A.map (mP m))] ++ Vbkoaf.roomsOf m.ds (A.map (mP m)))) = _
      rw [List.length_map, hlen, Vbkoaf.room, Vb.sum_is, Vb.roomsOf_same fun a => (hmem a).symm]
    have hs2 := (p1.same s2).hs
    refine ⟨_, rfl, _, rfl, h, dl, l, m, B, rfl, hs2, p.mo.wf, SqL.of hdl2, fun b hb => p.mo.rl b (hArow b ((hmem b).mp hb)), by omega, fun H3 rp s3 nrp hrp => ?_⟩
    have hrl : (Vbkoaf.roomsOf m.ds (B.map (mP m))).length ≤ 8 := by
      rw [Vb.roomsOf_is, List.length_map, List.length_range]; exact p.mo.wf.dn
    generalize Vbkoaf.roomsOf m.ds (B.map (mP m)) = rs at hst2 hrp hrl
    have hrs : SqL K H3 rp ((rs.map fun (n : Nat) => (n : Int)).map V.int) := by rw [List.map_map]; exact SqL.of hrp
    refine ⟨_, rfl, dl, _, rfl, .inl (SqL.of (s3 _ _ hdl2)), _, rfl, rp, _, rfl, hrs, by show 2 ≤ sizeLine; decide, fun y ny => ?_⟩
    have s4 := same_upd (o := .lst [V.int ((nats B).length : Int), V.int (rs.map fun (n : Nat) => (n : Int)).sum]) ny
    refine ⟨_, rfl, y, rp, _, _, rfl, rfl, upd_same, s4 _ _ hrp, by rw [nats_length (l := rs)]; exact Nat.le_of_lt (size_of (show 2 + rs.length ≤ 100000 by omega)), fun v nv => ?_⟩
    have s5 := same_upd (o := .lst ([V.int ((nats B).length : Int), V.int (rs.map fun (n : Nat) => (n : Int)).sum] ++ nats rs)) nv
    have sA := (s2.trans s3).trans (s4.trans s5)
    refine q _ v (Post.keep p (p1.same sA) (b1.then sA) (by rw [hst2]) ?_ (b1.fresh hr1 (((s2.trans s3).trans s4).free nv)).2)
    rw [hst2, upd_same, nats_length, cast_sum]
    simp only [Vbkoaf.ints, iV, nats, List.map_append, List.map_map, List.map_cons, List.map_nil]
    rfl

/-! ### can -/
theorem can_M {m : M} (mo : MOk m) {l : Lay} {A : List Nat} (nd : A.Nodup) : (keys (zOf m l A)).map (prob m (wOf (zOf m l A))) = A.map (mP m) := by
  rw [zOf_keys, wOf_zOf]
  exact List.map_congr_left fun a ha => prob_mP nd ha
theorem pure_call_can (T : Txt K mg CG CH CR) (vs : List V) (H : Hp) (R : VK) (E : XK) (h : spCallP K CH CR 10 vs H R E) : t_call_can K CG CH CR (spList K CR) (spInRow K CH) (spCan CH) (spWishes K CH) spCount (spCrowd K CH) (spTold K CH) { nx := fun _ H' => R .non H', rt := R } (start ["house", "reader", "applicants", "in_order", "told", "applicant"] vs) H := by
  obtain ⟨h, r, dxr, a, l, m, ns, n, c, t, rfl, p, hc, hcl, q⟩ := h
  obtain ⟨j, hj, hn, rfl, ht⟩ := flat_01 rfl p.nl hc
  rw [ht] at q
  have mo := p.mo
  have hjl : ((ns.drop (n + 1)).take j).length ≤ 60 := hcl _ (by simp)
  refine ⟨_, rfl, r, dxr, _, rfl, p.rd, rF_no (by decide +kernel), r, dxr, a, n, j, ns, rfl, p.rd, p.rq.sq, hj, by omega, fun H1 dl b1 hr1 ndl hdl => ?_⟩
  have p1 := p.read b1 hr1 hn
  have hst : stp m [[10], (ns.drop (n + 1)).take j] = match Vbkoaf.people (absS m) ((ns.drop (n + 1)).take j) with
      | none => (absS m, [-2])
      | some q => (absS m, match Vbkoaf.crowd m.ds q with
        | none => 1 :: Vbkoaf.listed (Vbkoaf.giving m.ds q)
        | some c => 0 :: Vbkoaf.listed (Vbkoaf.ids c)) := rfl
  generalize (ns.drop (n + 1)).take j = ls at hjl hdl hst q
  rw [people_is mo] at hst
  refine ⟨_, rfl, _, rfl, h, dl, l, m, ls, rfl, p1.hs, SqL.of hdl, by omega, fun H2 s2 => ⟨_, rfl, ite2 (fun c1 => ?_) (fun c1 => ?_)⟩⟩
  · have c' : inRow m ls = false := by simpa using c1
    exact refuse p (p1.same s2) (b1.then s2) q (by rw [hst, c']; rfl)
  · have c' : inRow m ls = true := by
      cases e : inRow m ls with
      | true => rfl
      | false => rw [e] at c1; exact absurd rfl c1
    rw [if_pos c'] at hst
    have hs2 := (p1.same s2).hs
    have hdl2 := s2 _ _ hdl
    -- in_order
    refine ⟨_, rfl, h, CH, l.dx, _, _, rfl, hs2.ins, T.cl_House, T.na_House_row, hF_row, l.ro, rfl, ⟨_, SqL.of hs2.ro⟩, fun D hD => ?_⟩
    refine lc_list (K := K) (a := l.ro) (xs := nats m.row) (fun i H' => Same H2 H' ∧ H' D = some (.lst (nats ((m.row.take i).filter fun (n : Nat) => decide ((n : Int) ∈ ls))))) ⟨same_upd hD, upd_same⟩ (fun i H' _ z => z.1.seq (SqL.of hs2.ro)) ?_ ?_
    · rintro i v H' hv ⟨t, hD'⟩
      obtain ⟨o, ho, rfl⟩ := of_nats hv
      have hstep : (m.row.take (i + 1)).filter (fun (n : Nat) => decide ((n : Int) ∈ ls)) = (m.row.take i).filter (fun (n : Nat) => decide ((n : Int) ∈ ls)) ++ (if decide ((o : Int) ∈ ls) = true then [o] else []) := by
        rw [take_more ho, List.filter_append, List.filter_cons]; rfl
      refine ⟨rfl, _, rfl, _, rfl, dl, _, rfl, .inl (SqL.of (t _ _ hdl2)), rfl, flat_iV _, _, rfl, ite2 (fun cc => ?_) (fun cc => ?_)⟩
      · have cc' : decide ((o : Int) ∈ ls) = true := by
          have : inV (.int (o : Int)) (iV ls) = true := cc
          rwa [inV_iV] at this
        refine ⟨_, rfl, _, hD', ?_, fun b u hb => ?_, ?_⟩
        · rw [nats_length]
          have := List.length_filter_le (fun (n : Nat) => decide ((n : Int) ∈ ls)) (m.row.take i)
          have := (List.take_sublist i m.row).length_le
          have := mo.r8
          exact small1000 (by omega)
        · rw [upd_ne (ne_of_none hb hD)]; exact t _ _ hb
        · rw [upd_same, hstep, if_pos cc', nats_append]; rfl
      · have cc' : ¬ decide ((o : Int) ∈ ls) = true := fun z => cc (by
          show inV (.int (o : Int)) (iV ls) = true
          rwa [inV_iV])
        refine ⟨t, ?_⟩
        rw [hD', hstep, if_neg cc', List.append_nil]
    · rintro H3 ⟨t, hD3⟩
      have e0 : m.row.take (nats m.row).length = m.row := by rw [nats_length, List.take_length]
      rw [e0] at hD3
      generalize hA : (m.row.filter fun (n : Nat) => decide ((n : Int) ∈ ls)) = A at hst hD3
      have hAnd : A.Nodup := by rw [← hA]; exact List.Nodup.sublist List.filter_sublist mo.rn
      have hArow : ∀ a ∈ A, a ∈ m.row := fun a ha => by rw [← hA] at ha; exact (List.mem_filter.mp ha).1
      have hAl := sub_len hAnd hArow mo.r8
      have hlt : ∀ a ∈ A, a < m.ppl.length := fun a ha => mo.rl a (hArow a ha)
      have s3 := s2.trans t
      have hs3 := p1.hs.same s3
      have hst2 : stp m [[10], ls] = (absS m, match Vbkoaf.crowd m.ds (A.map (mP m)) with
        | none => 1 :: Vbkoaf.listed (Vbkoaf.giving m.ds (A.map (mP m)))
        | some c => 0 :: Vbkoaf.listed (Vbkoaf.ids c)) := hst
      -- can_be_served(house, wishes_of(house, in_order))
      refine ⟨_, rfl, _, rfl, _, rfl, h, D, l, m, A, rfl, hs3, SqL.of hD3, hAnd, by omega, hlt, fun H4 w s4 nw hw => ?_⟩
      have hs4 := hs3.same s4
      refine ⟨h, w, l, m, zOf m l A, rfl, hs4, mo.wf, hw, wz_of hs4 hlt, by rw [wOf_zOf]; exact wwf_M mo hAnd hlt, by rw [zOf, List.length_map]; omega, fun H5 s5 => ?_⟩
      rw [can_M mo hAnd]
      have sB := s4.trans s5
      have hD5 := sB _ _ hD3
      have hs5 := hs3.same sB
      refine ⟨_, rfl, ite2 (fun c2 => ?_) (fun c2 => ?_)⟩
      · have c3 : Vbkoaf.canServe m.ds (A.map (mP m)) = false := by simpa using c2
        obtain ⟨c0, hc1, hc2⟩ := crowd_some mo.wf hAnd hlt c3
        have hst3 : stp m [[10], ls] = (absS m, 0 :: Vbkoaf.listed c0) := by
          rw [hst2, hc2]
          show (absS m, 0 :: Vbkoaf.listed (Vbkoaf.ids (c0.map (mP m)))) = _
          rw [ids_row]
        refine ⟨by show 1 ≤ sizeLine; decide, fun a1 na1 => ?_⟩
        have t4 := same_upd (o := .lst [V.int 0]) na1
        refine ⟨_, rfl, _, rfl, h, D, l, m, A, c0, rfl, hs5.same t4, mo.wf, SqL.of (t4 _ _ hD5), hAnd, hlt, hAl, hc1, fun H6 cp s6 ncp hcp hcl => ?_⟩
        refine ⟨cp, _, rfl, hcp, by rw [nats_length]; omega, fun H7 wp s7 nwp hwp => ?_⟩
        refine ⟨a1, wp, _, _, rfl, rfl, (s6.trans s7) _ _ upd_same, hwp, by rw [List.length_cons, List.length_cons, nats_length]; exact Nat.le_of_lt (size_of (show 1 + (c0.length + 1) ≤ 100000 by omega)), fun v nv => ?_⟩
        have t8 := same_upd (o := .lst ([V.int 0] ++ V.int ((nats c0).length : Int) :: nats c0)) nv
        have sC := ((s3.trans sB).trans t4).trans ((s6.trans s7).trans t8)
        refine q _ v (Post.keep p (p1.same sC) (b1.then sC) (by rw [hst3]) ?_ (b1.fresh hr1 ((((s3.trans sB).trans t4).trans (s6.trans s7)).free nv)).2)
        rw [hst3, upd_same]
        show _ = some (HO.lst (V.int 0 :: iV (Vbkoaf.listed c0)))
        rw [listed_is, nats_length]; rfl
      · have c3 : Vbkoaf.canServe m.ds (A.map (mP m)) = true := by
          cases e : Vbkoaf.canServe m.ds (A.map (mP m)) with
          | true => rfl
          | false => rw [e] at c2; exact absurd rfl c2
        have hst3 : stp m [[10], ls] = (absS m, 1 :: Vbkoaf.listed (toldN m A)) := by
          rw [hst2, crowd_no c3]
          show (absS m, 1 :: Vbkoaf.listed (Vbkoaf.giving m.ds (A.map (mP m)))) = _
          rw [giving_abs hAnd]
        -- told = told_giving(house, in_order)
        refine ⟨_, rfl, _, rfl, h, D, l, m, A, rfl, hs5, mo, SqL.of hD5, hAnd, hlt, c3, fun H6 tw s6 ntw htw htl => ?_⟩
        have hD6 := s6 _ _ hD5
        refine ⟨by show 1 ≤ sizeLine; decide, fun a1 na1 => ?_⟩
        have t4 := same_upd (o := .lst [V.int 1]) na1
        have hD7 := t4 _ _ hD6
        have htw7 := t4 _ _ htw
        have ha17 : (upd H6 a1 (.lst [V.int 1])) a1 = some (.lst [V.int 1]) := upd_same
        generalize upd H6 a1 (.lst [V.int 1]) = H7 at t4 hD7 htw7 ha17
        refine ⟨_, rfl, D, rfl, ⟨_, SqL.of hD7⟩, fun L hL => ?_⟩
        refine lc_list (K := K) (a := D) (xs := nats A) (fun i H' => Same H7 H' ∧ H' L = some (.lst (nats ((toldN m A).take i)))) ⟨same_upd hL, upd_same⟩ (fun i H' _ z => z.1.seq (SqL.of hD7)) ?_ ?_
        · rintro i v H' hv ⟨t, hL'⟩
          obtain ⟨b, hb, rfl⟩ := of_nats hv
          have hi : i < A.length := (List.getElem?_eq_some_iff.mp hb).1
          have hd : (toldN m A)[i]? = some (toldN m A)[i] := List.getElem?_eq_getElem (by omega)
          generalize (toldN m A)[i] = d at hd
          have hlook : (A.zip (toldN m A)).lookup b = some d := by
            refine mem_look (by rw [zip_keys htl.symm]; exact hAnd) ?_
            refine List.mem_of_getElem? (i := i) ?_
            rw [List.getElem?_zip_eq_some]
            exact ⟨hb, hd⟩
          refine ⟨rfl, yes_if ?_⟩
          refine ⟨_, rfl, _, rfl, tw, dayV d, rfl, .inl ⟨_, Sum.inl (b : Int), .inl (t _ _ htw7), rfl, by rw [val_kvs, hlook]; rfl⟩, _, hL', ?_, fun b u hb => ?_, ?_⟩
          · rw [nats_length]
            have := (List.take_sublist i (toldN m A)).length_le
            exact small1000 (by omega)
          · rw [upd_ne (ne_of_none hb hL)]; exact t _ _ hb
          · rw [upd_same, take_more hd, nats_append]; rfl
        · rintro H8 ⟨t, hL8⟩
          have e1 : (toldN m A).take (nats A).length = toldN m A := by rw [nats_length, ← htl, List.take_length]
          rw [e1] at hL8
          refine ⟨L, _, rfl, hL8, by rw [nats_length]; omega, fun H9 wp s9 nwp hwp => ?_⟩
          refine ⟨a1, wp, _, _, rfl, rfl, (t.trans s9) _ _ ha17, hwp, by rw [List.length_cons, List.length_cons, nats_length]; exact Nat.le_of_lt (size_of (show 1 + ((toldN m A).length + 1) ≤ 100000 by omega)), fun v nv => ?_⟩
          have t8 := same_upd (o := .lst ([V.int 1] ++ V.int ((nats (toldN m A)).length : Int) :: nats (toldN m A))) nv
          have sC := (((s3.trans sB).trans s6).trans t4).trans ((t.trans s9).trans t8)
          refine q _ v (Post.keep p (p1.same sC) (b1.then sC) (by rw [hst3]) ?_ (b1.fresh hr1 (((((s3.trans sB).trans s6).trans t4).trans (t.trans s9)).free nv)).2)
          rw [hst3, upd_same]
          show _ = some (HO.lst (V.int 1 :: iV (Vbkoaf.listed (toldN m A))))
          rw [listed_is, nats_length]; rfl
end
end Vp
set_option Elab.async false
set_option linter.all false
set_option maxRecDepth 100000
set_option maxHeartbeats 1000000
/-! How many come on the days: loads, told. -/
namespace Vp
open PySem PySem.Spec PyProof.Rows L2
open Vbkoaf (Person Day inside State)
open Vb (G Q keys)

theorem nats_set {l : List Nat} {i n : Nat} : (nats l).set i (.int (n : Int)) = nats (l.set i n) := by rw [nats, nats, List.map_set]
def cntD (g : G) (d : Nat) : Nat := g.countP fun t => t.2 == d
def cntK (m : M) (g : G) (d k : Nat) : Nat := g.countP fun t => t.2 == d && kindAt m t.1 == k
def loadN (m : M) (g : G) (d : Nat) : List Nat := [cntD g d, cntK m g d 0, cntK m g d 1, cntK m g d 2, cntK m g d 3]
def loadsN (m : M) (g : G) : List (List Nat) := (List.range m.ds.length).map (loadN m g)
theorem load_other {m : M} {g : G} {t : Nat × Nat} {d : Nat} (h : t.2 ≠ d) : loadN m (g ++ [t]) d = loadN m g d := by
  have e : (t.2 == d) = false := by simpa using h
  simp [loadN, cntD, cntK, List.countP_append, List.countP_cons, e]
theorem load_same {m : M} {g : G} {t : Nat × Nat} (hk : kindAt m t.1 < 4) : loadN m (g ++ [t]) t.2 = ((loadN m g t.2).set 0 (cntD g t.2 + 1)).set (1 + kindAt m t.1) (cntK m g t.2 (kindAt m t.1) + 1) := by
  have : kindAt m t.1 = 0 ∨ kindAt m t.1 = 1 ∨ kindAt m t.1 = 2 ∨ kindAt m t.1 = 3 := by omega
  rcases this with e | e | e | e <;> simp [loadN, cntD, cntK, List.countP_append, List.countP_cons, e]
theorem load_kind {m : M} {g : G} {d k : Nat} (hk : k < 4) : (loadN m g d)[1 + k]? = some (cntK m g d k) := by
  have : k = 0 ∨ k = 1 ∨ k = 2 ∨ k = 3 := by omega
  rcases this with e | e | e | e <;> subst e <;> rfl
theorem loads_get {m : M} {g : G} {d : Nat} (h : d < m.ds.length) : (loadsN m g)[d]? = some (loadN m g d) := by
  rw [loadsN, List.getElem?_map, List.getElem?_range h]; rfl
theorem loads_more {m : M} {g : G} {t : Nat × Nat} (ht : t.2 < m.ds.length) : loadsN m (g ++ [t]) = (loadsN m g).set t.2 (loadN m (g ++ [t]) t.2) := by
  refine List.ext_getElem? fun i => ?_
  rw [List.getElem?_set]
  by_cases c : i < m.ds.length
  · rw [loads_get c]
    split
    · rename_i e
      subst e
      rw [if_pos (by rw [loadsN, List.length_map, List.length_range]; exact ht)]
    · rename_i e
      rw [loads_get c, load_other e]
  · have e1 : (loadsN m (g ++ [t]))[i]? = none := List.getElem?_eq_none (by rw [loadsN, List.length_map, List.length_range]; omega)
    have e2 : (loadsN m g)[i]? = none := List.getElem?_eq_none (by rw [loadsN, List.length_map, List.length_range]; omega)
    rw [e1, if_neg (by omega), e2]
theorem Lists.set {H : Hp} {as : List Addr} {ls : List (List Nat)} {d : Nat} {a : Addr} {s : List Nat} (h : Lists H as ls) (nd : as.Nodup) (ha : as[d]? = some a) : Lists (L2.upd H a (.lst (nats s))) as (ls.set d s) := by
  refine ⟨by rw [List.length_set]; exact h.len, fun i b l h1 h2 => ?_⟩
  rw [List.getElem?_set] at h2
  by_cases c : d = i
  · subst c
    rw [ha] at h1; cases h1
    rw [if_pos rfl] at h2
    split at h2
    · cases h2; exact upd_same
    · cases h2
  · rw [if_neg c] at h2
    have : b ≠ a := fun e => c (nd_ix nd (e ▸ ha) h1)
    rw [upd_ne this]
    exact h.at_ i b l h1 h2
theorem ix_ok {n i : Nat} (h : i < n) : ixN n (i : Int) = some i := by
  unfold ixN
  rw [if_pos (by omega), if_pos (by omega)]
  simp

section
variable {K : PySem.W.Frag} {mg : Str → Option Value} {CG CH CR : Addr}
/-! ### loads_of -/
def spLoads (CH : Addr) : Sp := fun vs H R _ => ∃ (h dd : Addr) (l : Lay) (m : M) (g : G), vs = [.ref h, .ref dd] ∧ HouseAt CH H h l m ∧ MWf m ∧ H dd = some (.dK (kG g)) ∧ (keys g).Nodup ∧ g.length ≤ 1000 ∧ (∀ a ∈ keys g, a < m.ppl.length) ∧ (∀ t ∈ g, t.2 < m.ds.length) ∧
  ∀ H' p as, Same H H' → H p = none → H' p = some (.lst (as.map V.ref)) → Lists H' as (loadsN m g) → (∀ b ∈ as, H b = none) → R (.ref p) H'
theorem pure_loads (T : Txt K mg CG CH CR) (vs : List V) (H : Hp) (R : VK) (E : XK) (h : spLoads CH vs H R E) : t_loads_of K CG CH CR { nx := fun _ H' => R .non H', rt := R } (start ["house", "day_of", "loads", "applicant", "load", "day"] vs) H := by
  obtain ⟨h, dd, l, m, g, rfl, hs, mw, hdd, nd, few, inP, inD, q⟩ := h
  have hdn := mw.dn
  refine ⟨_, rfl, h, CH, l.dx, _, _, rfl, hs.ins, T.cl_House, T.na_House_day_count, hF_day_count, (m.ds.length : Int), rfl, by omega, by omega, fun D hD => ?_⟩
  rw [Int.toNat_natCast]
  refine lc_range (lo := 0) (n := m.ds.length) (fun i H' => ∃ as : List Addr, as.length = i ∧ as.Nodup ∧ Same H H' ∧ H' D = some (.lst (as.map V.ref)) ∧ ∀ b ∈ as, H' b = some (.lst (nats [0, 0, 0, 0, 0])) ∧ H b = none ∧ b ≠ D) ⟨[], rfl, List.nodup_nil, same_upd hD, upd_same, fun b hb => by cases hb⟩ ?_ ?_
  · rintro i H' hi ⟨as, hl, hn, s, hq, hall⟩
    refine ⟨rfl, yes_if ?_⟩
    refine ⟨by show 1 ≤ sizeLine; decide, fun x1 nx1 => ?_⟩
    refine ⟨_, _, rfl, rfl, x1, 5, _, rfl, rfl, upd_same, by decide, by decide, by decide, fun x2 nx2 => ?_⟩
    have t1 := same_upd (o := .lst [V.int 0]) nx1
    have t2 := same_upd (o := .lst (List.replicate (5 : Int).toNat [V.int 0]).flatten) nx2
    have nx2' : H' x2 = none := t1.free nx2
    have hq2 := (t1.trans t2) _ _ hq
    have nx2q : x2 ≠ D := (ne_of_none hq nx2').symm
    refine ⟨_, hq2, by rw [List.length_map, hl]; exact small1000 (by omega), as ++ [x2], by simp [hl], ?_, ?_, ?_, ?_⟩
    · rw [List.nodup_append]
      exact ⟨hn, by simp, fun b hb c hc e => by
        have : c = x2 := by simpa using hc
        subst this
        subst e
        rw [(hall b hb).1] at nx2'; cases nx2'⟩
    · intro b o hb
      rw [upd_ne (ne_of_none hb hD)]; exact (t1.trans t2) _ _ (s _ _ hb)
    · rw [upd_same, List.map_append]; rfl
    · intro b hb
      rcases List.mem_append.mp hb with z | z
      · obtain ⟨h1, h2, h3⟩ := hall b z
        refine ⟨?_, h2, h3⟩
        rw [upd_ne h3]; exact (t1.trans t2) _ _ h1
      · have : b = x2 := by simpa using z
        subst this
        refine ⟨?_, s.free nx2', nx2q⟩
        rw [upd_ne nx2q, upd_same]; rfl
  · rintro H1 ⟨as, hl, hn, s1, hq, hall⟩
    have hdd1 := s1 _ _ hdd
    have nas : ∀ b ∈ as, b ≠ dd := fun b hb e => by have := (hall b hb).2.1; rw [e, hdd] at this; cases this
    have nDdd : D ≠ dd := fun e => by rw [e, hdd] at hD; cases hD
    have hDas : D ∉ as := fun z => (hall D z).2.2 rfl
    refine ⟨dd, _, hdd1, trivial, fun od => ?_⟩
    refine ⟨_, rfl, dd, od, rfl, .inl ⟨_, upd_same, ?_⟩⟩
    refine for_it walk_keys (fun i σ H' => ∃ (v3 v4 v5 : Option V), σ = [some (.ref h), some (.ref dd), some (.ref D), v3, v4, v5] ∧ Fr as (upd H1 dd (.frz od (.dK (kG g)))) H' ∧ Lists H' as (loadsN m (g.take i)))
      ⟨none, none, none, rfl, fun b o hb _ => hb, ⟨by rw [hl, loadsN, List.length_map, List.length_range], fun i b ls h1 h2 => ?_⟩⟩ (fun i σ H' _ ⟨_, _, _, _, f, _⟩ => f _ _ upd_same fun z => nas dd z rfl) ?_ ?_
    · have hb := List.mem_of_getElem? h1
      rw [upd_ne (nas b hb)]
      have : ls = [0, 0, 0, 0, 0] := by
        have hm := List.mem_of_getElem? h2
        obtain ⟨d, _, e⟩ := List.mem_map.mp hm
        rw [← e]; rfl
      rw [this]; exact (hall b hb).1
    · rintro i y σ _ H' hi ⟨v3, v4, v5, rfl, f, hls⟩ ⟨rfl, k, v, hkv, rfl⟩
      obtain ⟨t, ht, rfl, rfl⟩ := kvs_get hkv
      have htm := List.mem_of_getElem? ht
      have htd := inD t htm
      have hta : t.1 < m.ppl.length := inP t.1 (Vb.mem_keys htm)
      have hk4 := mw.kind hta
      have hv : (g.lookup t.1) = some t.2 := mem_look nd htm
      have hfrz : H' dd = some (.frz od (.dK (kG g))) := f _ _ upd_same fun z => nas dd z rfl
      have hD' : H' D = some (.lst (as.map V.ref)) := f _ _ (by rw [upd_ne nDdd]; exact hq) hDas
      have hal : as[t.2]? = some as[t.2] := List.getElem?_eq_getElem (by omega)
      generalize as[t.2] = la at hal
      have hla := hls.at_ t.2 la _ hal (loads_get htd)
      have hlam := List.mem_of_getElem? hal
      have hs' : HouseAt CH H' h l m := by
        have hb : But dd H H' := fun b o hb e => f b o (by rw [upd_ne e]; exact s1 _ _ hb) fun z => by rw [(hall b z).2.1] at hb; cases hb
        exact hs.but hdd hb
      -- load = loads[day_of[applicant]]
      refine ⟨_, rfl, _, rfl, _, rfl, dd, dayV t.2, rfl, .inl ⟨kG g, Sum.inl (t.1 : Int), .inr ⟨od, hfrz⟩, rfl, by rw [kG, val_kvs, hv]; rfl⟩, D, _, _, _, rfl, rfl, SqL.of hD', atI_nat (refs_some hal), ?_⟩
      -- load[0] += 1
      refine ⟨_, rfl, la, _, 0, .int (cntD (g.take i) t.2 : Int), rfl, rfl, SqL.of hla, rfl, _, _, rfl, rfl, la, _, _, 0, rfl, rfl, hla, rfl, ?_⟩
      have e1 : (nats (loadN m (g.take i) t.2)).set 0 (V.int ((cntD (g.take i) t.2 : Int) + 1)) = nats ((loadN m (g.take i) t.2).set 0 (cntD (g.take i) t.2 + 1)) := nats_set (l := loadN m (g.take i) t.2) (i := 0) (n := cntD (g.take i) t.2 + 1)
      rw [e1]
      generalize hx : (loadN m (g.take i) t.2).set 0 (cntD (g.take i) t.2 + 1) = xs
      have hxl : xs.length = 5 := by rw [← hx]; rfl
      have hxk : xs[1 + kindAt m t.1]? = some (cntK m (g.take i) t.2 (kindAt m t.1)) := by
        rw [← hx, List.getElem?_set, if_neg (by omega)]
        exact load_kind hk4
      -- load[1 + house.kind_of[applicant]] += 1
      have hsl : But la H' (upd H' la (.lst (nats xs))) := But.upd
      have hfr : Fr as H' (upd H' la (.lst (nats xs))) := Fr.upd hlam
      have hs2 : HouseAt CH (upd H' la (.lst (nats xs))) h l m := hs'.fr hfr fun b hb z => by
        obtain ⟨o, ho⟩ := hs.there b hb
        rw [(hall b z).2.1] at ho; cases ho
      refine ⟨_, rfl, _, rfl, h, CH, l.dx, _, _, rfl, hs2.ins, T.cl_House, T.na_House_kind_of, hF_kind_of, _, rfl, l.ki, _, _, _, rfl, rfl, SqL.of hs2.ki, atI_nat (nats_some (kind_get hta)), _, _, rfl, rfl, la, _, 1 + kindAt m t.1, .int (cntK m (g.take i) t.2 (kindAt m t.1) : Int), rfl, congrArg V.int (by omega), SqL.of upd_same, nats_some hxk, _, _, rfl, rfl, la, _, _, 1 + kindAt m t.1, rfl, rfl, upd_same, ?_, ?_⟩
      · rw [nats_length, hxl]
        have := ix_ok (n := 5) (i := 1 + kindAt m t.1) (by omega)
        rw [← this]
        congr 1
      · have e2 : (nats xs).set (1 + kindAt m t.1) (V.int ((cntK m (g.take i) t.2 (kindAt m t.1) : Int) + 1)) = nats (xs.set (1 + kindAt m t.1) (cntK m (g.take i) t.2 (kindAt m t.1) + 1)) := nats_set (l := xs) (i := 1 + kindAt m t.1) (n := cntK m (g.take i) t.2 (kindAt m t.1) + 1)
        rw [e2, upd_upd]
        refine ⟨_, _, _, rfl, f.trans (Fr.upd hlam), ?_⟩
        rw [take_more ht, loads_more htd, load_same hk4, hx]
        exact hls.set hn hal
    · rintro σ H' ⟨v3, v4, v5, rfl, f, hls⟩
      have hfrz : H' dd = some (.frz od (.dK (kG g))) := f _ _ upd_same fun z => nas dd z rfl
      refine ⟨hfrz, ?_⟩
      have e0 : g.take (kG g).length = g := by rw [kG, kvs_length, List.take_length]
      rw [e0] at hls
      refine ⟨_, rfl, q _ D as (fun b o hb => ?_) hD ?_ (hls.upd fun b hb => (nas b hb).symm) fun b hb => (hall b hb).2.1⟩
      · by_cases z : b = dd
        · subst z; rw [upd_same, ← hdd, hb]
        · rw [upd_ne z]
          exact f _ _ (by rw [upd_ne z]; exact s1 _ _ hb) fun y => by rw [(hall b y).2.1] at hb; cases hb
      · rw [upd_ne nDdd]
        exact f _ _ (by rw [upd_ne nDdd]; exact hq) hDas

/-! ### limits_of -/
def spLimits (CH : Addr) : Sp := fun vs H R _ => ∃ (h : Addr) (l : Lay) (m : M) (d : Nat) (y : Day), vs = [.ref h, .int (d : Int)] ∧ HouseAt CH H h l m ∧ MWf m ∧ m.ds[d]? = some y ∧
  ∀ H' p, Same H H' → H p = none → H' p = some (.lst (nats (y.places :: y.kinds))) → R (.ref p) H'
theorem pure_limits (T : Txt K mg CG CH CR) (vs : List V) (H : Hp) (R : VK) (E : XK) (h : spLimits CH vs H R E) : t_House_limits_of K CG CH CR { nx := fun _ H' => R .non H', rt := R } (start ["self", "day"] vs) H := by
  obtain ⟨h, l, m, d, y, rfl, hs, mw, hy, q⟩ := h
  have hpl : (m.ds.map (·.places))[d]? = some y.places := by rw [List.getElem?_map, hy]; rfl
  have hkn : (m.ds.map (·.kinds))[d]? = some y.kinds := by rw [List.getElem?_map, hy]; rfl
  have hk4 := mw.kn y (List.mem_of_getElem? hy)
  obtain ⟨qa, hqa, hq⟩ := hs.qs.get hkn
  refine ⟨_, rfl, h, CH, l.dx, _, _, rfl, hs.ins, T.cl_House, T.na_House_places, hF_places, _, rfl, l.pl, _, _, _, rfl, rfl, SqL.of hs.pl, atI_nat (nats_some hpl), by show 1 ≤ sizeLine; decide, fun u nu => ?_⟩
  have s1 := same_upd (o := .lst [V.int (y.places : Int)]) nu
  have hs1 := hs.same s1
  refine ⟨_, rfl, h, CH, l.dx, _, _, rfl, hs1.ins, T.cl_House, T.na_House_quotas, hF_quotas, _, rfl, l.qu, _, _, _, rfl, rfl, SqL.of hs1.qu, atI_nat (refs_some hqa), u, qa, _, _, rfl, rfl, upd_same, s1 _ _ hq, by rw [nats_length, hk4]; show 1 + 4 ≤ sizeLine; decide, fun p np => ?_⟩
  have s2 := same_upd (o := .lst ([V.int (y.places : Int)] ++ nats y.kinds)) np
  exact q _ p (s1.trans s2) (s1.free np) upd_same

/-! ### loads -/
theorem flat_more {ls : List (List Nat)} {i : Nat} {s : List Nat} (h : ls[i]? = some s) : (ls.take (i + 1)).flatten = (ls.take i).flatten ++ s := by
  rw [take_more h, List.flatten_append]; simp
theorem flat5 {m : M} {g : G} : ∀ (i : Nat), (((loadsN m g).take i).flatten).length ≤ 5 * i := fun i => by
  induction i with
  | zero => simp
  | succ i ih =>
    cases e : (loadsN m g)[i]? with
    | none =>
      rw [List.take_add_one, e]
      simp only [Option.toList_none, List.append_nil]
      omega
    | some s =>
      rw [flat_more e, List.length_append]
      obtain ⟨d, _, hd⟩ := List.mem_map.mp (List.mem_of_getElem? e)
      have : s.length = 5 := by rw [← hd]; rfl
      omega
def gP (m : M) (g : G) : List (Person × Nat) := g.map fun t => (mP m t.1, t.2)
theorem zip_gP {m : M} {A dl : List Nat} : (A.map (mP m)).zip dl = gP m (A.zip dl) := by
  rw [gP]
  induction A generalizing dl with
  | nil => rfl
  | cons a A ih =>
    cases dl with
    | nil => rfl
    | cons d dl => rw [List.map_cons, List.zip_cons_cons, List.zip_cons_cons, List.map_cons, ih]
theorem gP_day {m : M} {g : G} {d : Nat} : ((gP m g).filter fun t => t.2 == d).length = cntD g d := by
  rw [← List.countP_eq_length_filter, gP, List.countP_map]; rfl
theorem gP_kind {m : M} {g : G} {d k : Nat} : ((gP m g).filter fun t => t.2 == d && t.1.kind == k).length = cntK m g d k := by
  rw [← List.countP_eq_length_filter, gP, List.countP_map]; rfl
theorem loads_flat {m : M} {g : G} : (loadsN m g).flatten = (List.range m.ds.length).flatMap (loadN m g) := by
  rw [loadsN, List.flatMap]
theorem told_days {m : M} (mo : MOk m) {A : List Nat} (nd : A.Nodup) (lt : ∀ a ∈ A, a < m.ppl.length) (hc : Vbkoaf.canServe m.ds (A.map (mP m)) = true) : ∀ d ∈ toldN m A, d < m.ds.length := by
  have key : ∀ (B D : List Nat) (P : Nat → Person), Vb.Ids P (D ++ B) → Vb.Fit m.ds P (D ++ B) → ∀ d ∈ Vb.giveN m.ds P D B, d < m.ds.length := by
    intro B
    induction B with
    | nil => intro D P _ _ d hd; simp [Vb.giveN] at hd
    | cons x B ih =>
      intro D P ids fit d hd
      rw [Vb.giveN] at hd
      split at hd
      · cases hd
      · rename_i e he
        have hem := List.mem_of_find?_eq_some he
        have hxm : x ∈ D ++ x :: B := List.mem_append_right _ (List.mem_cons_self ..)
        have heN := fit.days x hxm e hem
        rcases List.mem_cons.mp hd with z | z
        · rw [z]; exact heN
        · have e1 : D ++ [x] ++ B = D ++ x :: B := by simp
          exact ih (D ++ [x]) (Vb.setDays P x [e]) (by rw [e1]; exact Vb.ids_set ids) (by rw [e1]; exact Vb.fit_set fit heN) d z
  exact key A [] (mP m) (by simpa using ids_mP mo.wf nd lt) (by simpa using fit_mP mo lt)
theorem pure_call_loads (T : Txt K mg CG CH CR) (vs : List V) (H : Hp) (R : VK) (E : XK) (h : spCallP K CH CR 16 vs H R E) : t_call_loads K CG CH CR (spLoads CH) (spTold K CH) (spServed CH) { nx := fun _ H' => R .non H', rt := R } (start ["house", "reader", "answer", "load"] vs) H := by
  obtain ⟨h, r, dxr, a, l, m, ns, n, c, t, rfl, p, hc, hcl, q⟩ := h
  obtain ⟨_, rfl, rfl⟩ := flat0 (k := 0) rfl hc
  have mo := p.mo
  have hlen := svd_len mo
  have hdn := mo.wf.dn
  have hlt : ∀ b ∈ svd m, b < m.ppl.length := fun b hb => mo.rl b (svd_sub b hb)
  refine ⟨Nat.zero_le _, fun x nx => ?_⟩
  have s0 := same_upd (o := .lst []) nx
  have hs0 := p.hs.same s0
  refine ⟨_, rfl, _, rfl, _, rfl, h, l, m, rfl, hs0, mo, fun H1 y s1 ny hy => ?_⟩
  refine ⟨h, y, l, m, svd m, rfl, hs0.same s1, mo, SqL.of hy, svd_nd mo, hlt, svd_can, fun H2 w s2 nw hw hwl => ?_⟩
  have hk : keys ((svd m).zip (toldN m (svd m))) = svd m := zip_keys hwl.symm
  refine ⟨h, w, l, m, (svd m).zip (toldN m (svd m)), rfl, (hs0.same s1).same s2, mo.wf, hw, by rw [hk]; exact svd_nd mo, by rw [List.length_zip]; omega, by rw [hk]; exact hlt, fun t ht => told_days mo (svd_nd mo) hlt svd_can t.2 (List.of_mem_zip ht).2, fun H3 lp as s3 nlp hlp hls hnas => ?_⟩
  generalize hg : (svd m).zip (toldN m (svd m)) = g at hls
  have hll : (loadsN m g).length = m.ds.length := by rw [loadsN, List.length_map, List.length_range]
  have hasl : as.length = m.ds.length := by rw [hls.len, hll]
  have nx3 : H3 x = some (.lst []) := ((s1.trans s2).trans s3) _ _ upd_same
  have nlx : lp ≠ x := fun e => by
    have h1 : H2 x = some (.lst []) := (s1.trans s2) _ _ upd_same
    rw [e, h1] at nlp; cases nlp
  have nasx : ∀ b ∈ as, b ≠ x := fun b hb e => by
    have h0 := hnas b hb
    have h1 : H2 x = some (.lst []) := (s1.trans s2) _ _ upd_same
    rw [e, h1] at h0; cases h0
  refine ⟨lp, rfl, ⟨_, SqL.of hlp⟩, ?_⟩
  have sA := s0.trans ((s1.trans s2).trans s3)
  refine for_list (K := K) (a := lp) (xs := as.map V.ref) (fun i σ H' => ∃ v3 : Option V, σ = [some (.ref h), some (.ref r), some (.ref x), v3] ∧ But x H3 H' ∧ H' x = some (.lst (nats (((loadsN m g).take i).flatten))))
    ⟨none, rfl, fun b o hb _ => hb, nx3⟩ (fun i σ H' _ ⟨_, _, b, _⟩ => SqL.of (b _ _ hlp nlx)) ?_ ?_
  · rintro i z σ H' hz ⟨v3, rfl, b, hx'⟩
    rw [List.getElem?_map] at hz
    cases ea : as[i]? with
    | none => rw [ea] at hz; cases hz
    | some la =>
      rw [ea] at hz
      cases hz
      have hi : i < as.length := (List.getElem?_eq_some_iff.mp ea).1
      have hget := loads_get (m := m) (g := g) (d := i) (by omega)
      have hla := b _ _ (hls.at_ i la _ ea hget) (nasx la (List.mem_of_getElem? ea))
      have h5 := flat5 (m := m) (g := g) i
      refine ⟨_, rfl, .inl ⟨rfl, _, SqL.of hx'⟩, _, rfl, x, la, _, _, rfl, rfl, hx', hla, by rw [nats_length, nats_length]; exact Nat.le_of_lt (size_of (show _ + 5 ≤ 100000 by omega)), ?_⟩
      refine ⟨_, rfl, b.trans But.upd, ?_⟩
      rw [upd_same, flat_more hget, nats_append]
  · rintro σ H' ⟨v3, rfl, b, hx'⟩
    have sB : Same H H' := fun c o hc => b _ _ (sA _ _ hc) (ne_of_none hc nx)
    refine ⟨_, rfl, q H' x ?_⟩
    rw [List.drop_zero, drop_len rfl p.nl]
    refine Post.keep p (p.same sB) (But.of_same sB) rfl ?_ nx
    rw [hx', List.length_map, hasl, ← hll, List.take_length, loads_flat]
    have hst : (stp m [[16]]).2 = (List.range m.ds.length).flatMap fun d => Vbkoaf.ints (((((Vbkoaf.served (absS m)).zip (Vbkoaf.giving m.ds (Vbkoaf.served (absS m)))).filter fun t => t.2 == d).length) :: (List.range 4).map fun k => (((Vbkoaf.served (absS m)).zip (Vbkoaf.giving m.ds (Vbkoaf.served (absS m)))).filter fun t => t.2 == d && t.1.kind == k).length) := rfl
    show some (HO.lst _) = some (HO.lst (iV (stp m [[16]]).2))
    rw [hst, served_abs, giving_abs (svd_nd mo), zip_gP, hg]
    congr 2
    simp only [gP_day, gP_kind]
    rw [iV, List.map_flatMap, nats, List.map_flatMap]
    congr 1

/-! ### told -/
def pplInts (m : M) (a : Nat) : List Nat := a :: kindAt m a :: (daysAt m a).length :: daysAt m a
def dayInts (y : Day) : List Nat := y.places :: y.kinds
theorem day_len {m : M} (mw : MWf m) : ∀ (i : Nat), ((m.ds.take i).flatMap dayInts).length ≤ 5 * i := fun i => by
  induction i with
  | zero => simp
  | succ i ih =>
    cases e : m.ds[i]? with
    | none =>
      rw [List.take_add_one, e]
      simp only [Option.toList_none, List.append_nil]
      omega
    | some y =>
      rw [take_more e, List.flatMap_append, List.length_append]
      have := mw.kn y (List.mem_of_getElem? e)
      have e5 : ([y].flatMap dayInts).length = 5 := by simp [dayInts, this]
      omega
theorem ppl_len {m : M} (mo : MOk m) : ∀ (i : Nat), ((m.row.take i).flatMap (pplInts m)).length ≤ 63 * i := fun i => by
  induction i with
  | zero => simp
  | succ i ih =>
    cases e : m.row[i]? with
    | none =>
      rw [List.take_add_one, e]
      simp only [Option.toList_none, List.append_nil]
      omega
    | some y =>
      rw [take_more e, List.flatMap_append, List.length_append]
      have := mo.dlen (mo.rl y (List.mem_of_getElem? e))
      have e5 : ([y].flatMap (pplInts m)).length = 3 + (daysAt m y).length := by simp [pplInts]; omega
      omega
theorem pure_call_told (T : Txt K mg CG CH CR) (vs : List V) (H : Hp) (R : VK) (E : XK) (h : spCallP K CH CR 17 vs H R E) : t_call_told K CG CH CR (spLimits CH) spCount { nx := fun _ H' => R .non H', rt := R } (start ["house", "reader", "answer", "day", "applicant"] vs) H := by
  obtain ⟨h, r, dxr, a, l, m, ns, n, c, t, rfl, p, hc, hcl, q⟩ := h
  obtain ⟨_, rfl, rfl⟩ := flat0 (k := 0) rfl hc
  have mo := p.mo
  have hdn := mo.wf.dn
  have h8 := mo.r8
  -- answer = [house.day_count]
  refine ⟨_, rfl, h, CH, l.dx, _, _, rfl, p.hs.ins, T.cl_House, T.na_House_day_count, hF_day_count, by show 1 ≤ sizeLine; decide, fun x nx => ?_⟩
  have s0 := same_upd (o := .lst [V.int (m.ds.length : Int)]) nx
  have hs0 := p.hs.same s0
  refine ⟨_, rfl, h, CH, l.dx, _, _, rfl, hs0.ins, T.cl_House, T.na_House_day_count, hF_day_count, (m.ds.length : Int), rfl, by omega, by omega, ?_⟩
  rw [Int.toNat_natCast]
  refine for_range (lo := 0) (n := m.ds.length) (fun i σ H' => ∃ (v3 v4 : Option V), σ = [some (.ref h), some (.ref r), some (.ref x), v3, v4] ∧ Same H H' ∧ H' x = some (.lst (nats (m.ds.length :: (m.ds.take i).flatMap dayInts))))
    ⟨none, none, rfl, s0, by rw [upd_same]; rfl⟩ ?_ ?_
  · rintro i σ H' hi ⟨v3, v4, rfl, s, hx'⟩
    rw [Int.zero_add]
    have hy : m.ds[i]? = some m.ds[i] := List.getElem?_eq_getElem hi
    generalize m.ds[i] = y at hy
    have hs' := p.hs.same s
    have h5 := day_len mo.wf i
    have hk4 := mo.wf.kn y (List.mem_of_getElem? hy)
    refine ⟨_, rfl, .inl ⟨rfl, _, SqL.of hx'⟩, _, rfl, h, l.dx, _, rfl, hs'.ins, hF_no (by decide +kernel), _, rfl, h, l, m, i, y, rfl, hs', mo.wf, hy, fun H1 u s1 nu hu => ?_⟩
    have hx1 := s1 _ _ hx'
    refine ⟨x, u, _, _, rfl, rfl, hx1, hu, by rw [nats_length, nats_length]; exact Nat.le_of_lt (size_of (show (_ + 1) + (_ + 1) ≤ 100000 by omega)), ?_⟩
    refine ⟨_, _, rfl, fun b o hb => ?_, ?_⟩
    · rw [upd_ne (ne_of_none hb nx)]; exact s1 _ _ (s _ _ hb)
    · rw [upd_same, take_more hy, List.flatMap_append, ← nats_append]
      simp [dayInts]
  · rintro σ H' ⟨v3, v4, rfl, s, hx'⟩
    rw [List.take_length] at hx'
    have hs' := p.hs.same s
    have h5 := day_len mo.wf m.ds.length
    rw [List.take_length] at h5
    -- answer.append(len(house.row))
    refine ⟨_, rfl, .inl ⟨rfl, _, SqL.of hx'⟩, _, rfl, h, CH, l.dx, _, _, rfl, hs'.ins, T.cl_House, T.na_House_row, hF_row, l.ro, _, rfl, .inl (SqL.of hs'.ro), x, _, _, rfl, rfl, hx', by rw [nats_length]; exact size_of (show _ + 1 ≤ 100000 by omega), ?_⟩
    have e1 : nats (m.ds.length :: m.ds.flatMap dayInts) ++ [V.int ((nats m.row).length : Int)] = nats (m.ds.length :: m.ds.flatMap dayInts ++ [m.row.length]) := by rw [nats_append, nats_length]; rfl
    rw [e1]
    generalize hbase : m.ds.length :: m.ds.flatMap dayInts ++ [m.row.length] = base
    have hbl : base.length ≤ 42 := by rw [← hbase, List.length_append, List.length_cons, List.length_singleton]; omega
    have s1 : Same H (upd H' x (.lst (nats base))) := fun b o hb => by rw [upd_ne (ne_of_none hb nx)]; exact s _ _ hb
    have hx1 : (upd H' x (.lst (nats base))) x = some (.lst (nats base)) := upd_same
    generalize upd H' x (.lst (nats base)) = H1 at s1 hx1
    have hs1 := p.hs.same s1
    refine ⟨_, rfl, h, CH, l.dx, _, _, rfl, hs1.ins, T.cl_House, T.na_House_row, hF_row, l.ro, rfl, ⟨_, SqL.of hs1.ro⟩, ?_⟩
    refine for_list (K := K) (a := l.ro) (xs := nats m.row) (fun i σ H' => ∃ (v3 v4 : Option V), σ = [some (.ref h), some (.ref r), some (.ref x), v3, v4] ∧ Same H H' ∧ H' x = some (.lst (nats (base ++ (m.row.take i).flatMap (pplInts m)))))
      ⟨_, _, rfl, s1, by rw [List.take_zero]; simpa using hx1⟩ (fun i σ H' _ ⟨_, _, _, s, _⟩ => SqL.of (s _ _ p.hs.ro)) ?_ ?_
    · rintro i z σ H' hz ⟨v3, v4, rfl, s, hx'⟩
      obtain ⟨b, hb, rfl⟩ := of_nats hz
      have hi : i < m.row.length := (List.getElem?_eq_some_iff.mp hb).1
      have hbP := mo.rl b (List.mem_of_getElem? hb)
      have hdl := mo.dlen hbP
      have h63 := ppl_len mo i
      have hxl : (base ++ (m.row.take i).flatMap (pplInts m)).length ≤ 1000 := by rw [List.length_append]; omega
      have hstep : base ++ (m.row.take (i + 1)).flatMap (pplInts m) = base ++ (m.row.take i).flatMap (pplInts m) ++ pplInts m b := by
        rw [take_more hb, List.flatMap_append]; simp
      rw [hstep]
      generalize base ++ (m.row.take i).flatMap (pplInts m) = xs at hx' hxl
      -- answer.append(applicant)
      refine ⟨_, rfl, .inl ⟨rfl, _, SqL.of hx'⟩, _, rfl, x, _, _, rfl, rfl, hx', by rw [nats_length]; exact size_of (by omega), ?_⟩
      have f1 : Same H (upd H' x (.lst (nats xs ++ [V.int (b : Int)]))) := fun c o hc => by rw [upd_ne (ne_of_none hc nx)]; exact s _ _ hc
      have g1 : (upd H' x (.lst (nats xs ++ [V.int (b : Int)]))) x = some (.lst (nats xs ++ [V.int (b : Int)])) := upd_same
      generalize upd H' x (.lst (nats xs ++ [V.int (b : Int)])) = H2 at f1 g1
      have hs2 := p.hs.same f1
      -- answer.append(house.kind_of[applicant])
      refine ⟨_, rfl, .inl ⟨rfl, _, SqL.of g1⟩, _, rfl, h, CH, l.dx, _, _, rfl, hs2.ins, T.cl_House, T.na_House_kind_of, hF_kind_of, _, rfl, l.ki, _, _, _, rfl, rfl, SqL.of hs2.ki, atI_nat (nats_some (kind_get hbP)), x, _, _, rfl, rfl, g1, by rw [List.length_append, nats_length]; exact size_of (show xs.length + 1 ≤ 100000 by omega), ?_⟩
      have f2 : Same H (upd H2 x (.lst (nats xs ++ [V.int (b : Int)] ++ [V.int (kindAt m b : Int)]))) := fun c o hc => by rw [upd_ne (ne_of_none hc nx)]; exact f1 _ _ hc
      have g2 : (upd H2 x (.lst (nats xs ++ [V.int (b : Int)] ++ [V.int (kindAt m b : Int)]))) x = some (.lst (nats xs ++ [V.int (b : Int)] ++ [V.int (kindAt m b : Int)])) := upd_same
      generalize upd H2 x (.lst (nats xs ++ [V.int (b : Int)] ++ [V.int (kindAt m b : Int)])) = H3 at f2 g2
      have hs3 := p.hs.same f2
      obtain ⟨k1, k2⟩ := as_get hs3 hbP
      -- answer.extend(with_count(house.days_of[applicant]))
      refine ⟨_, rfl, .inl ⟨rfl, _, SqL.of g2⟩, _, rfl, h, CH, l.dx, _, _, rfl, hs3.ins, T.cl_House, T.na_House_days_of, hF_days_of, _, rfl, l.da, _, _, _, rfl, rfl, SqL.of hs3.da, atI_nat (refs_some k1), l.as.getD b 0, _, rfl, k2, by rw [nats_length]; omega, fun H4 w s4 nw hw => ?_⟩
      have g4 := s4 _ _ g2
      refine ⟨x, w, _, _, rfl, rfl, g4, hw, ?_, ?_⟩
      · refine Nat.le_of_lt (size_of ?_)
        simp only [List.length_append, List.length_cons, List.length_nil, nats_length]
        omega
      · refine ⟨_, _, rfl, fun c o hc => ?_, ?_⟩
        · rw [upd_ne (ne_of_none hc nx)]; exact s4 _ _ (f2 _ _ hc)
        · rw [upd_same, nats_append, nats_length]
          simp [pplInts, nats]
    · rintro σ H' ⟨v3, v4, rfl, s, hx'⟩
      refine ⟨_, rfl, q H' x ?_⟩
      rw [List.drop_zero, drop_len rfl p.nl]
      refine Post.keep p (p.same s) (But.of_same s) rfl ?_ nx
      rw [hx', nats_length, List.take_length, ← hbase]
      have hst : (stp m [[17]]).2 = Vbkoaf.whole m.ds.length :: (m.ds.flatMap fun y => Vbkoaf.ints (y.places :: y.kinds)) ++ (Vbkoaf.whole (m.row.map (mP m)).length :: (m.row.map (mP m)).flatMap fun p => [Vbkoaf.whole p.id, Vbkoaf.whole p.kind] ++ Vbkoaf.listed p.days) := rfl
      show some (HO.lst _) = some (HO.lst (iV (stp m [[17]]).2))
      rw [hst]
      congr 2
      rw [nats_iV]
      congr 1
      rw [List.length_map, List.flatMap_map]
      simp only [List.map_append, List.map_cons, List.map_nil, List.map_flatMap, List.append_assoc, List.cons_append, List.nil_append]
      rfl
end
end Vp
set_option Elab.async false
set_option linter.all false
set_option maxRecDepth 100000
set_option maxHeartbeats 1000000
/-! A twin of the house. -/
namespace Vp
open PySem PySem.Spec PyProof.Rows L2
open Vbkoaf (Person Day inside State)
open Vb (G Q keys)

/-- a thing is laid, and a field of one that is new is set to it -/
theorem step_fld {H H1 : Hp} {x p dx C : Addr} {f1 f2 : List (Str × V)} {o : HO} (nx : H x = none) (s : Same H H1) (hx : H1 x = some (.ins C dx f1)) (np : H1 p = none) :
    Same H (upd (upd H1 p o) x (.ins C dx f2)) ∧ But x H1 (upd (upd H1 p o) x (.ins C dx f2)) ∧ (upd (upd H1 p o) x (.ins C dx f2)) x = some (.ins C dx f2) ∧ (upd (upd H1 p o) x (.ins C dx f2)) p = some o ∧ p ≠ x ∧ H p = none := by
  have n : p ≠ x := fun e => by rw [e, hx] at np; cases np
  refine ⟨fun b u hb => ?_, fun b u hb hn => ?_, upd_same, ?_, n, s.free np⟩
  · rw [upd_ne (ne_of_none hb nx)]; exact same_upd np _ _ (s _ _ hb)
  · rw [upd_ne hn]; exact same_upd np _ _ hb
  · rw [upd_ne n, upd_same]
/-- what of a house lies in places of its own, the lists of days aside -/
def Lay.mine (a : Addr) (l : Lay) : List Addr := a :: l.pl :: l.qu :: l.ki :: l.da :: l.ro :: l.qs
section
variable {K : PySem.W.Frag} {mg : Str → Option Value} {CG CH CR : Addr}
def spTwin (CH : Addr) : Sp := fun vs H R _ => ∃ (h : Addr) (l : Lay) (m : M), vs = [.ref h] ∧ HouseAt CH H h l m ∧ MWf m ∧ m.row.length ≤ 1000 ∧
  ∀ H' t lt, Same H H' → HouseAt CH H' t lt m → (∀ b ∈ lt.mine t, H b = none) → lt.as = l.as → R (.ref t) H'
theorem pure_twin (T : Txt K mg CG CH CR) (vs : List V) (H : Hp) (R : VK) (E : XK) (h : spTwin CH vs H R E) : t_House_twin K CG CH CR (spHInit CH) { nx := fun _ H' => R .non H', rt := R } (start ["self", "other", "quotas"] vs) H := by
  obtain ⟨h, l, m, rfl, hs, mw, hrl, q⟩ := h
  have hdn := mw.dn
  have hpn := mw.pn
  refine fun x dx nx ndx ne => ⟨x, dx, rfl, upd_same, fun H1 l0 hs0 b0 _ => ⟨rfl, ?_⟩⟩
  have s1 : Same H H1 := made nx ndx b0
  have x1 : H1 x = some (.ins CH l0.dx (hF 1 l0)) := hs0.ins
  have hs1 := hs.same s1
  have k0 : (hF 1 l0).length ≤ 6 := Nat.le_refl _
  -- other.day_count = self.day_count
  refine ⟨_, rfl, h, CH, l.dx, _, _, rfl, hs1.ins, T.cl_House, T.na_House_day_count, hF_day_count, _, rfl, x, CH, l0.dx, _, rfl, x1, T.cl_House, T.na_House_day_count, by omega, ?_⟩
  have k1 := putF_len (f := "day_count") (v := .int (m.ds.length : Int)) (fs := hF 1 l0)
  generalize ef1 : putF "day_count" (V.int (m.ds.length : Int)) (hF 1 l0) = f1 at k1
  have s2 : Same H (upd H1 x (.ins CH l0.dx f1)) := fun b u hb => by rw [upd_ne (ne_of_none hb nx)]; exact s1 _ _ hb
  have x2 : (upd H1 x (.ins CH l0.dx f1)) x = some (.ins CH l0.dx f1) := upd_same
  generalize upd H1 x (.ins CH l0.dx f1) = H2 at s2 x2
  have hs2 := hs.same s2
  -- other.places = list(self.places)
  refine ⟨_, rfl, h, CH, l.dx, _, _, rfl, hs2.ins, T.cl_House, T.na_House_places, hF_places, l.pl, _, rfl, .inl (SqL.of hs2.pl), fun pl npl => ?_⟩
  refine ⟨_, rfl, x, CH, l0.dx, _, rfl, same_upd npl _ _ x2, T.cl_House, T.na_House_places, by omega, ?_⟩
  have k2 := putF_len (f := "places") (v := .ref pl) (fs := f1)
  generalize ef2 : putF "places" (V.ref pl) f1 = f2 at k2
  obtain ⟨s3, b3, x3, pl3, nplx, fpl⟩ := step_fld (f2 := f2) (o := .lst (nats (m.ds.map (·.places)))) nx s2 x2 npl
  generalize upd (upd H2 pl (.lst (nats (m.ds.map (·.places))))) x (.ins CH l0.dx f2) = H3 at s3 b3 x3 pl3
  have hs3 := hs.same s3
  -- other.quotas = [list(quotas) for quotas in self.quotas]
  refine ⟨_, rfl, h, CH, l.dx, _, _, rfl, hs3.ins, T.cl_House, T.na_House_quotas, hF_quotas, l.qu, rfl, ⟨_, SqL.of hs3.qu⟩, fun qu nqu => ?_⟩
  refine lc_list (K := K) (a := l.qu) (xs := l.qs.map V.ref) (fun i H' => ∃ qs : List Addr, qs.length = i ∧ qs.Nodup ∧ Same H3 H' ∧ H' qu = some (.lst (qs.map V.ref)) ∧ (∀ b ∈ qs, H3 b = none ∧ b ≠ qu) ∧ ∀ (j : Nat) (b : Addr) (ls : List Nat), qs[j]? = some b → (m.ds.map (·.kinds))[j]? = some ls → H' b = some (.lst (nats ls)))
    ⟨[], rfl, List.nodup_nil, same_upd nqu, upd_same, (fun b hb => by cases hb), fun j b ls hb => by cases hb⟩ (fun i H' _ ⟨_, _, _, s, _⟩ => s.seq (SqL.of hs3.qu)) ?_ ?_
  · rintro i v H' hv ⟨qs, hl, hn, s, hq, hall, hat⟩
    rw [List.getElem?_map] at hv
    cases ea : l.qs[i]? with
    | none => rw [ea] at hv; cases hv
    | some qa =>
      rw [ea] at hv
      cases hv
      have hi : i < l.qs.length := (List.getElem?_eq_some_iff.mp ea).1
      have hql := hs.qs.len
      have hi2 : i < (m.ds.map (·.kinds)).length := by omega
      have hi3 : i < m.ds.length := by simpa using hi2
      have hkd : (m.ds.map (·.kinds))[i]? = some (m.ds.map (·.kinds))[i] := List.getElem?_eq_getElem hi2
      generalize (m.ds.map (·.kinds))[i] = kd at hkd
      have hqa := s _ _ (hs3.qs.at_ i qa kd ea hkd)
      refine ⟨rfl, yes_if ?_⟩
      refine ⟨_, rfl, qa, _, rfl, .inl (SqL.of hqa), fun y ny => ?_⟩
      have t := same_upd (o := .lst (nats kd)) ny
      have nyq : y ≠ qu := (ne_of_none hq ny).symm
      refine ⟨_, t _ _ hq, by rw [List.length_map, hl]; exact small1000 (by omega), qs ++ [y], by simp [hl], ?_, ?_, ?_, ?_, ?_⟩
      · rw [List.nodup_append]
        refine ⟨hn, by simp, fun b hb c hc e => ?_⟩
        have : c = y := by simpa using hc
        subst this
        subst e
        obtain ⟨j, hj⟩ := List.mem_iff_getElem?.mp hb
        have hjl : j < qs.length := (List.getElem?_eq_some_iff.mp hj).1
        have := hat j b _ hj (List.getElem?_eq_getElem (by omega))
        rw [this] at ny; cases ny
      · intro b o hb
        rw [upd_ne (ne_of_none hb nqu)]; exact t _ _ (s _ _ hb)
      · rw [upd_same, List.map_append]; rfl
      · intro b hb
        rcases List.mem_append.mp hb with z | z
        · exact hall b z
        · have : b = y := by simpa using z
          subst this
          exact ⟨s.free ny, nyq⟩
      · intro j b ls hb hls
        by_cases c : j < qs.length
        · rw [List.getElem?_append_left c] at hb
          rw [upd_ne (hall b (List.mem_of_getElem? hb)).2]
          exact t _ _ (hat j b ls hb hls)
        · rw [List.getElem?_append_right (by omega)] at hb
          have e : j = i := by
            have := (List.getElem?_eq_some_iff.mp hb).1
            simp at this
            omega
          subst e
          rw [hl, Nat.sub_self] at hb
          cases hb
          rw [hkd] at hls; cases hls
          rw [upd_ne nyq, upd_same]
  · rintro H4 ⟨qs, hl, hn, s34, hq, hall, hat⟩
    rw [List.length_map, hs.qs.len, List.length_map] at hl
    have s4 := s3.trans s34
    have x4 := s34 _ _ x3
    have pl4 := s34 _ _ pl3
    have nqux : qu ≠ x := fun e => by rw [e, x3] at nqu; cases nqu
    have fqu : H qu = none := s3.free nqu
    have fqs : ∀ b ∈ qs, H b = none := fun b hb => s3.free (hall b hb).1
    have nqsx : ∀ b ∈ qs, b ≠ x := fun b hb e => by have := (hall b hb).1; rw [e, x3] at this; cases this
    have nplqu : pl ≠ qu := ne_of_none pl3 nqu
    have nplqs : ∀ b ∈ qs, pl ≠ b := fun b hb => ne_of_none pl3 (hall b hb).1
    refine ⟨_, rfl, x, CH, l0.dx, _, rfl, x4, T.cl_House, T.na_House_quotas, by omega, ?_⟩
    have k3 := putF_len (f := "quotas") (v := .ref qu) (fs := f2)
    generalize ef3 : putF "quotas" (V.ref qu) f2 = f3 at k3
    have s5 : Same H (upd H4 x (.ins CH l0.dx f3)) := fun b u hb => by rw [upd_ne (ne_of_none hb nx)]; exact s4 _ _ hb
    have x5 : (upd H4 x (.ins CH l0.dx f3)) x = some (.ins CH l0.dx f3) := upd_same
    have b45 : But x H4 (upd H4 x (.ins CH l0.dx f3)) := But.upd
    generalize upd H4 x (.ins CH l0.dx f3) = H5 at s5 x5 b45
    have hs5 := hs.same s5
    have pl5 := b45 _ _ pl4 nplx
    have qu5 := b45 _ _ hq nqux
    have qs5 : ∀ b ∈ qs, ∃ o, H5 b = some o := fun b hb => by
      obtain ⟨j, hj⟩ := List.mem_iff_getElem?.mp hb
      have hjl : j < qs.length := (List.getElem?_eq_some_iff.mp hj).1
      exact ⟨_, b45 _ _ (hat j b _ hj (List.getElem?_eq_getElem (by simp; omega))) (nqsx b hb)⟩
    -- other.kind_of = list(self.kind_of)
    refine ⟨_, rfl, h, CH, l.dx, _, _, rfl, hs5.ins, T.cl_House, T.na_House_kind_of, hF_kind_of, l.ki, _, rfl, .inl (SqL.of hs5.ki), fun ki nki => ?_⟩
    refine ⟨_, rfl, x, CH, l0.dx, _, rfl, same_upd nki _ _ x5, T.cl_House, T.na_House_kind_of, by omega, ?_⟩
    have k4 := putF_len (f := "kind_of") (v := .ref ki) (fs := f3)
    generalize ef4 : putF "kind_of" (V.ref ki) f3 = f4 at k4
    obtain ⟨s6, b56, x6, ki6, nkix, fki⟩ := step_fld (f2 := f4) (o := .lst (nats (m.ppl.map (·.1)))) nx s5 x5 nki
    generalize upd (upd H5 ki (.lst (nats (m.ppl.map (·.1))))) x (.ins CH l0.dx f4) = H6 at s6 b56 x6 ki6
    have hs6 := hs.same s6
    -- other.days_of = list(self.days_of)
    refine ⟨_, rfl, h, CH, l.dx, _, _, rfl, hs6.ins, T.cl_House, T.na_House_days_of, hF_days_of, l.da, _, rfl, .inl (SqL.of hs6.da), fun da nda => ?_⟩
    refine ⟨_, rfl, x, CH, l0.dx, _, rfl, same_upd nda _ _ x6, T.cl_House, T.na_House_days_of, by omega, ?_⟩
    have k5 := putF_len (f := "days_of") (v := .ref da) (fs := f4)
    generalize ef5 : putF "days_of" (V.ref da) f4 = f5 at k5
    obtain ⟨s7, b67, x7, da7, ndax, fda⟩ := step_fld (f2 := f5) (o := .lst (l.as.map V.ref)) nx s6 x6 nda
    generalize upd (upd H6 da (.lst (l.as.map V.ref))) x (.ins CH l0.dx f5) = H7 at s7 b67 x7 da7
    have hs7 := hs.same s7
    -- other.row = list(self.row)
    refine ⟨_, rfl, h, CH, l.dx, _, _, rfl, hs7.ins, T.cl_House, T.na_House_row, hF_row, l.ro, _, rfl, .inl (SqL.of hs7.ro), fun ro nro => ?_⟩
    refine ⟨_, rfl, x, CH, l0.dx, _, rfl, same_upd nro _ _ x7, T.cl_House, T.na_House_row, by omega, ?_⟩
    obtain ⟨s8, b78, x8, ro8, nrox, fro⟩ := step_fld (f2 := putF "row" (V.ref ro) f5) (o := .lst (nats m.row)) nx s7 x7 nro
    generalize upd (upd H7 ro (.lst (nats m.row))) x (.ins CH l0.dx (putF "row" (V.ref ro) f5)) = H8 at s8 b78 x8 ro8
    have b58 : But x H5 H8 := (b56.trans b67).trans b78
    have nki7 : H5 ki = none := nki
    have nda5 : H5 da = none := (b56.fresh x6 nda).2
    have nro6 : H6 ro = none := (b67.fresh x7 nro).2
    have nro5 : H5 ro = none := (b56.fresh x6 nro6).2
    have nplki := ne_of_none pl5 nki
    have nplda := ne_of_none pl5 nda5
    have nplro := ne_of_none pl5 nro5
    have nquki := ne_of_none qu5 nki
    have nquda := ne_of_none qu5 nda5
    have nquro := ne_of_none qu5 nro5
    have nkida := ne_of_none ki6 nda
    have nkiro := ne_of_none ki6 nro6
    have ndaro := ne_of_none da7 nro
    have asT : ∀ b ∈ l.as, ∃ o, H b = some o := fun b hb => hs.there b (by simp [Lay.all, hb])
    have off : ∀ c, H c = none → c ∉ l.as := fun c hc z => by obtain ⟨o, ho⟩ := asT c z; rw [hc] at ho; cases ho
    refine ⟨_, rfl, q H8 x ⟨l0.dx, pl, qu, ki, da, ro, qs, l.as⟩ s8 ⟨?_, ?_, ?_, ⟨?_, ?_⟩, ?_, ?_, ?_, ?_, ?_⟩ ?_ rfl⟩
    · rw [x8]
      congr 2
      rw [← ef5, ← ef4, ← ef3, ← ef2, ← ef1]
      exact hF_chain (l := ⟨l0.dx, pl, qu, ki, da, ro, qs, l.as⟩) (.inr ⟨1, l0, rfl⟩) rfl
    · exact b58 _ _ pl5 nplx
    · exact b58 _ _ qu5 nqux
    · rw [List.length_map]; exact hl
    · intro i b ls h1 h2
      have hb := List.mem_of_getElem? h1
      exact b58 _ _ (b45 _ _ (hat i b ls h1 h2) (nqsx b hb)) (nqsx b hb)
    · exact (b67.trans b78) _ _ ki6 nkix
    · exact b78 _ _ da7 ndax
    · exact hs.as.same s8
    · exact ro8
    · simp only [Lay.all, List.nodup_cons, List.mem_cons, List.mem_append, not_or, List.nodup_append]
      refine ⟨⟨nplx.symm, nqux.symm, nkix.symm, ndax.symm, nrox.symm, fun z => nqsx x z rfl, off x nx⟩, ⟨nplqu, nplki, nplda, nplro, fun z => nplqs pl z rfl, off pl fpl⟩, ⟨nquki, nquda, nquro, fun z => (hall qu z).2 rfl, off qu fqu⟩,
        ⟨nkida, nkiro, fun z => ?_, off ki fki⟩, ⟨ndaro, fun z => ?_, off da fda⟩, ⟨fun z => ?_, off ro fro⟩, hn, (apart hs.nd).asn, fun b hb c hc e => off b (fqs b hb) (e ▸ hc)⟩
      · obtain ⟨o, ho⟩ := qs5 ki z; rw [nki] at ho; cases ho
      · obtain ⟨o, ho⟩ := qs5 da z; rw [nda5] at ho; cases ho
      · obtain ⟨o, ho⟩ := qs5 ro z; rw [nro5] at ho; cases ho
    · intro b hb
      simp only [Lay.mine, List.mem_cons] at hb
      rcases hb with z | z | z | z | z | z | z
      · rw [z]; exact nx
      · rw [z]; exact fpl
      · rw [z]; exact fqu
      · rw [z]; exact fki
      · rw [z]; exact fda
      · rw [z]; exact fro
      · exact fqs b z
end
end Vp
set_option Elab.async false
set_option linter.all false
set_option maxRecDepth 100000
set_option maxHeartbeats 1000000
/-! What would be: lacking, far. -/
namespace Vp
open PySem PySem.Spec PyProof.Rows L2
open Vbkoaf (Person Day inside State)
open Vb (G Q keys)

theorem modify_is {α : Type} {f : α → α} {y : α} : ∀ {l : List α} {d : Nat}, l[d]? = some y → l.modify d f = l.set d (f y)
  | [], d, h => by cases h
  | a :: l, 0, h => by
    have : a = y := by simpa using h
    subst this; rfl
  | a :: l, d + 1, h => by
    have h' : l[d]? = some y := by simpa using h
    rw [List.modify_succ_cons, List.set_cons_succ, modify_is h']
/-- those served, other days or another row -/
def svdD (m : M) (ds : List Day) (row : List Nat) : List Nat := Vb.servedN ds (mP m) [] row
theorem isServed_is {m : M} {ds : List Day} {row : List Nat} {x : Nat} : Vbkoaf.isServed ds (row.map (mP m)) x = decide (x ∈ svdD m ds row) := by
  rw [Vbkoaf.isServed, show Vbkoaf.servedOf ds [] (row.map (mP m)) = (svdD m ds row).map (mP m) from Vb.served_is row [], List.any_map, Bool.eq_iff_iff, List.any_eq_true, decide_eq_true_eq]
  constructor
  · rintro ⟨y, hy, e⟩
    have : y = x := by simpa [mP] using e
    exact this ▸ hy
  · intro h
    exact ⟨x, h, by simp [mP]⟩
theorem same_twin {H H1 : Hp} {t : Addr} {lt : Lay} {b : Addr} {o : HO} (s : Same H H1) (f : ∀ c ∈ lt.mine t, H c = none) (hb : b ∈ lt.mine t) : Same H (upd H1 b o) := fun c u hc => by
  rw [upd_ne (ne_of_none hc (f b hb))]; exact s _ _ hc

section
variable {K : PySem.W.Frag} {mg : Str → Option Value} {CG CH CR : Addr}
/-! ### would_place_do, would_quota_do -/
def spPlaceDo (CH : Addr) : Sp := fun vs H R _ => ∃ (h : Addr) (l : Lay) (m : M) (x d : Nat), vs = [.ref h, .int (x : Int), .int (d : Int)] ∧ HouseAt CH H h l m ∧ MOk m ∧ d < m.ds.length ∧
  ∀ H', Same H H' → R (.bl (decide (x ∈ svdD m (Vbkoaf.morePlaces m.ds d) m.row))) H'
theorem pure_place_do (T : Txt K mg CG CH CR) (vs : List V) (H : Hp) (R : VK) (E : XK) (h : spPlaceDo CH vs H R E) : t_would_place_do K CG CH CR (spTwin CH) (spServed CH) { nx := fun _ H' => R .non H', rt := R } (start ["house", "applicant", "day", "tried"] vs) H := by
  obtain ⟨h, l, m, x, d, rfl, hs, mo, hd, q⟩ := h
  have h8 := mo.r8
  have hy : m.ds[d]? = some m.ds[d] := List.getElem?_eq_getElem hd
  generalize m.ds[d] = y at hy
  have hpl : (m.ds.map (·.places))[d]? = some y.places := by rw [List.getElem?_map, hy]; rfl
  refine ⟨_, rfl, h, l.dx, _, rfl, hs.ins, hF_no (by decide +kernel), h, l, m, rfl, hs, mo.wf, by omega, fun H1 t lt s1 ht ft et => ?_⟩
  refine ⟨_, rfl, t, CH, lt.dx, _, _, rfl, ht.ins, T.cl_House, T.na_House_places, hF_places, _, rfl, lt.pl, _, d, .int (y.places : Int), rfl, rfl, SqL.of ht.pl, nats_some hpl, _, _, rfl, rfl, lt.pl, _, _, d, rfl, rfl, ht.pl, by rw [nats_length, List.length_map]; exact ix_ok hd, ?_⟩
  have hs2 : HouseAt CH (upd H1 lt.pl (.lst ((nats (m.ds.map (·.places))).set d (.int ((y.places : Int) + 1))))) t lt { m with ds := m.ds.set d { y with places := y.places + 1 } } := ht.setPlaces (c := y.places + 1) hy
  have em : Vbkoaf.morePlaces m.ds d = m.ds.set d { y with places := y.places + 1 } := modify_is hy
  rw [← em] at hs2
  have hk4 := mo.wf.kn y (List.mem_of_getElem? hy)
  have mo2 : MOk { m with ds := Vbkoaf.morePlaces m.ds d } := by
    rw [em]
    refine mok_ds mo (by rw [List.length_set]) fun z hz => ?_
    rcases mem_set hz with e | e
    · exact mo.wf.kn z e
    · rw [e]; exact hk4
  have s2 := same_twin (o := .lst ((nats (m.ds.map (·.places))).set d (.int ((y.places : Int) + 1)))) s1 ft (b := lt.pl) (by simp [Lay.mine])
  generalize upd H1 lt.pl (.lst ((nats (m.ds.map (·.places))).set d (.int ((y.places : Int) + 1)))) = H2 at hs2 s2
  refine ⟨_, rfl, _, rfl, t, lt, _, rfl, hs2, mo2, fun H3 p s3 np hp => ?_⟩
  refine ⟨p, _, rfl, .inl (SqL.of hp), rfl, flat_nats _, ?_⟩
  exact vq (Q := R) inV_nats (q H3 (s2.trans s3))

def spQuotaDo (CH : Addr) : Sp := fun vs H R _ => ∃ (h : Addr) (l : Lay) (m : M) (x d k : Nat), vs = [.ref h, .int (x : Int), .int (d : Int), .int (k : Int)] ∧ HouseAt CH H h l m ∧ MOk m ∧ d < m.ds.length ∧ k < 4 ∧
  ∀ H', Same H H' → R (.bl (decide (x ∈ svdD m (Vbkoaf.moreKind m.ds d k) m.row))) H'
theorem pure_quota_do (T : Txt K mg CG CH CR) (vs : List V) (H : Hp) (R : VK) (E : XK) (h : spQuotaDo CH vs H R E) : t_would_quota_do K CG CH CR (spTwin CH) (spServed CH) { nx := fun _ H' => R .non H', rt := R } (start ["house", "applicant", "day", "kind", "tried"] vs) H := by
  obtain ⟨h, l, m, x, d, k, rfl, hs, mo, hd, hk, q⟩ := h
  have h8 := mo.r8
  have hy : m.ds[d]? = some m.ds[d] := List.getElem?_eq_getElem hd
  generalize m.ds[d] = y at hy
  have hk4 := mo.wf.kn y (List.mem_of_getElem? hy)
  have hkn : (m.ds.map (·.kinds))[d]? = some y.kinds := by rw [List.getElem?_map, hy]; rfl
  have hz : y.kinds[k]? = some y.kinds[k] := List.getElem?_eq_getElem (by omega)
  generalize y.kinds[k] = n at hz
  refine ⟨_, rfl, h, l.dx, _, rfl, hs.ins, hF_no (by decide +kernel), h, l, m, rfl, hs, mo.wf, by omega, fun H1 t lt s1 ht ft et => ?_⟩
  obtain ⟨qa, hqa, hq⟩ := ht.qs.get hkn
  refine ⟨_, rfl, t, CH, lt.dx, _, _, rfl, ht.ins, T.cl_House, T.na_House_quotas, hF_quotas, _, rfl, lt.qu, _, _, _, rfl, rfl, SqL.of ht.qu, atI_nat (refs_some hqa), _, rfl, qa, _, k, .int (n : Int), rfl, rfl, SqL.of hq, nats_some hz, _, _, rfl, rfl, qa, _, _, k, rfl, rfl, hq, by rw [nats_length, hk4]; exact ix_ok hk, ?_⟩
  have hs2 : HouseAt CH (upd H1 qa (.lst ((nats y.kinds).set k (.int ((n : Int) + 1))))) t lt { m with ds := m.ds.set d { y with kinds := y.kinds.set k (n + 1) } } := ht.setQuota (q := n + 1) hy hqa
  have em : Vbkoaf.moreKind m.ds d k = m.ds.set d { y with kinds := y.kinds.set k (n + 1) } := by
    rw [Vbkoaf.moreKind, modify_is hy, modify_is hz]
  rw [← em] at hs2
  have mo2 : MOk { m with ds := Vbkoaf.moreKind m.ds d k } := by
    rw [em]
    refine mok_ds mo (by rw [List.length_set]) fun z hz => ?_
    rcases mem_set hz with e | e
    · exact mo.wf.kn z e
    · rw [e]; show (y.kinds.set k (n + 1)).length = 4; rw [List.length_set]; exact hk4
  have s2 := same_twin (o := .lst ((nats y.kinds).set k (.int ((n : Int) + 1)))) s1 ft (b := qa) (by simp [Lay.mine, List.mem_of_getElem? hqa])
  generalize upd H1 qa (.lst ((nats y.kinds).set k (.int ((n : Int) + 1)))) = H2 at hs2 s2
  refine ⟨_, rfl, _, rfl, t, lt, _, rfl, hs2, mo2, fun H3 p s3 np hp => ?_⟩
  refine ⟨p, _, rfl, .inl (SqL.of hp), rfl, flat_nats _, ?_⟩
  exact vq (Q := R) inV_nats (q H3 (s2.trans s3))

/-! ### what_is_lacking -/
/-- lists of whole numbers that are found, in a list that is new -/
structure Found (H H' : Hp) (f : Addr) (as : List Addr) (L : List (List Int)) : Prop where
  s : Same H H'
  at_f : H' f = some (.lst (as.map V.ref))
  len : as.length = L.length
  at_ : ∀ (i : Nat) (a : Addr) (l : List Int), as[i]? = some a → L[i]? = some l → H' a = some (.lst (iV l))
  new : ∀ a ∈ as, H a = none ∧ a ≠ f
theorem Found.same {H H1 H2 : Hp} {f : Addr} {as : List Addr} {L : List (List Int)} (h : Found H H1 f as L) (s : Same H1 H2) : Found H H2 f as L :=
  ⟨h.s.trans s, s _ _ h.at_f, h.len, fun i a l h1 h2 => s _ _ (h.at_ i a l h1 h2), h.new⟩
theorem Found.more {H H1 : Hp} {f v : Addr} {as : List Addr} {L : List (List Int)} {l : List Int} (h : Found H H1 f as L) (nf : H f = none) (nv : H1 v = none) : Found H (upd (upd H1 v (.lst (iV l))) f (.lst (as.map V.ref ++ [.ref v]))) f (as ++ [v]) (L ++ [l]) := by
  have nvf : v ≠ f := (ne_of_none h.at_f nv).symm
  refine ⟨fun b u hb => ?_, ?_, by simp [h.len], fun i a z h1 h2 => ?_, fun a ha => ?_⟩
  · rw [upd_ne (ne_of_none hb nf)]; exact same_upd nv _ _ (h.s _ _ hb)
  · rw [upd_same, List.map_append]; rfl
  · by_cases c : i < as.length
    · rw [List.getElem?_append_left c] at h1
      rw [List.getElem?_append_left (by rw [← h.len]; exact c)] at h2
      have := h.new a (List.mem_of_getElem? h1)
      rw [upd_ne this.2]
      exact same_upd nv _ _ (h.at_ i a z h1 h2)
    · rw [List.getElem?_append_right (by omega)] at h1
      rw [List.getElem?_append_right (by rw [← h.len]; omega), ← h.len] at h2
      have e : i - as.length = 0 := by
        have := (List.getElem?_eq_some_iff.mp h1).1
        simp at this
        omega
      rw [e] at h1 h2
      cases h1; cases h2
      rw [upd_ne nvf, upd_same]
  · rcases List.mem_append.mp ha with z | z
    · exact h.new a z
    · have : a = v := by simpa using z
      subst this
      exact ⟨h.s.free nv, nvf⟩
def pairI (t : Nat × Option Nat) : List Int := [Vbkoaf.whole t.1, match t.2 with
  | none => -1
  | some k => Vbkoaf.whole k]
def placeL (m : M) (x d : Nat) : List (Nat × Option Nat) := if Vbkoaf.isServed (Vbkoaf.morePlaces m.ds d) (m.row.map (mP m)) x = true then [(d, none)] else []
def kindL (m : M) (x d n : Nat) : List (Nat × Option Nat) := ((List.range n).filter fun k => Vbkoaf.isServed (Vbkoaf.moreKind m.ds d k) (m.row.map (mP m)) x).map fun k => (d, some k)
def lackL (m : M) (x n : Nat) : List (Nat × Option Nat) := (List.range n).flatMap fun d => placeL m x d ++ kindL m x d 4
theorem kindL_more {m : M} {x d n : Nat} : kindL m x d (n + 1) = kindL m x d n ++ if Vbkoaf.isServed (Vbkoaf.moreKind m.ds d n) (m.row.map (mP m)) x = true then [(d, some n)] else [] := by
  rw [kindL, List.range_succ, List.filter_append, List.map_append, List.filter_cons]
  congr 1
  split <;> rfl
theorem lackL_more {m : M} {x n : Nat} : lackL m x (n + 1) = lackL m x n ++ (placeL m x n ++ kindL m x n 4) := by
  rw [lackL, List.range_succ, List.flatMap_append]
  simp [lackL]
theorem placeL_len {m : M} {x d : Nat} : (placeL m x d).length ≤ 1 := by
  rw [placeL]; split <;> simp
theorem kindL_len {m : M} {x d n : Nat} : (kindL m x d n).length ≤ n := by
  rw [kindL, List.length_map]
  exact Nat.le_trans (List.length_filter_le ..) (by simp)
theorem lackL_len {m : M} {x : Nat} : ∀ (n : Nat), (lackL m x n).length ≤ 5 * n
  | 0 => by simp [lackL]
  | n + 1 => by
    rw [lackL_more, List.length_append, List.length_append]
    have := lackL_len (m := m) (x := x) n
    have := placeL_len (m := m) (x := x) (d := n)
    have := kindL_len (m := m) (x := x) (d := n) (n := 4)
    omega
def spLackP (CH : Addr) : Sp := fun vs H R _ => ∃ (h : Addr) (l : Lay) (m : M) (x : Nat), vs = [.ref h, .int (x : Int)] ∧ HouseAt CH H h l m ∧ MOk m ∧
  ∀ H' f as, Found H H' f as ((lackL m x m.ds.length).map pairI) → H f = none → R (.ref f) H'
theorem pure_lackP (T : Txt K mg CG CH CR) (vs : List V) (H : Hp) (R : VK) (E : XK) (h : spLackP CH vs H R E) : t_what_is_lacking K CG CH CR (spPlaceDo CH) (spQuotaDo CH) { nx := fun _ H' => R .non H', rt := R } (start ["house", "applicant", "found", "day", "kind"] vs) H := by
  obtain ⟨h, l, m, x, rfl, hs, mo, q⟩ := h
  have hdn := mo.wf.dn
  refine ⟨Nat.zero_le _, fun f nf => ?_⟩
  have s0 := same_upd (o := .lst []) nf
  have hs0 := hs.same s0
  refine ⟨_, rfl, h, CH, l.dx, _, _, rfl, hs0.ins, T.cl_House, T.na_House_day_count, hF_day_count, (m.ds.length : Int), rfl, by omega, by omega, ?_⟩
  rw [Int.toNat_natCast]
  refine for_range (lo := 0) (n := m.ds.length) (fun i σ H' => ∃ (v3 v4 : Option V) (as : List Addr), σ = [some (.ref h), some (.int (x : Int)), some (.ref f), v3, v4] ∧ Found H H' f as ((lackL m x i).map pairI))
    ⟨none, none, [], rfl, s0, upd_same, rfl, (fun i a l h1 => by cases h1), fun a ha => by cases ha⟩ ?_ ?_
  · rintro i σ H' hi ⟨v3, v4, as, rfl, fd⟩
    rw [Int.zero_add]
    have hs' := hs.same fd.s
    have hll := lackL_len (m := m) (x := x) i
    -- would_place_do
    refine ⟨_, rfl, _, rfl, _, rfl, h, l, m, x, i, rfl, hs', mo, hi, fun H1 s1 => ?_⟩
    have fd1 := fd.same s1
    rw [← isServed_is]
    have inner : ∀ (σ : L2.St) (H2 : Hp), (∃ (v4 : Option V) (as : List Addr), σ = [some (.ref h), some (.int (x : Int)), some (.ref f), some (.int (i : Int)), v4] ∧ Found H H2 f as ((lackL m x i ++ placeL m x i).map pairI)) → tFor (iRng1 (tCons (tC (.int (4))) tNil)) (gName 4) (tIfS (tB (tCall (spQuotaDo CH) [] E0 (tCons (tVar 0) (tCons (tVar 1) (tCons (tVar 3) (tCons (tVar 4) tNil)))))) (tDrop (tBM K "list" rAppend (tVar 2) (tCons (tLst (tCons (tVar 3) (tCons (tVar 4) tNil))) tNil))) tNext) { nx := fun σ H' => ∃ (v3 v4 : Option V) (as : List Addr), σ = [some (.ref h), some (.int (x : Int)), some (.ref f), v3, v4] ∧ Found H H' f as ((lackL m x (i + 1)).map pairI), rt := R, ct := fun σ H' => ∃ (v3 v4 : Option V) (as : List Addr), σ = [some (.ref h), some (.int (x : Int)), some (.ref f), v3, v4] ∧ Found H H' f as ((lackL m x (i + 1)).map pairI) } σ H2 := by
      rintro σ H2 ⟨v4, as, rfl, fd2⟩
      refine ⟨4, rfl, by decide, by decide, ?_⟩
      refine for_range (lo := 0) (n := 4) (fun j σ H' => ∃ (v4 : Option V) (as : List Addr), σ = [some (.ref h), some (.int (x : Int)), some (.ref f), some (.int (i : Int)), v4] ∧ Found H H' f as ((lackL m x i ++ placeL m x i ++ kindL m x i j).map pairI))
        ⟨v4, as, rfl, by simpa [kindL] using fd2⟩ ?_ ?_
      · rintro j σ H3 hj ⟨v4, as, rfl, fd3⟩
        rw [Int.zero_add]
        have hs3 := hs.same fd3.s
        refine ⟨_, rfl, _, rfl, _, rfl, _, rfl, h, l, m, x, i, j, rfl, hs3, mo, hi, hj, fun H4 s4 => ?_⟩
        have fd4 := fd3.same s4
        rw [← isServed_is]
        refine ⟨_, rfl, ite2 (fun c => ?_) (fun c => ?_)⟩
        · have hlen : as.length ≤ 1000 := by
            rw [fd4.len, List.length_map, List.length_append, List.length_append]
            have := placeL_len (m := m) (x := x) (d := i)
            have := kindL_len (m := m) (x := x) (d := i) (n := j)
            omega
          refine ⟨_, rfl, .inl ⟨rfl, _, SqL.of fd4.at_f⟩, _, rfl, _, rfl, by show 2 ≤ sizeLine; decide, fun v nv => ?_⟩
          have t := same_upd (o := .lst [V.int (i : Int), V.int (j : Int)]) nv
          refine ⟨f, _, _, rfl, rfl, t _ _ fd4.at_f, by rw [List.length_map]; exact small1000 hlen, ?_⟩
          refine ⟨_, as ++ [v], rfl, ?_⟩
          rw [kindL_more, if_pos c, ← List.append_assoc, List.map_append]
          exact fd4.more (l := [(i : Int), (j : Int)]) nf nv
        · refine ⟨_, as, rfl, ?_⟩
          rw [kindL_more, if_neg c, List.append_nil]
          exact fd4
      · rintro σ H3 ⟨v4, as, rfl, fd3⟩
        refine ⟨_, _, as, rfl, ?_⟩
        rw [lackL_more, ← List.append_assoc]
        exact fd3
    refine ⟨_, rfl, ite2 (fun c => ?_) (fun c => ?_)⟩
    · have hlen : as.length ≤ 1000 := by
        rw [fd1.len, List.length_map]
        omega
      refine ⟨_, rfl, .inl ⟨rfl, _, SqL.of fd1.at_f⟩, _, rfl, by show 2 ≤ sizeLine; decide, fun v nv => ?_⟩
      have t := same_upd (o := .lst [V.int (i : Int), V.int (-1)]) nv
      refine ⟨f, _, _, rfl, rfl, t _ _ fd1.at_f, by rw [List.length_map]; exact small1000 hlen, ?_⟩
      refine inner _ _ ⟨v4, as ++ [v], rfl, ?_⟩
      rw [placeL, if_pos c, List.map_append]
      exact fd1.more (l := [(i : Int), -1]) nf nv
    · refine inner _ _ ⟨v4, as, rfl, ?_⟩
      rw [placeL, if_neg c, List.append_nil]
      exact fd1
  · rintro σ H' ⟨v3, v4, as, rfl, fd⟩
    exact ⟨_, rfl, q H' f as fd nf⟩

/-! ### lacking -/
def fLacking (m : M) (p : Person) : State × List Int := if Vbkoaf.isServed m.ds (m.row.map (mP m)) p.id = true then (absS m, [0]) else let l := Vbkoaf.lacking (absS m) p.id
  (absS m, 1 :: Vbkoaf.whole l.length :: l.flatMap fun t => [Vbkoaf.whole t.1, match t.2 with
    | none => -1
    | some k => Vbkoaf.whole k])
theorem flat_pairs {L : List (List Int)} {i : Nat} {s : List Int} (h : L[i]? = some s) : (L.take (i + 1)).flatten = (L.take i).flatten ++ s := by
  rw [take_more h, List.flatten_append]; simp
theorem flat2 {ls : List (Nat × Option Nat)} : ∀ (i : Nat), (((ls.map pairI).take i).flatten).length ≤ 2 * i := fun i => by
  induction i with
  | zero => simp
  | succ i ih =>
    cases e : (ls.map pairI)[i]? with
    | none =>
      rw [List.take_add_one, e]
      simp only [Option.toList_none, List.append_nil]
      omega
    | some s =>
      rw [flat_pairs e, List.length_append]
      obtain ⟨t, _, ht⟩ := List.mem_map.mp (List.mem_of_getElem? e)
      have : s.length = 2 := by rw [← ht]; rfl
      omega
theorem pure_lacking (T : Txt K mg CG CH CR) (vs : List V) (H : Hp) (R : VK) (E : XK) (h : spAbt CH fLacking vs H R E) : t_lacking K CG CH CR (spServed CH) (spLackP CH) { nx := fun _ H' => R .non H', rt := R } (start ["house", "applicant", "pairs", "answer", "pair"] vs) H := by
  obtain ⟨h, l, m, x, rfl, hs, mo, hx, q⟩ := h
  have hF : fLacking m (mP m x) = if decide (x ∈ svd m) = true then (absS m, [0]) else (absS m, 1 :: Vbkoaf.whole (lackL m x m.ds.length).length :: (lackL m x m.ds.length).flatMap pairI) := by
    show (if Vbkoaf.isServed m.ds (m.row.map (mP m)) x = true then _ else _) = _
    rw [isServed_is]; rfl
  rw [hF] at q
  have hdn := mo.wf.dn
  refine ⟨_, rfl, _, rfl, h, l, m, rfl, hs, mo, fun H1 y s1 ny hy => ?_⟩
  refine ⟨y, _, rfl, .inl (SqL.of hy), rfl, flat_nats _, _, rfl, ite2 (fun c => ?_) (fun c => ?_)⟩
  · have c' : decide (x ∈ svd m) = true := by
      have : inV (.int (x : Int)) (nats (svd m)) = true := c
      rwa [inV_nats] at this
    rw [if_pos c'] at q
    refine ⟨by show 1 ≤ sizeLine; decide, fun v nv => ?_⟩
    have s2 := same_upd (o := .lst [V.int 0]) nv
    exact q _ v (PostH.keep hs mo (s1.trans s2) upd_same (s1.free nv))
  · have c' : ¬ decide (x ∈ svd m) = true := fun z => c (by
      show inV (.int (x : Int)) (nats (svd m)) = true
      rw [inV_nats]; exact z)
    rw [if_neg c'] at q
    refine ⟨_, rfl, _, rfl, h, l, m, x, rfl, hs.same s1, mo, fun H2 f as fd nf => ?_⟩
    have hll := lackL_len (m := m) (x := x) m.ds.length
    generalize lackL m x m.ds.length = ls at fd q hll
    have hal : as.length = ls.length := by rw [fd.len, List.length_map]
    -- answer = [1, len(pairs)]
    refine ⟨_, rfl, f, _, rfl, .inl (SqL.of fd.at_f), by show 2 ≤ sizeLine; decide, fun v nv => ?_⟩
    have s3 := same_upd (o := .lst [V.int 1, V.int ((as.map V.ref).length : Int)]) nv
    have nv0 : H v = none := (s1.trans fd.s).free nv
    have sA : Same H (upd H2 v (.lst [V.int 1, V.int ((as.map V.ref).length : Int)])) := (s1.trans fd.s).trans s3
    have nfv : f ≠ v := ne_of_none fd.at_f nv
    have nasv : ∀ i a z, as[i]? = some a → (ls.map pairI)[i]? = some z → a ≠ v := fun i a z h1 h2 => ne_of_none (fd.at_ i a z h1 h2) nv
    refine ⟨_, rfl, f, rfl, ⟨_, SqL.of (s3 _ _ fd.at_f)⟩, ?_⟩
    refine for_list (K := K) (a := f) (xs := as.map V.ref) (fun i σ H' => ∃ v4 : Option V, σ = [some (.ref h), some (.int (x : Int)), some (.ref f), some (.ref v), v4] ∧ But v (upd H2 v (.lst [V.int 1, V.int ((as.map V.ref).length : Int)])) H' ∧ H' v = some (.lst (iV (1 :: Vbkoaf.whole ls.length :: ((ls.map pairI).take i).flatten))))
      ⟨none, rfl, fun b o hb _ => hb, by rw [upd_same, List.length_map, hal]; rfl⟩ (fun i σ H' _ ⟨_, _, b, _⟩ => SqL.of (b _ _ (s3 _ _ fd.at_f) nfv)) ?_ ?_
    · rintro i z σ H' hz ⟨v4, rfl, b, hv'⟩
      rw [List.getElem?_map] at hz
      cases ea : as[i]? with
      | none => rw [ea] at hz; cases hz
      | some pa =>
        rw [ea] at hz
        cases hz
        have hi : i < as.length := (List.getElem?_eq_some_iff.mp ea).1
        have hil : i < (ls.map pairI).length := by rw [List.length_map]; omega
        have hg : (ls.map pairI)[i]? = some (ls.map pairI)[i] := List.getElem?_eq_getElem hil
        generalize (ls.map pairI)[i] = pi at hg
        have hpi : pi.length = 2 := by
          obtain ⟨t, _, e⟩ := List.mem_map.mp (List.mem_of_getElem? hg)
          rw [← e]; rfl
        have hpa := b _ _ (s3 _ _ (fd.at_ i pa pi ea hg)) (nasv i pa pi ea hg)
        have hfl := flat2 (ls := ls) i
        refine ⟨_, rfl, .inl ⟨rfl, _, SqL.of hv'⟩, _, rfl, v, pa, _, _, rfl, rfl, hv', hpa, ?_, ?_⟩
        · rw [iV_length, iV_length, List.length_cons, List.length_cons]
          exact Nat.le_of_lt (size_of (show _ + 1 + 1 + _ ≤ 100000 by omega))
        · refine ⟨_, rfl, b.trans But.upd, ?_⟩
          rw [upd_same, flat_pairs hg]
          simp [iV]
    · rintro σ H' ⟨v4, rfl, b, hv'⟩
      have sB : Same H H' := fun c o hc => b _ _ (sA _ _ hc) (ne_of_none hc nv0)
      refine ⟨_, rfl, q H' v (PostH.keep hs mo sB ?_ nv0)⟩
      rw [hv', List.length_map, hal, ← List.length_map (f := pairI) (as := ls), List.take_length, List.flatMap]
end
end Vp
set_option Elab.async false
set_option linter.all false
set_option maxRecDepth 100000
set_option maxHeartbeats 1000000
/-! What would be: far, would. -/
namespace Vp
open PySem PySem.Spec PyProof.Rows L2
open Vbkoaf (Person Day inside State)
open Vb (G Q keys)

theorem hF_put_row {n : Nat} {l : Lay} {r : Addr} : putF "row" (.ref r) (hF n l) = hF n { l with ro := r } := by
  unfold hF
  rw [put_past (by decide +kernel), put_past (by decide +kernel), put_past (by decide +kernel), put_past (by decide +kernel), put_past (by decide +kernel), put_here]
theorem HouseAt.newRow {C : Addr} {H : Hp} {a : Addr} {l : Lay} {m : M} (h : HouseAt C H a l m) {r : Addr} {row : List Nat} (hr : H r = some (.lst (nats row))) (nr : r ∉ l.all a) :
    HouseAt C (upd H a (.ins C l.dx (putF "row" (.ref r) (hF m.ds.length l)))) a { l with ro := r } { m with row := row } := by
  have p := apart h.nd
  have nra : r ≠ a := fun e => nr (by rw [e]; simp [Lay.all])
  have e : ∀ b, b ≠ a → ∀ {o : HO} {u : HO}, H b = some o → (L2.upd H a u) b = some o := fun b hb o u ho => by rw [upd_ne hb]; exact ho
  refine ⟨by rw [upd_same, hF_put_row], e _ p.a_pl.symm h.pl, e _ p.a_qu.symm h.qu, h.qs.upd fun q hq => (p.sub q (.inl hq)).1, e _ p.a_ki.symm h.ki, e _ p.a_da.symm h.da, h.as.upd fun q hq => (p.sub q (.inr hq)).1, e _ nra hr, ?_⟩
  have nd := h.nd
  simp only [Lay.all, List.nodup_cons, List.mem_cons, List.mem_append, not_or] at nd nr ⊢
  obtain ⟨⟨h1, h2, h3, h4, h5, h6, h7⟩, ⟨g2, g3, g4, g5, g6, g7⟩, ⟨f3, f4, f5, f6, f7⟩, ⟨e4, e5, e6, e7⟩, ⟨d5, d6, d7⟩, ⟨c6, c7⟩, nn⟩ := nd
  obtain ⟨r1, r2, r3, r4, r5, r6, r7, r8⟩ := nr
  exact ⟨⟨h1, h2, h3, h4, Ne.symm r1, h6, h7⟩, ⟨g2, g3, g4, Ne.symm r2, g6, g7⟩, ⟨f3, f4, Ne.symm r3, f6, f7⟩, ⟨e4, Ne.symm r4, e6, e7⟩, ⟨Ne.symm r5, d6, d7⟩, ⟨r7, r8⟩, nn⟩
/-- one of the row put at another place -/
def putRow (row : List Nat) (x i : Nat) : List Nat := (row.filter fun z => z != x).take i ++ x :: (row.filter fun z => z != x).drop i
theorem putRow_ok {row : List Nat} {x i : Nat} (hx : x ∈ row) (nd : row.Nodup) : (putRow row x i).Nodup ∧ ∀ a ∈ putRow row x i, a ∈ row := by
  have hno : x ∉ row.filter fun z => z != x := fun z => by
    have := (List.mem_filter.mp z).2
    simp at this
  have hnd : (row.filter fun z => z != x).Nodup := List.Nodup.sublist List.filter_sublist nd
  have hsub : ∀ a ∈ row.filter fun z => z != x, a ∈ row := fun a ha => (List.mem_filter.mp ha).1
  rw [putRow]
  generalize (row.filter fun z => z != x) = o at hno hnd hsub
  refine ⟨?_, fun a ha => ?_⟩
  · rw [← List.take_append_drop i o] at hnd hno
    rw [List.mem_append, not_or] at hno
    rw [List.nodup_append] at hnd ⊢
    refine ⟨hnd.1, List.nodup_cons.mpr ⟨hno.2, hnd.2.1⟩, fun b hb c hc e => ?_⟩
    rcases List.mem_cons.mp hc with z | z
    · exact hno.1 (by rw [← z, ← e]; exact hb)
    · exact hnd.2.2 b hb c z e
  · rcases List.mem_append.mp ha with z | z
    · exact hsub a (List.mem_of_mem_take z)
    · rcases List.mem_cons.mp z with y | y
      · rw [y]; exact hx
      · exact hsub a (List.mem_of_mem_drop y)
theorem last_some {P : Nat → Bool} {p : Nat} (hp : P p = true) : ∀ {n : Nat}, p ≤ n → (∀ i, p < i → i ≤ n → P i = false) → ((List.range (n + 1)).filter P).getLast? = some p
  | 0, h, _ => by
    have : p = 0 := by omega
    subst this
    simp [List.range_succ, hp]
  | n + 1, h, hn => by
    rw [List.range_succ, List.filter_append, List.filter_cons]
    by_cases c : p = n + 1
    · subst c
      rw [if_pos hp]
      simp
    · rw [hn (n + 1) (by omega) (Nat.le_refl _), if_neg (by decide)]
      simp only [List.filter_nil, List.append_nil]
      exact last_some hp (by omega) fun i h1 h2 => hn i h1 (by omega)
theorem last_none {P : Nat → Bool} {n : Nat} (hn : ∀ i, i ≤ n → P i = false) : ((List.range (n + 1)).filter P).getLast? = none := by
  rw [List.filter_eq_nil_iff.mpr fun i hi => by
    have := List.mem_range.mp hi
    rw [hn i (by omega)]; decide]
  rfl

section
variable {K : PySem.W.Frag} {mg : Str → Option Value} {CG CH CR : Addr}
/-! ### far -/
def farN (m : M) (x : Nat) : Option Nat := ((List.range ((m.row.filter fun z => z != x).length + 1)).filter fun i => decide (x ∈ svdD m m.ds (putRow m.row x i))).getLast?
def optI : Option Nat → Int
  | none => -1
  | some i => (i : Int)
theorem far_abs {m : M} {x : Nat} : Vbkoaf.far (absS m) (mP m x) = farN m x := by
  show ((List.range ((Vbkoaf.without (m.row.map (mP m)) x).length + 1)).filter fun i => Vbkoaf.isServed m.ds (Vbkoaf.putAt (Vbkoaf.without (m.row.map (mP m)) x) i (mP m x)) x).getLast? = _
  rw [without_map, List.length_map, farN]
  congr 2
  funext i
  rw [← isServed_is, putRow, List.map_append, List.map_cons, List.map_take, List.map_drop]
  rfl
def spFarP (CH : Addr) : Sp := fun vs H R _ => ∃ (h : Addr) (l : Lay) (m : M) (x : Nat), vs = [.ref h, .int (x : Int)] ∧ HouseAt CH H h l m ∧ MOk m ∧ x ∈ m.row ∧
  ∀ H', Same H H' → R (.int (optI (farN m x))) H'
theorem pure_farP (T : Txt K mg CG CH CR) (vs : List V) (H : Hp) (R : VK) (E : XK) (h : spFarP CH vs H R E) : t_farthest_place K CG CH CR (spTwin CH) (spServed CH) { nx := fun _ H' => R .non H', rt := R } (start ["house", "applicant", "others", "place", "tried", "other"] vs) H := by
  obtain ⟨h, l, m, x, rfl, hs, mo, hx, q⟩ := h
  have h8 := mo.r8
  -- others
  refine ⟨_, rfl, h, CH, l.dx, _, _, rfl, hs.ins, T.cl_House, T.na_House_row, hF_row, l.ro, rfl, ⟨_, SqL.of hs.ro⟩, fun D hD => ?_⟩
  refine lc_list (K := K) (a := l.ro) (xs := nats m.row) (fun i H' => Same H H' ∧ H' D = some (.lst (nats ((m.row.take i).filter fun z => z != x)))) ⟨same_upd hD, upd_same⟩ (fun i H' _ z => z.1.seq (SqL.of hs.ro)) ?_ ?_
  · rintro i v H' hv ⟨t, hD'⟩
    obtain ⟨o, ho, rfl⟩ := of_nats hv
    have hstep : (m.row.take (i + 1)).filter (fun z => z != x) = (m.row.take i).filter (fun z => z != x) ++ (if (o != x) = true then [o] else []) := by
      rw [take_more ho, List.filter_append, List.filter_cons]; rfl
    have hne : (!decide (V.int (o : Int) = V.int (x : Int))) = (o != x) := by
      by_cases c : o = x
      · subst c; simp
      · have c2 : ¬ V.int (o : Int) = V.int (x : Int) := fun z => c (by
          have := V.int.inj z
          omega)
        rw [decide_eq_false c2]
        simpa using c
    refine ⟨rfl, _, rfl, _, rfl, rfl, _, rfl, ?_⟩
    rw [hne]
    refine ite2 (fun cc => ?_) (fun cc => ?_)
    · refine ⟨_, rfl, _, hD', ?_, fun b u hb => ?_, ?_⟩
      · rw [nats_length]
        have := List.length_filter_le (fun z => z != x) (m.row.take i)
        have := (List.take_sublist i m.row).length_le
        exact small1000 (by omega)
      · rw [upd_ne (ne_of_none hb hD)]; exact t _ _ hb
      · rw [upd_same, hstep, if_pos cc, nats_append]; rfl
    · refine ⟨t, ?_⟩
      rw [hD', hstep, if_neg cc, List.append_nil]
  · rintro H1 ⟨s1, hD1⟩
    have e0 : m.row.take (nats m.row).length = m.row := by rw [nats_length, List.take_length]
    rw [e0] at hD1
    have hol : (m.row.filter fun z => z != x).length ≤ 8 := Nat.le_trans (List.length_filter_le ..) h8
    have hfar : farN m x = ((List.range ((m.row.filter fun z => z != x).length + 1)).filter fun i => decide (x ∈ svdD m m.ds (putRow m.row x i))).getLast? := rfl
    have hrow : ∀ i, (m.row.filter fun z => z != x).take i ++ x :: (m.row.filter fun z => z != x).drop i = putRow m.row x i := fun i => rfl
    generalize ho : (m.row.filter fun z => z != x) = o at hD1 hol hfar hrow
    refine ⟨_, rfl, D, _, rfl, .inl (SqL.of hD1), 1, rfl, 1, rfl, _, _, _, ((o.length : Int) - (-1)).toNat, rfl, ?_, ?_⟩
    · rw [nats_length]
      exact RgC.neg (by omega) (by omega) (by decide) (by decide)
    have en : ((o.length : Int) - (-1)).toNat = o.length + 1 := by omega
    rw [en, nats_length]
    refine for_rangeC (lo := (o.length : Int)) (c := -1) (n := o.length + 1) (fun i σ H' => ∃ (v3 v4 v5 : Option V), σ = [some (.ref h), some (.int (x : Int)), some (.ref D), v3, v4, v5] ∧ Same H1 H' ∧ ∀ j, o.length < j + i → j ≤ o.length → decide (x ∈ svdD m m.ds (putRow m.row x j)) = false)
      ⟨none, none, none, rfl, Same.refl _, fun j h1 h2 => by omega⟩ ?_ ?_
    · rintro i σ H' hi ⟨v3, v4, v5, rfl, s, hno⟩
      have ep : (o.length : Int) + (i : Nat) * (-1) = ((o.length - i : Nat) : Int) := by omega
      rw [ep]
      generalize hj : o.length - i = j
      have hjl : j ≤ o.length := by omega
      have hs' := hs.same (s1.trans s)
      have hD' := s _ _ hD1
      -- tried = house.twin()
      refine ⟨_, rfl, h, l.dx, _, rfl, hs'.ins, hF_no (by decide +kernel), h, l, m, rfl, hs', mo.wf, by omega, fun H2 t lt s2 ht ft et => ?_⟩
      have hD2 := s2 _ _ hD'
      -- tried.row = others[:place] + [applicant] + others[place:]
      refine ⟨_, rfl, _, rfl, _, rfl, D, _, rfl, SqL.of hD2, fun p1 np1 => ?_⟩
      rw [cut_to (by rw [nats_length]; exact hjl), nats_take]
      have t1 := same_upd (o := .lst (nats (o.take j))) np1
      refine ⟨_, rfl, by show 1 ≤ sizeLine; decide, fun p2 np2 => ?_⟩
      have t2 := same_upd (o := .lst [V.int (x : Int)]) np2
      have htl : (o.take j).length ≤ o.length := (List.take_sublist j o).length_le
      have hdl : (o.drop j).length ≤ o.length := (List.drop_sublist j o).length_le
      refine ⟨p1, p2, _, _, rfl, rfl, t2 _ _ upd_same, upd_same, by rw [nats_length]; exact Nat.le_of_lt (size_of (show _ + 1 ≤ 100000 by omega)), fun p3 np3 => ?_⟩
      have t3 := same_upd (o := .lst (nats (o.take j) ++ [V.int (x : Int)])) np3
      refine ⟨_, rfl, _, rfl, _, rfl, D, _, rfl, SqL.of (((t1.trans t2).trans t3) _ _ hD2), fun p4 np4 => ?_⟩
      rw [cut_from (by rw [nats_length]; exact hjl), nats_drop]
      have t4 := same_upd (o := .lst (nats (o.drop j))) np4
      refine ⟨p3, p4, _, _, rfl, rfl, t4 _ _ upd_same, upd_same, by rw [List.length_append, nats_length, nats_length]; exact Nat.le_of_lt (size_of (show _ + 1 + _ ≤ 100000 by omega)), fun p5 np5 => ?_⟩
      have ec : nats (o.take j) ++ [V.int (x : Int)] ++ nats (o.drop j) = nats (putRow m.row x j) := by
        rw [← hrow j, nats_append, List.append_assoc]; rfl
      rw [ec]
      have t5 := same_upd (o := .lst (nats (putRow m.row x j))) np5
      have tA := (((t1.trans t2).trans t3).trans t4)
      have np50 := tA.free np5
      have hp5 : (upd (upd (upd (upd (upd H2 p1 (.lst (nats (o.take j)))) p2 (.lst [V.int (x : Int)])) p3 (.lst (nats (o.take j) ++ [V.int (x : Int)]))) p4 (.lst (nats (o.drop j)))) p5 (.lst (nats (putRow m.row x j)))) p5 = some (.lst (nats (putRow m.row x j))) := upd_same
      have tB := tA.trans t5
      generalize upd (upd (upd (upd (upd H2 p1 (.lst (nats (o.take j)))) p2 (.lst [V.int (x : Int)])) p3 (.lst (nats (o.take j) ++ [V.int (x : Int)]))) p4 (.lst (nats (o.drop j)))) p5 (.lst (nats (putRow m.row x j))) = H3 at tB hp5
      have ht3 := ht.same tB
      refine ⟨_, rfl, t, CH, lt.dx, _, rfl, ht3.ins, T.cl_House, T.na_House_row, by show 6 < 1000; decide, ?_⟩
      have hs4 := ht3.newRow hp5 fun z => by
        obtain ⟨u, hu⟩ := ht.there p5 z
        rw [np50] at hu; cases hu
      have ok := putRow_ok (i := j) hx mo.rn
      have mo4 : MOk { m with row := putRow m.row x j } := mok_row mo ok.1 ok.2
      have s4 := same_twin (o := .ins CH lt.dx (putF "row" (.ref p5) (hF m.ds.length lt))) (s2.trans tB) ft (b := t) (by simp [Lay.mine])
      generalize upd H3 t (.ins CH lt.dx (putF "row" (.ref p5) (hF m.ds.length lt))) = H4 at hs4 s4
      -- if applicant in served(tried)
      refine ⟨_, rfl, _, rfl, t, _, _, rfl, hs4, mo4, fun H5 y s5 ny hy => ?_⟩
      refine ⟨y, _, rfl, .inl (SqL.of hy), rfl, flat_nats _, _, rfl, ite2 (fun c => ?_) (fun c => ?_)⟩
      · have c' : decide (x ∈ svdD m m.ds (putRow m.row x j)) = true := by
          have : inV (.int (x : Int)) (nats (svdD m m.ds (putRow m.row x j))) = true := c
          rwa [inV_nats] at this
        refine ⟨_, rfl, ?_⟩
        have e : farN m x = some j := by
          rw [hfar]
          exact last_some (P := fun i => decide (x ∈ svdD m m.ds (putRow m.row x i))) c' hjl fun i' h1 h2 => hno i' (by omega) h2
        have := q H5 ((s1.trans s).trans (s4.trans s5))
        rw [e] at this
        exact this
      · have c' : decide (x ∈ svdD m m.ds (putRow m.row x j)) = false := by
          cases z : decide (x ∈ svdD m m.ds (putRow m.row x j)) with
          | false => rfl
          | true =>
            exact absurd (show inV (.int (x : Int)) (nats (svdD m m.ds (putRow m.row x j))) = true by rw [inV_nats]; exact z) c
        refine ⟨_, _, _, rfl, s.trans (s4.trans s5), fun j' h1 h2 => ?_⟩
        by_cases ej : j' = j
        · rw [ej]; exact c'
        · exact hno j' (by omega) h2
    · rintro σ H' ⟨v3, v4, v5, rfl, s, hno⟩
      have e : farN m x = none := by
        rw [hfar]
        exact last_none fun i hi => hno i (by omega) hi
      have := q H' (s1.trans s)
      rw [e] at this
      exact this
def fFar (m : M) (p : Person) : State × List Int := (absS m, [match Vbkoaf.far (absS m) p with
  | none => -1
  | some i => Vbkoaf.whole i])
theorem pure_far (T : Txt K mg CG CH CR) (vs : List V) (H : Hp) (R : VK) (E : XK) (h : spAbt CH fFar vs H R E) : t_far K CG CH CR (spFarP CH) { nx := fun _ H' => R .non H', rt := R } (start ["house", "applicant"] vs) H := by
  obtain ⟨h, l, m, x, rfl, hs, mo, hx, q⟩ := h
  have hF : fFar m (mP m x) = (absS m, [optI (farN m x)]) := by
    show (absS m, [match Vbkoaf.far (absS m) (mP m x) with | none => -1 | some i => Vbkoaf.whole i]) = _
    rw [far_abs]
    cases farN m x <;> rfl
  rw [hF] at q
  refine ⟨_, rfl, _, rfl, h, l, m, x, rfl, hs, mo, hx, fun H1 s1 => ?_⟩
  refine ⟨by show 1 ≤ sizeLine; decide, fun v nv => ?_⟩
  have s2 := same_upd (o := .lst [V.int (optI (farN m x))]) nv
  exact q _ v (PostH.keep hs mo (s1.trans s2) upd_same (s1.free nv))

/-! ### would -/
def mNew (m : M) (k : Nat) (days : List Nat) : M := { m with ppl := m.ppl ++ [(k, days)], row := m.row ++ [m.ppl.length] }
def dayNew (m : M) (k : Nat) (days : List Nat) : Option Nat := ((svd (mNew m k days)).zip (toldN (mNew m k days) (svd (mNew m k days)))).lookup m.ppl.length
def optV : Option Nat → V
  | none => .non
  | some d => .int (d : Int)
def spDayIf (CH : Addr) : Sp := fun vs H R _ => ∃ (h dl : Addr) (l : Lay) (m : M) (k : Nat) (days : List Nat), vs = [.ref h, .int (k : Int), .ref dl] ∧ HouseAt CH H h l m ∧ MOk m ∧ H dl = some (.lst (nats days)) ∧ dl ∉ l.all h ∧ k < 4 ∧ (∀ d ∈ days, d < m.ds.length) ∧ days.length ≤ 60 ∧ m.row.length < 8 ∧ m.ppl.length < 20 ∧
  ∀ H', Same H H' → (toldN (mNew m k days) (svd (mNew m k days))).length = (svd (mNew m k days)).length → R (optV (dayNew m k days)) H'
theorem pure_day_if (T : Txt K mg CG CH CR) (vs : List V) (H : Hp) (R : VK) (E : XK) (h : spDayIf CH vs H R E) : t_day_if_applied K CG CH CR (spTwin CH) (spAdmit CH) (spTold K CH) (spServed CH) { nx := fun _ H' => R .non H', rt := R } (start ["house", "kind", "days", "tried", "applicant"] vs) H := by
  obtain ⟨h, dl, l, m, k, days, rfl, hs, mo, hd, nd, hk, hdd, hdl, h8, h20, q⟩ := h
  refine ⟨_, rfl, h, l.dx, _, rfl, hs.ins, hF_no (by decide +kernel), h, l, m, rfl, hs, mo.wf, by omega, fun H1 t lt s1 ht ft et => ?_⟩
  have ndt : dl ∉ lt.all t := fun z => by
    have e : lt.all t = lt.mine t ++ lt.as := by simp [Lay.all, Lay.mine]
    rw [e, List.mem_append] at z
    rcases z with z | z
    · rw [ft dl z] at hd; cases hd
    · rw [et] at z
      exact nd (by simp [Lay.all, z])
  -- applicant = tried.admit(kind, days)
  refine ⟨_, rfl, t, lt.dx, _, rfl, ht.ins, hF_no (by decide +kernel), _, rfl, _, rfl, t, dl, lt, m, k, days, rfl, ht, by omega, by omega, s1 _ _ hd, ndt, fun H2 ht2 f2 => ?_⟩
  have s2 : Same H H2 := fun b o hb => f2 _ _ (s1 _ _ hb) fun z => by
    have hb' : b ∈ lt.mine t := by
      simp only [List.mem_cons, List.not_mem_nil, or_false] at z
      rcases z with e | e | e <;> rw [e] <;> simp [Lay.mine]
    rw [ft b hb'] at hb; cases hb
  have mo2 : MOk (mNew m k days) := mok_apply mo hk hdd hdl h8 h20
  have ht2 : HouseAt CH H2 t { lt with as := lt.as ++ [dl] } (mNew m k days) := ht2
  refine ⟨_, rfl, _, rfl, t, _, _, rfl, ht2, mo2, fun H3 y s3 ny hy => ?_⟩
  refine ⟨t, y, _, mNew m k days, svd (mNew m k days), rfl, ht2.same s3, mo2, SqL.of hy, svd_nd mo2, fun b hb => mo2.rl b (svd_sub b hb), svd_can, fun H4 w s4 nw hw hwl => ?_⟩
  refine ⟨w, rfl, .inl ⟨_, .inl hw⟩, _, rfl, _, DGet.k (k := Sum.inl (m.ppl.length : Int)) hw, ?_⟩
  have e : (valV (kvs dayV ((svd (mNew m k days)).zip (toldN (mNew m k days) (svd (mNew m k days))))) (Sum.inl (m.ppl.length : Int))).getD .non = optV (dayNew m k days) := by
    rw [val_kvs, dayNew]
    cases ((svd (mNew m k days)).zip (toldN (mNew m k days) (svd (mNew m k days)))).lookup m.ppl.length <;> rfl
  rw [e]
  exact q H4 ((s2.trans s3).trans s4) hwl
def fWould (m : M) (k : Nat) (days : List Nat) : State × List Int := let p : Person := ⟨m.ppl.length, k, days⟩
  let q := Vbkoaf.servedOf m.ds [] (m.row.map (mP m) ++ [p])
  (absS m, if (q.any fun x => x.id == p.id) = true then [1, Vbkoaf.whole ((Vbkoaf.giving m.ds q).getLast?.getD 0)] else [0])
theorem fWould_is {m : M} (mo : MOk m) {k : Nat} {days : List Nat} (mo2 : MOk (mNew m k days)) (hl : (toldN (mNew m k days) (svd (mNew m k days))).length = (svd (mNew m k days)).length) : fWould m k days = (absS m, match dayNew m k days with
    | none => [0]
    | some d => [1, (d : Int)]) := by
  have ea : m.row.map (mP m) ++ [⟨m.ppl.length, k, days⟩] = (mNew m k days).row.map (mP (mNew m k days)) := by
    have := congrArg (fun s => s.row) (abs_apply (m := m) mo (k := k) (days := days))
    exact this.symm
  have eq : Vbkoaf.servedOf m.ds [] (m.row.map (mP m) ++ [⟨m.ppl.length, k, days⟩]) = (svd (mNew m k days)).map (mP (mNew m k days)) := by
    rw [ea]; exact Vb.served_is (mNew m k days).row []
  have hnd := svd_nd mo2
  have eg : Vbkoaf.giving m.ds ((svd (mNew m k days)).map (mP (mNew m k days))) = toldN (mNew m k days) (svd (mNew m k days)) := giving_abs (m := mNew m k days) hnd
  have eany : (((svd (mNew m k days)).map (mP (mNew m k days))).any fun x => x.id == m.ppl.length) = decide (m.ppl.length ∈ svd (mNew m k days)) := by
    rw [List.any_map, Bool.eq_iff_iff, List.any_eq_true, decide_eq_true_eq]
    constructor
    · rintro ⟨y, hy, e⟩
      have : y = m.ppl.length := by simpa [mP] using e
      exact this ▸ hy
    · intro h
      exact ⟨_, h, by simp [mP]⟩
  show (absS m, if ((Vbkoaf.servedOf m.ds [] (m.row.map (mP m) ++ [⟨m.ppl.length, k, days⟩])).any fun x => x.id == m.ppl.length) = true then [1, Vbkoaf.whole ((Vbkoaf.giving m.ds (Vbkoaf.servedOf m.ds [] (m.row.map (mP m) ++ [⟨m.ppl.length, k, days⟩]))).getLast?.getD 0)] else [0]) = _
  rw [eq, eany, eg]
  by_cases c : m.ppl.length ∈ svd (mNew m k days)
  · rw [decide_eq_true c, if_pos rfl]
    -- the one who is new is the last
    have hold : m.ppl.length ∉ Vb.servedN m.ds (mP (mNew m k days)) [] m.row := fun z => by
      rcases Vb.served_sub z with y | y
      · cases y
      · have := mo.rl _ y
        omega
    have hsv : svd (mNew m k days) = Vb.servedN m.ds (mP (mNew m k days)) [] m.row ++ [m.ppl.length] := by
      have e : svd (mNew m k days) = Vb.servedN m.ds (mP (mNew m k days)) [] (m.row ++ [m.ppl.length]) := rfl
      rw [e, Vb.served_more]
      rw [e, Vb.served_more] at c
      split
      · rfl
      · rename_i z
        rw [if_neg z] at c
        exact absurd c hold
    have hd : dayNew m k days = (toldN (mNew m k days) (svd (mNew m k days))).getLast? := by
      rw [dayNew]
      generalize toldN (mNew m k days) (svd (mNew m k days)) = tl at hl
      rw [hsv] at hl ⊢
      generalize Vb.servedN m.ds (mP (mNew m k days)) [] m.row = old at hold hl
      rw [List.length_append, List.length_singleton] at hl
      obtain ⟨init, z, rfl⟩ : ∃ init z, tl = init ++ [z] := by
        refine ⟨tl.dropLast, tl.getLast (fun e => by rw [e] at hl; simp at hl), ?_⟩
        exact (List.dropLast_concat_getLast _).symm
      have hil : init.length = old.length := by
        rw [List.length_append, List.length_singleton] at hl
        omega
      rw [List.zip_append hil.symm, List.lookup_append]
      have : (old.zip init).lookup m.ppl.length = none := look_none.mpr (by rw [zip_keys hil.symm]; exact hold)
      rw [this]
      simp
    rw [hd]
    cases e : (toldN (mNew m k days) (svd (mNew m k days))).getLast? with
    | none =>
      exfalso
      rw [List.getLast?_eq_none_iff] at e
      rw [e] at hl
      rw [hsv] at hl
      simp at hl
    | some d => rfl
  · rw [decide_eq_false c, if_neg (by decide)]
    have hd : dayNew m k days = none := by
      rw [dayNew]
      exact look_none.mpr (by rw [zip_keys hl.symm]; exact c)
    rw [hd]
theorem pure_would (T : Txt K mg CG CH CR) (vs : List V) (H : Hp) (R : VK) (E : XK) (h : spNew CH fWould vs H R E) : t_would K CG CH CR (spDayIf CH) { nx := fun _ H' => R .non H', rt := R } (start ["house", "kind", "days", "day"] vs) H := by
  obtain ⟨h, dl, l, m, k, days, rfl, hs, mo, hd, nd, hk, hdd, hdl, h8, h20, q⟩ := h
  refine ⟨_, rfl, _, rfl, _, rfl, h, dl, l, m, k, days, rfl, hs, mo, hd, nd, hk, hdd, hdl, h8, h20, fun H1 s1 hl => ?_⟩
  rw [fWould_is mo (mok_apply mo hk hdd hdl h8 h20) hl] at q
  cases e : dayNew m k days with
  | none =>
    rw [e] at q
    refine ⟨_, rfl, _, rfl, iteT ?_⟩
    refine ⟨by show 1 ≤ sizeLine; decide, fun v nv => ?_⟩
    have s2 := same_upd (o := .lst [V.int 0]) nv
    exact q _ v (PostH.keep hs mo (s1.trans s2) upd_same (s1.free nv))
  | some d =>
    rw [e] at q
    refine ⟨_, rfl, _, rfl, iteF ?_⟩
    refine ⟨_, rfl, by show 2 ≤ sizeLine; decide, fun v nv => ?_⟩
    have s2 := same_upd (o := .lst [V.int 1, V.int (d : Int)]) nv
    exact q _ v (PostH.keep hs mo (s1.trans s2) upd_same (s1.free nv))
end
end Vp
set_option Elab.async false
set_option linter.all false
set_option maxRecDepth 100000
set_option maxHeartbeats 1000000
/-! check. -/
namespace Vp
open PySem PySem.Spec PyProof.Rows L2
open Vbkoaf (Person Day inside State)
open Vb (G Q keys)

/-! ### who comes on which day, by a list -/
def gCh (row : List Nat) (ls : List Int) : G := ((row.zip ls).filter fun t => decide (0 ≤ t.2)).map fun t => (t.1, t.2.toNat)
theorem chosen_is {m : M} : ∀ {row : List Nat} {ls : List Int}, Vbkoaf.chosen (row.map (mP m)) ls = gP m (gCh row ls)
  | [], ls => rfl
  | a :: row, [] => rfl
  | a :: row, x :: ls => by
    have ih := chosen_is (m := m) (row := row) (ls := ls)
    simp only [Vbkoaf.chosen, gCh, gP] at ih
    simp only [Vbkoaf.chosen, gCh, gP, List.map_cons, List.zip_cons_cons, List.filter_cons]
    split
    · rw [List.map_cons, List.map_cons, List.map_cons, ih]
    · exact ih
theorem gCh_sub {row : List Nat} {ls : List Int} : (keys (gCh row ls)).Sublist row := by
  rw [keys, gCh, List.map_map]
  have h1 : (((row.zip ls).filter fun t => decide (0 ≤ t.2)).map ((fun t => t.1) ∘ fun t => (t.1, t.2.toNat))).Sublist ((row.zip ls).map fun t => t.1) := List.Sublist.map _ List.filter_sublist
  refine h1.trans ?_
  have h2 : ∀ (row : List Nat) (ls : List Int), ((row.zip ls).map fun t => t.1).Sublist row := by
    intro row
    induction row with
    | nil => intro ls; exact List.Sublist.refl _
    | cons a row ih =>
      intro ls
      cases ls with
      | nil => exact List.nil_sublist _
      | cons x ls => exact List.Sublist.cons_cons _ (ih ls)
  exact h2 row ls
theorem gCh_more {row : List Nat} {ls : List Int} {i a : Nat} {x : Int} (ha : row[i]? = some a) (hx : ls[i]? = some x) : gCh (row.take (i + 1)) (ls.take (i + 1)) = gCh (row.take i) (ls.take i) ++ if 0 ≤ x then [(a, x.toNat)] else [] := by
  have h1 : i < row.length := (List.getElem?_eq_some_iff.mp ha).1
  have h2 : i < ls.length := (List.getElem?_eq_some_iff.mp hx).1
  rw [gCh, take_more ha, take_more hx, List.zip_append (by rw [List.length_take, List.length_take]; omega), List.filter_append, List.map_append]
  congr 1
  by_cases c : 0 ≤ x <;> simp [c]
theorem keys_kG {g : G} : (kG g).map (fun kv => kV kv.1) = nats (keys g) := by
  rw [kG, kvs, List.map_map, nats, keys, List.map_map]; rfl
/-! ### a giving -/
theorem mem_numbered {α : Type} {l : List α} {t : Nat × α} : t ∈ Vbkoaf.numbered l ↔ l[t.1]? = some t.2 := by
  rw [Vbkoaf.numbered, List.mem_iff_getElem?]
  constructor
  · rintro ⟨i, hi⟩
    rw [List.getElem?_zip_eq_some] at hi
    have h1 : i < l.length := (List.getElem?_eq_some_iff.mp hi.2).1
    rw [List.getElem?_range h1] at hi
    have : i = t.1 := Option.some.inj hi.1
    rw [← this]; exact hi.2
  · intro h
    have h1 : t.1 < l.length := (List.getElem?_eq_some_iff.mp h).1
    exact ⟨t.1, List.getElem?_zip_eq_some.mpr ⟨List.getElem?_range h1, h⟩⟩
def DayOk (m : M) (g : G) (d : Nat) : Prop := ∀ (y : Day) (j a b : Nat), m.ds[d]? = some y → (loadN m g d)[j]? = some a → (y.places :: y.kinds)[j]? = some b → a ≤ b
theorem giv_iff {m : M} (mw : MWf m) {g : G} : Vbkoaf.isGiving m.ds (gP m g) = true ↔ (∀ t ∈ g, t.2 ∈ daysAt m t.1) ∧ ∀ d, d < m.ds.length → DayOk m g d := by
  rw [Vbkoaf.isGiving, Bool.and_eq_true, List.all_eq_true, List.all_eq_true]
  have e1 : (∀ x ∈ gP m g, Vbkoaf.canCome x.2 x.1 = true) ↔ ∀ t ∈ g, t.2 ∈ daysAt m t.1 := by
    constructor
    · intro h t ht
      have := h (mP m t.1, t.2) (List.mem_map.mpr ⟨t, ht, rfl⟩)
      have this : (daysAt m t.1).contains t.2 = true := this
      simpa using this
    · intro h x hx
      obtain ⟨t, ht, rfl⟩ := List.mem_map.mp hx
      show (daysAt m t.1).contains t.2 = true
      simpa using h t ht
  have e2 : (∀ x ∈ Vbkoaf.numbered m.ds, (decide (((gP m g).filter fun y => y.2 == x.1).length ≤ x.2.places) && (List.range 4).all fun k => decide (((gP m g).filter fun y => y.2 == x.1 && y.1.kind == k).length ≤ x.2.kinds.getD k 0)) = true) ↔ ∀ d, d < m.ds.length → DayOk m g d := by
    simp only [gP_day, gP_kind, Bool.and_eq_true, decide_eq_true_eq, List.all_eq_true]
    constructor
    · intro h d hd y j a b hy ha hb
      obtain ⟨h1, h2⟩ := h (d, y) (mem_numbered.mpr hy)
      have hk := mw.kn y (List.mem_of_getElem? hy)
      have hj : j < 5 := (List.getElem?_eq_some_iff.mp ha).1
      cases j with
      | zero => cases ha; cases hb; exact h1
      | succ k =>
        have h3 : cntK m g d k ≤ y.kinds.getD k 0 := h2 k (List.mem_range.mpr (by omega))
        have e3 := load_kind (m := m) (g := g) (d := d) (k := k) (by omega)
        rw [Nat.add_comm 1 k, ha] at e3
        cases e3
        have hb' : y.kinds[k]? = some b := by simpa using hb
        rw [List.getD_eq_getElem?_getD, hb'] at h3
        exact h3
    · rintro h ⟨d, y⟩ ht
      have hy : m.ds[d]? = some y := mem_numbered.mp ht
      have hd : d < m.ds.length := (List.getElem?_eq_some_iff.mp hy).1
      have hk := mw.kn y (List.mem_of_getElem? hy)
      refine ⟨h d hd y 0 _ _ hy rfl rfl, fun k hk4 => ?_⟩
      have hk5 := List.mem_range.mp hk4
      have hz : y.kinds[k]? = some y.kinds[k] := List.getElem?_eq_getElem (by omega)
      have e3 := load_kind (m := m) (g := g) (d := d) (k := k) (by omega)
      rw [Nat.add_comm 1 k] at e3
      show cntK m g d k ≤ y.kinds.getD k 0
      rw [List.getD_eq_getElem?_getD, hz]
      exact h d hd y (k + 1) _ _ hy e3 (by simpa using hz)
  exact and_congr e1 e2

section
variable {K : PySem.W.Frag} {mg : Str → Option Value} {CG CH CR : Addr}
/-! ### are_days_or_none -/
def orNone (m : M) (ns : List Int) : Bool := ns.length == m.row.length && ns.all fun d => inside d (-1) 7
def spOrNone (K : PySem.W.Frag) (CH : Addr) : Sp := fun vs H R _ => ∃ (h a : Addr) (l : Lay) (m : M) (ns : List Int), vs = [.ref h, .ref a] ∧ HouseAt CH H h l m ∧ SqL K H a (iV ns) ∧ ns.length ≤ 1000 ∧
  ∀ H', Same H H' → R (.bl (orNone m ns)) H'
theorem pure_or_none (T : Txt K mg CG CH CR) (vs : List V) (H : Hp) (R : VK) (E : XK) (h : spOrNone K CH vs H R E) : t_are_days_or_none K CG CH CR (spIn 0 7) { nx := fun _ H' => R .non H', rt := R } (start ["house", "days", "day"] vs) H := by
  obtain ⟨h, a, l, m, ns, rfl, hs, ha, few, q⟩ := h
  have elen : decide (V.int ((iV ns).length : Int) = V.int ((nats m.row).length : Int)) = (ns.length == m.row.length) := by
    rw [iV_length, nats_length]
    by_cases c : ns.length = m.row.length
    · rw [c]; simp
    · have c2 : ¬ V.int (ns.length : Int) = V.int (m.row.length : Int) := fun z => c (by
        have := V.int.inj z
        omega)
      rw [decide_eq_false c2]
      simpa using c
  refine ⟨_, rfl, a, _, rfl, .inl ha, _, rfl, h, CH, l.dx, _, _, rfl, hs.ins, T.cl_House, T.na_House_row, hF_row, l.ro, _, rfl, .inl (SqL.of hs.ro), rfl, _, rfl, ?_⟩
  rw [elen]
  refine ite2 (fun c => ?_) (fun c => ?_)
  · refine ⟨_, rfl, a, rfl, ⟨_, ha⟩, fun D hD => ?_⟩
    refine lc_list (K := K) (a := a) (xs := iV ns) (fun i H' => Same H H' ∧ H' D = some (.lst (((ns.take i).map fun x => inside x (-1) 7).map V.bl))) ⟨same_upd hD, upd_same⟩ (fun i H' _ z => z.1.seq ha) ?_ ?_
    · rintro i v H' hv ⟨t, hD'⟩
      obtain ⟨x, hx, rfl⟩ := of_iV hv
      have hi : i < ns.length := (List.getElem?_eq_some_iff.mp hx).1
      refine ⟨rfl, yes_if ?_⟩
      have key : ∀ b : Bool, b = inside x (-1) 7 → ∃ acc, H' D = some (.lst acc) ∧ acc.length < sizeLine ∧ (Same H (upd H' D (.lst (acc ++ [V.bl b]))) ∧ (upd H' D (.lst (acc ++ [V.bl b]))) D = some (.lst (((ns.take (i + 1)).map fun x => inside x (-1) 7).map V.bl))) := fun b hb => by
        refine ⟨_, hD', ?_, fun c u hc => ?_, ?_⟩
        · rw [List.length_map, List.length_map]
          have := (List.take_sublist i ns).length_le
          exact small1000 (by omega)
        · rw [upd_ne (ne_of_none hc hD)]; exact t _ _ hc
        · rw [upd_same, take_more hx, List.map_append, List.map_append, hb]; rfl
      refine ⟨_, rfl, x, rfl, _, rfl, ite2 (fun c1 => ?_) (fun c1 => ?_)⟩
      · refine key true ?_
        rw [inside, Bool.and_eq_true, decide_eq_true_eq, decide_eq_true_eq] at c1
        rw [inside, decide_eq_true (show (-1 : Int) ≤ x by omega), decide_eq_true c1.2]; rfl
      · refine ⟨_, rfl, rfl, key _ ?_⟩
        have c2 : ¬ (0 ≤ x ∧ x ≤ 7) := fun z => c1 (by rw [inside, Bool.and_eq_true, decide_eq_true_eq, decide_eq_true_eq]; exact z)
        by_cases z : x = -1
        · subst z; rfl
        · have z2 : ¬ V.int x = V.int (-1) := fun y => z (V.int.inj y)
          rw [decide_eq_false z2, inside]
          symm
          rw [Bool.and_eq_false_iff, decide_eq_false_iff_not, decide_eq_false_iff_not]
          omega
    · rintro H' ⟨t, hD'⟩
      have e0 : ns.take (iV ns).length = ns := by rw [iV_length, List.take_length]
      rw [e0] at hD'
      refine ⟨D, _, rfl, SqL.of hD', ?_⟩
      refine vq (Q := R) ?_ (q H' t)
      rw [orNone, c, Bool.true_and, List.all_map]
      rfl
  · refine vq (Q := R) ?_ (q H (Same.refl _))
    rw [orNone, Bool.eq_false_iff.mpr c, Bool.false_and]

/-! ### is_giving -/
def spIsGiv (CH : Addr) : Sp := fun vs H R _ => ∃ (h dd : Addr) (l : Lay) (m : M) (g : G), vs = [.ref h, .ref dd] ∧ HouseAt CH H h l m ∧ MOk m ∧ H dd = some (.dK (kG g)) ∧ (keys g).Nodup ∧ g.length ≤ 1000 ∧ (∀ a ∈ keys g, a < m.ppl.length) ∧
  ∀ H', Same H H' → R (.bl (Vbkoaf.isGiving m.ds (gP m g))) H'
theorem pure_is_giving (T : Txt K mg CG CH CR) (vs : List V) (H : Hp) (R : VK) (E : XK) (h : spIsGiv CH vs H R E) : t_is_giving K CG CH CR (spLoads CH) (spLimits CH) { nx := fun _ H' => R .non H', rt := R } (start ["house", "day_of", "applicant", "day", "load", "many", "most"] vs) H := by
  obtain ⟨h, dd, l, m, g, rfl, hs, mo, hdd, nd, few, inP, q⟩ := h
  have hdn := mo.wf.dn
  have iff := giv_iff mo.wf (g := g)
  have qT : (∀ t ∈ g, t.2 ∈ daysAt m t.1) → (∀ d, d < m.ds.length → DayOk m g d) → ∀ H', Same H H' → R (.bl true) H' := fun h1 h2 H' s => vq (Q := R) (iff.mpr ⟨h1, h2⟩).symm (q H' s)
  have qF : ¬ ((∀ t ∈ g, t.2 ∈ daysAt m t.1) ∧ ∀ d, d < m.ds.length → DayOk m g d) → ∀ H', Same H H' → R (.bl false) H' := fun hn H' s => vq (Q := R) (Bool.eq_false_iff.mpr fun z => hn (iff.mp z)).symm (q H' s)
  clear q iff
  refine ⟨dd, _, hdd, trivial, fun od => ?_⟩
  have back : Same H (upd (upd H dd (.frz od (.dK (kG g)))) dd (.dK (kG g))) := fun b o hb => by
    by_cases z : b = dd
    · subst z; rw [upd_same, ← hdd, hb]
    · rw [upd_ne z, upd_ne z]; exact hb
  have hs' : HouseAt CH (upd H dd (.frz od (.dK (kG g)))) h l m := hs.but hdd But.upd
  refine ⟨_, rfl, dd, od, rfl, .inl ⟨_, upd_same, ?_⟩⟩
  refine for_it walk_keys (fun i σ H' => ∃ (v2 : Option V), σ = [some (.ref h), some (.ref dd), v2, none, none, none, none] ∧ H' = upd H dd (.frz od (.dK (kG g))) ∧ ∀ j t, j < i → g[j]? = some t → t.2 ∈ daysAt m t.1)
    ⟨none, rfl, rfl, fun j t hj => by omega⟩ (fun i σ H' _ ⟨_, _, e, _⟩ => by rw [e, upd_same]) ?_ ?_
  · rintro i y σ _ H' hi ⟨v2, rfl, rfl, hyes⟩ ⟨rfl, k, v, hkv, rfl⟩
    obtain ⟨t, ht, rfl, rfl⟩ := kvs_get hkv
    have htm := List.mem_of_getElem? ht
    have hta : t.1 < m.ppl.length := inP t.1 (Vb.mem_keys htm)
    have hv : (g.lookup t.1) = some t.2 := mem_look nd htm
    obtain ⟨k1, k2⟩ := as_get hs' hta
    refine ⟨_, rfl, _, rfl, dd, dayV t.2, rfl, .inl ⟨kG g, Sum.inl (t.1 : Int), .inr ⟨od, upd_same⟩, rfl, by rw [kG, val_kvs, hv]; rfl⟩, ?_⟩
    refine ⟨_, rfl, h, CH, l.dx, _, _, rfl, hs'.ins, T.cl_House, T.na_House_days_of, hF_days_of, _, rfl, l.da, _, _, _, rfl, rfl, SqL.of hs'.da, atI_nat (refs_some k1), l.as.getD t.1 0, _, rfl, .inl (SqL.of k2), rfl, flat_nats _, _, rfl, ite2 (fun c => ?_) (fun c => ?_)⟩
    · have c' : t.2 ∉ daysAt m t.1 := fun z => by
        have : (!inV (.int (t.2 : Int)) (nats (daysAt m t.1))) = true := c
        rw [inV_nats, decide_eq_true z] at this; cases this
      exact ⟨upd_same, qF (fun z => c' (z.1 t htm)) _ back⟩
    · have c' : t.2 ∈ daysAt m t.1 := by
        by_cases z : t.2 ∈ daysAt m t.1
        · exact z
        · exact absurd (show (!inV (.int (t.2 : Int)) (nats (daysAt m t.1))) = true by rw [inV_nats, decide_eq_false z]; rfl) c
      refine ⟨_, rfl, rfl, fun j u hj hu => ?_⟩
      by_cases ej : j = i
      · subst ej
        rw [ht] at hu; cases hu
        exact c'
      · exact hyes j u (by omega) hu
  · rintro σ H' ⟨v2, rfl, rfl, hyes⟩
    refine ⟨upd_same, ?_⟩
    have hall : ∀ t ∈ g, t.2 ∈ daysAt m t.1 := fun t ht => by
      obtain ⟨j, hj⟩ := List.mem_iff_getElem?.mp ht
      exact hyes j t (by rw [kG, kvs_length]; exact (List.getElem?_eq_some_iff.mp hj).1) hj
    have hs1 := hs.same back
    have hdd1 := back _ _ hdd
    generalize upd (upd H dd (.frz od (.dK (kG g)))) dd (.dK (kG g)) = H1 at back hs1 hdd1
    -- loads_of(house, day_of)
    refine ⟨_, rfl, _, rfl, h, dd, l, m, g, rfl, hs1, mo.wf, hdd1, nd, few, inP, fun t ht => mo.day (inP t.1 (Vb.mem_keys ht)) t.2 (hall t ht), fun H2 lp as s2 nlp hlp hls hnas => ?_⟩
    have hll : (loadsN m g).length = m.ds.length := by rw [loadsN, List.length_map, List.length_range]
    have hasl : as.length = m.ds.length := by rw [hls.len, hll]
    have sA := back.trans s2
    refine ⟨lp, _, rfl, SqL.of hlp, ?_⟩
    refine for_it (walk_enum (K := K) (a := lp) (xs := as.map V.ref)) (fun i σ H' => ∃ (v2 v3 v4 v5 v6 : Option V), σ = [some (.ref h), some (.ref dd), v2, v3, v4, v5, v6] ∧ Same H2 H' ∧ ∀ d, d < i → DayOk m g d)
      ⟨_, _, _, _, _, rfl, Same.refl _, fun d hd => by omega⟩ (fun i σ H' _ ⟨_, _, _, _, _, _, s, _⟩ => SqL.of (s _ _ hlp)) ?_ ?_
    · rintro i v σ H' H'' hi ⟨v2, v3, v4, v5, v6, rfl, s, hok⟩ ⟨T1, x, z, rfl, nT, rfl, ex, ez⟩
      cases ex
      have ez : (as.map V.ref)[i]? = some z := ez
      rw [List.getElem?_map] at ez
      cases ea : as[i]? with
      | none => rw [ea] at ez; cases ez
      | some la =>
        rw [ea] at ez
        cases ez
        have hi2 : i < as.length := (List.getElem?_eq_some_iff.mp ea).1
        have hid : i < m.ds.length := by omega
        have hy : m.ds[i]? = some m.ds[i] := List.getElem?_eq_getElem hid
        generalize m.ds[i] = y at hy
        have hk4 := mo.wf.kn y (List.mem_of_getElem? hy)
        have s3 := s.trans (same_upd (o := .tup [V.int (i : Int), V.ref la]) nT)
        refine ⟨T1, _, rfl, SqT.of upd_same, rfl, _, _, rfl, _, _, rfl, rfl, ?_⟩
        generalize upd H' T1 (.tup [V.int (i : Int), V.ref la]) = H3 at s3
        have hla := s3 _ _ (hls.at_ i la _ ea (loads_get hid))
        have hs3 := hs.same (sA.trans s3)
        -- house.limits_of(day)
        refine ⟨_, rfl, _, rfl, h, l.dx, _, rfl, hs3.ins, hF_no (by decide +kernel), _, rfl, h, l, m, i, y, rfl, hs3, mo.wf, hy, fun H4 u s4 nu hu => ?_⟩
        have hla4 := s4 _ _ hla
        refine ⟨la, u, _, _, rfl, SqL.of hla4, SqL.of hu, ?_⟩
        refine for_it (walk_zip (K := K) (a := la) (b := u) (xs := nats (loadN m g i)) (ys := nats (y.places :: y.kinds)) (n := 5) (by rw [nats_length, nats_length, List.length_cons, hk4]; rfl)) (fun j σ H' => ∃ (v5 v6 : Option V), σ = [some (.ref h), some (.ref dd), v2, some (.int (i : Int)), some (.ref la), v5, v6] ∧ Same H4 H' ∧ ∀ j' a b, j' < j → (loadN m g i)[j']? = some a → (y.places :: y.kinds)[j']? = some b → a ≤ b)
          ⟨_, _, rfl, Same.refl _, fun j' a b hj => by omega⟩ (fun j σ H' _ ⟨_, _, _, t, _⟩ => ⟨SqL.of (t _ _ hla4), SqL.of (t _ _ hu)⟩) ?_ ?_
        · rintro j v σ H5 H6 hj ⟨v5, v6, rfl, t, hle⟩ ⟨T2, x, z, rfl, nT2, rfl, ex, ez⟩
          obtain ⟨a, ha, rfl⟩ := of_nats ex
          obtain ⟨b, hb, rfl⟩ := of_nats ez
          have t2 := t.trans (same_upd (o := .tup [V.int (a : Int), V.int (b : Int)]) nT2)
          refine ⟨T2, _, rfl, SqT.of upd_same, rfl, _, _, rfl, _, _, rfl, rfl, ?_⟩
          refine ⟨_, rfl, _, rfl, _, _, rfl, rfl, _, rfl, ite2 (fun c => ?_) (fun c => ?_)⟩
          · have c' := of_decide_eq_true c
            refine qF (fun w => ?_) _ (sA.trans (s3.trans (s4.trans t2)))
            have := w.2 i hid y j a b hy ha hb
            omega
          · have c' : ¬ (b : Int) < (a : Int) := fun w => c (decide_eq_true w)
            refine ⟨_, _, rfl, t2, fun j' a' b' hj' ha' hb' => ?_⟩
            by_cases ej : j' = j
            · subst ej
              rw [ha] at ha'; cases ha'
              rw [hb] at hb'; cases hb'
              omega
            · exact hle j' a' b' (by omega) ha' hb'
        · rintro σ H5 ⟨v5, v6, rfl, t, hle⟩
          refine ⟨_, _, _, _, _, rfl, s3.trans (s4.trans t), fun d hd => ?_⟩
          by_cases ed : d = i
          · subst ed
            intro y' j a b hy' ha hb
            rw [hy] at hy'; cases hy'
            exact hle j a b (List.getElem?_eq_some_iff.mp ha).1 ha hb
          · exact hok d (by omega)
    · rintro σ H' ⟨v2, v3, v4, v5, v6, rfl, s, hok⟩
      rw [List.length_map, hasl] at hok
      exact qT hall hok _ (sA.trans s)

/-! ### check -/
theorem pure_call_check (T : Txt K mg CG CH CR) (vs : List V) (H : Hp) (R : VK) (E : XK) (h : spCallP K CH CR 12 vs H R E) : t_call_check K CG CH CR (spList K CR) (spOrNone K CH) (spIsGiv CH) (spServed CH) { nx := fun _ H' => R .non H', rt := R } (start ["house", "reader", "days", "day_of", "applicant", "day"] vs) H := by
  obtain ⟨h, r, dxr, a, l, m, ns, n, c, t, rfl, p, hc, hcl, q⟩ := h
  obtain ⟨j, hj, hn, rfl, ht⟩ := flat_01 rfl p.nl hc
  rw [ht] at q
  have mo := p.mo
  have hjl : ((ns.drop (n + 1)).take j).length ≤ 60 := hcl _ (by simp)
  refine ⟨_, rfl, r, dxr, _, rfl, p.rd, rF_no (by decide +kernel), r, dxr, a, n, j, ns, rfl, p.rd, p.rq.sq, hj, by omega, fun H1 dl b1 hr1 ndl hdl => ?_⟩
  have p1 := p.read b1 hr1 hn
  have hst : stp m [[12], (ns.drop (n + 1)).take j] = if (((ns.drop (n + 1)).take j).length == (m.row.map (mP m)).length && ((ns.drop (n + 1)).take j).all fun d => inside d (-1) 7) = false then (absS m, [-2]) else
      (absS m, [if ((Vbkoaf.chosen (m.row.map (mP m)) ((ns.drop (n + 1)).take j)).map fun t => t.1) = Vbkoaf.served (absS m) ∧ Vbkoaf.isGiving m.ds (Vbkoaf.chosen (m.row.map (mP m)) ((ns.drop (n + 1)).take j)) = true then 1 else 0]) := rfl
  generalize (ns.drop (n + 1)).take j = ls at hjl hdl hst q
  rw [List.length_map, chosen_is] at hst
  refine ⟨_, rfl, _, rfl, h, dl, l, m, ls, rfl, p1.hs, SqL.of hdl, by omega, fun H2 s2 => ⟨_, rfl, ite2 (fun c1 => ?_) (fun c1 => ?_)⟩⟩
  · have c' : orNone m ls = false := by simpa using c1
    exact refuse p (p1.same s2) (b1.then s2) q (by rw [hst]; exact if_pos c')
  · have c' : orNone m ls = true := by
      cases e : orNone m ls with
      | true => rfl
      | false => rw [e] at c1; exact absurd rfl c1
    rw [if_neg (by
      show ¬ orNone m ls = false
      rw [c']; decide)] at hst
    rw [orNone, Bool.and_eq_true, beq_iff_eq, List.all_eq_true] at c'
    obtain ⟨hlen, hin⟩ := c'
    have h8 := mo.r8
    have hs2 := (p1.same s2).hs
    have hdl2 := s2 _ _ hdl
    -- day_of = {}
    refine fun dd ndd => ?_
    have s3 := same_upd (o := .dK []) ndd
    have hs3 := hs2.same s3
    refine ⟨_, rfl, h, CH, l.dx, _, _, rfl, hs3.ins, T.cl_House, T.na_House_row, hF_row, _, rfl, l.ro, dl, _, _, rfl, SqL.of hs3.ro, SqL.of (s3 _ _ hdl2), ?_⟩
    refine for_it (walk_zip (K := K) (a := l.ro) (b := dl) (xs := nats m.row) (ys := iV ls) (n := m.row.length) (by rw [nats_length, iV_length, hlen, Nat.min_self])) (fun i σ H' => ∃ (v4 v5 : Option V), σ = [some (.ref h), some (.ref r), some (.ref dl), some (.ref dd), v4, v5] ∧ Same H2 H' ∧ H' dd = some (.dK (kG (gCh (m.row.take i) (ls.take i)))))
      ⟨none, none, rfl, s3, upd_same⟩ (fun i σ H' _ ⟨_, _, _, s, _⟩ => ⟨SqL.of (s _ _ hs2.ro), SqL.of (s _ _ hdl2)⟩) ?_ ?_
    · rintro i v σ H3 H4 hi ⟨v4, v5, rfl, s, hd3⟩ ⟨T1, x, z, rfl, nT, rfl, ex, ez⟩
      obtain ⟨b, hb, rfl⟩ := of_nats ex
      obtain ⟨x, hx, rfl⟩ := of_iV ez
      have t1 := same_upd (o := .tup [V.int (b : Int), V.int x]) nT
      have s4 := s.trans t1
      have hd4 := t1 _ _ hd3
      refine ⟨T1, _, rfl, SqT.of upd_same, rfl, _, _, rfl, _, _, rfl, rfl, ?_⟩
      generalize upd H3 T1 (.tup [V.int (b : Int), V.int x]) = H4 at s4 hd4
      have hxin := hin x (List.mem_of_getElem? hx)
      rw [inside, Bool.and_eq_true, decide_eq_true_eq, decide_eq_true_eq] at hxin
      have hsub := gCh_sub (row := m.row.take i) (ls := ls.take i)
      have hnd : (keys (gCh (m.row.take i) (ls.take i))).Nodup := List.Nodup.sublist (hsub.trans (List.take_sublist i m.row)) mo.rn
      have hgl : (gCh (m.row.take i) (ls.take i)).length ≤ 1000 := by
        rw [← keys_len]
        have := (hsub.trans (List.take_sublist i m.row)).length_le
        omega
      refine ⟨_, rfl, rfl, _, rfl, ?_⟩
      by_cases cx : x = -1
      · subst cx
        refine iteF ⟨_, _, rfl, s4, ?_⟩
        rw [gCh_more hb hx, if_neg (by decide), List.append_nil]
        exact hd4
      · have cx2 : ¬ V.int x = V.int (-1) := fun y => cx (V.int.inj y)
        rw [decide_eq_false cx2]
        refine iteT ?_
        refine ⟨_, rfl, _, rfl, _, rfl, dd, _, rfl, DPut.k (k := Sum.inl (b : Int)) hd4 (by rw [kG, kvs_length]; exact small1000 hgl), ?_⟩
        have hno : b ∉ keys (gCh (m.row.take i) (ls.take i)) := fun y => by
          have y := hsub.subset y
          have nd2 := mo.rn
          rw [← List.take_append_drop (i + 1) m.row, take_more hb] at nd2
          exact (List.nodup_append.mp (List.nodup_append.mp nd2).1).2.2 _ y _ (List.mem_cons_self ..) rfl
        obtain ⟨d, rfl⟩ : ∃ d : Nat, x = (d : Int) := ⟨x.toNat, by omega⟩
        have hput : putK (kG (gCh (m.row.take i) (ls.take i))) (Sum.inl (b : Int)) (.int (d : Int)) = kG (gCh (m.row.take (i + 1)) (ls.take (i + 1))) := by
          have y := putK_kvs (f := dayV) (a := b) (v := d) (l := gCh (m.row.take i) (ls.take i)) hnd
          rw [putN_new hno] at y
          rw [gCh_more hb hx, if_pos (by omega), Int.toNat_natCast]
          exact y
        rw [hput]
        refine ⟨_, _, rfl, fun c o hc => ?_, upd_same⟩
        rw [upd_ne (ne_of_none hc ndd)]; exact s4 _ _ hc
    · rintro σ H3 ⟨v4, v5, rfl, s, hd3⟩
      have e0 : ls.take m.row.length = ls := by rw [← hlen, List.take_length]
      rw [List.take_length, e0] at hd3
      have hsub := gCh_sub (row := m.row) (ls := ls)
      generalize gCh m.row ls = g at hst hd3 hsub
      have hnd : (keys g).Nodup := List.Nodup.sublist hsub mo.rn
      have hgl : g.length ≤ 1000 := by
        rw [← keys_len]
        have := hsub.length_le
        omega
      have hs3' := hs2.same s
      have hst2 : stp m [[12], ls] = (absS m, [if keys g = svd m ∧ Vbkoaf.isGiving m.ds (gP m g) = true then 1 else 0]) := by
        rw [hst, served_abs]
        have e1 : ((gP m g).map fun t => t.1) = (keys g).map (mP m) := by
          rw [gP, keys, List.map_map, List.map_map]; rfl
        have e2 : (keys g).map (mP m) = (svd m).map (mP m) ↔ keys g = svd m := ⟨fun z => by
          have := congrArg Vbkoaf.ids z
          rwa [ids_row, ids_row] at this, fun z => by rw [z]⟩
        rw [e1]
        by_cases w : keys g = svd m
        · simp only [e2, w, true_and]
        · have w2 : ¬ (keys g).map (mP m) = (svd m).map (mP m) := fun z => w (e2.mp z)
          rw [if_neg (fun z => w2 z.1), if_neg (fun z => w z.1)]
      -- the answer
      have ans : ∀ (H4 : Hp) (b : Bool) (s4 : Same H3 H4), (b = true ↔ (keys g = svd m ∧ Vbkoaf.isGiving m.ds (gP m g) = true)) → ∀ v, H4 v = none → R (.ref v) (upd H4 v (.lst [V.int (if b = true then 1 else 0)])) := fun H4 b s4 hb v nv => by
        have t := same_upd (o := .lst [V.int (if b = true then 1 else 0)]) nv
        have sA := s2.trans (s.trans (s4.trans t))
        refine q _ v (Post.keep p (p1.same sA) (b1.then sA) (by rw [hst2]) ?_ (b1.fresh hr1 ((s2.trans (s.trans s4)).free nv)).2)
        rw [upd_same, hst2]
        by_cases w : b = true
        · rw [if_pos w, if_pos (hb.mp w)]; rfl
        · rw [if_neg w, if_neg (fun z => w (hb.mpr z))]; rfl
      -- list(day_of) == served(house)
      refine ⟨_, rfl, dd, _, rfl, .inl hd3, fun lp nlp => ?_⟩
      rw [keys_kG]
      have t1 := same_upd (o := .lst (nats (keys g))) nlp
      refine ⟨_, rfl, h, l, m, rfl, hs3'.same t1, mo, fun H4 y s4 ny hy => ?_⟩
      have hlp : H4 lp = some (.lst (nats (keys g))) := s4 _ _ upd_same
      rw [nats_iV] at hlp
      have hy' : H4 y = some (.lst (nats (svd m))) := hy
      rw [nats_iV] at hy'
      have s5 := t1.trans s4
      have ekey : ((keys g).map fun (n : Nat) => (n : Int)) = ((svd m).map fun (n : Nat) => (n : Int)) ↔ keys g = svd m := ⟨fun z => by
        have := congrArg (List.map Int.toNat) z
        rw [List.map_map, List.map_map] at this
        have f : ∀ (l : List Nat), l.map (Int.toNat ∘ fun (n : Nat) => (n : Int)) = l := fun l => (List.map_congr_left fun x _ => by simp).trans (List.map_id l)
        rwa [f, f] at this, fun z => by rw [z]⟩
      refine eqD_ints (SqL.of hlp) (SqL.of hy') ⟨_, rfl, ite2 (fun c2 => ?_) (fun c2 => ?_)⟩
      · have w := ekey.mp (of_decide_eq_true c2)
        refine ⟨_, rfl, _, rfl, h, dd, l, m, g, rfl, hs3'.same s5, mo, s5 _ _ hd3, hnd, hgl, fun b hb => mo.rl b (hsub.subset hb), fun H5 s6 => ⟨_, rfl, ite2 (fun c3 => ?_) (fun c3 => ?_)⟩⟩
        · refine ⟨by show 1 ≤ sizeLine; decide, fun v nv => ?_⟩
          exact ans H5 true (s5.trans s6) ⟨fun _ => ⟨w, c3⟩, fun _ => rfl⟩ v nv
        · refine ⟨by show 1 ≤ sizeLine; decide, fun v nv => ?_⟩
          exact ans H5 false (s5.trans s6) ⟨fun z => (by cases z), fun z => absurd z.2 c3⟩ v nv
      · have w : ¬ keys g = svd m := fun z => c2 (decide_eq_true (ekey.mpr z))
        refine iteF ?_
        refine ⟨by show 1 ≤ sizeLine; decide, fun v nv => ?_⟩
        exact ans H4 false s5 ⟨fun z => (by cases z), fun z => absurd z.1 w⟩ v nv
end
end Vp
set_option Elab.async false
set_option linter.all false
set_option maxRecDepth 100000
set_option maxHeartbeats 1000000
namespace Vp
open PySem PySem.Spec PyProof.Rows L2
open Vbkoaf (Person Day inside State)
open Vb (G Q keys)

/-! ### the table of the calls -/
def posOf : List Addr → Addr → Option Nat
  | [], _ => none
  | b :: l, a => if b = a then some 0 else (posOf l a).map (· + 1)
theorem posOf_at : ∀ {l : List Addr} {i : Nat} {a : Addr}, l.Nodup → l[i]? = some a → posOf l a = some i
  | [], i, a, _, h => by cases h
  | b :: l, 0, a, _, h => by
    have : b = a := by simpa using h
    rw [posOf, if_pos this]
  | b :: l, i + 1, a, nd, h => by
    have nd' := List.nodup_cons.mp nd
    have h' : l[i]? = some a := by simpa using h
    have : ¬ b = a := fun e => nd'.1 (e ▸ List.mem_of_getElem? h')
    rw [posOf, if_neg this, posOf_at nd'.2 h']; rfl
theorem posOf_get : ∀ {l : List Addr} {i : Nat} {a : Addr}, posOf l a = some i → l[i]? = some a
  | [], i, a, h => by cases h
  | b :: l, i, a, h => by
    rw [posOf] at h
    split at h
    · cases h; rename_i e; rw [← e]; rfl
    · cases e : posOf l a with
      | none => rw [e] at h; cases h
      | some j => rw [e] at h; cases h; simpa using posOf_get e
def tabD (fs : List Addr) : Int → Option Addr := fun z => if 0 ≤ z then fs[z.toNat]? else none
def tabS (K : PySem.W.Frag) (CH CR : Addr) (fs : List Addr) : Addr → Option Sp := fun f => (posOf fs f).map fun i => spCallP K CH CR (i : Int)

/-! ### calls as they lie behind one another -/
theorem shape_in {p : Int} {x : Nat × Nat} (h : PyVbkoaf.shape p = some x) : 0 ≤ p ∧ p < 18 := by
  by_cases hp : 0 ≤ p ∧ p < 18
  · exact hp
  · exfalso
    unfold PyVbkoaf.shape at h
    iterate 18 rw [if_neg (by omega)] at h
    cases h
theorem rows_drop : ∀ {k : Nat} {r t : List Int} {xs : List (List Int)}, PyFlat.rows k r = some (xs, t) → ∃ j, j ≤ r.length ∧ t = r.drop j
  | 0, r, t, xs, h => by
    rw [PyFlat.rows] at h; cases h
    exact ⟨0, Nat.zero_le _, rfl⟩
  | k + 1, r, t, xs, h => by
    rw [PyFlat.rows] at h
    cases e : PyFlat.row r with
    | none => rw [e] at h; cases h
    | some u =>
      obtain ⟨x, s⟩ := u
      rw [e] at h
      simp only at h
      cases e2 : PyFlat.rows k s with
      | none => rw [e2] at h; cases h
      | some v =>
        obtain ⟨ys, t'⟩ := v
        rw [e2] at h
        cases h
        obtain ⟨j, hj, rfl⟩ := rows_drop e2
        cases r with
        | nil => cases e
        | cons n r =>
          rw [PyFlat.row] at e
          split at e
          · cases e
            refine ⟨1 + n.toNat + j, ?_, ?_⟩
            · rw [List.length_drop] at hj
              rw [List.length_cons]; omega
            · rw [List.drop_drop, show 1 + n.toNat + j = (n.toNat + j) + 1 by omega, List.drop_succ_cons]
          · cases e
theorem call_drop {l t : List Int} {c : List (List Int)} (h : PyFlat.call PyVbkoaf.shape l = some (c, t)) : ∃ p r j, l = p :: r ∧ 0 ≤ p ∧ p < 18 ∧ 1 ≤ j ∧ j ≤ l.length ∧ t = l.drop j := by
  cases l with
  | nil => cases h
  | cons p r =>
    rw [PyFlat.call] at h
    cases e : PyVbkoaf.shape p with
    | none => rw [e] at h; cases h
    | some u =>
      obtain ⟨n, k⟩ := u
      rw [e] at h
      simp only at h
      split at h
      · cases h
      · rename_i hn
        cases e2 : PyFlat.rows k (r.drop n) with
        | none => rw [e2] at h; cases h
        | some v =>
          obtain ⟨xs, t'⟩ := v
          rw [e2] at h
          cases h
          obtain ⟨j, hj, rfl⟩ := rows_drop e2
          obtain ⟨h1, h2⟩ := shape_in e
          rw [List.length_drop] at hj
          refine ⟨p, r, n + j + 1, rfl, h1, h2, by omega, by rw [List.length_cons]; omega, ?_⟩
          rw [List.drop_succ_cons, List.drop_drop]
theorem asked_rows {c : List (List Int)} (h : VbkoafNeutral.asked1 c = true) : ∀ x ∈ c, x.length ≤ 60 := by
  unfold VbkoafNeutral.asked1 at h
  split at h
  all_goals first
    | (exact absurd h Bool.false_ne_true)
    | (intro x hx
       simp only [List.mem_cons, List.not_mem_nil, or_false] at hx
       first
         | (subst hx; simp; done)
         | (simp only [Bool.and_eq_true, decide_eq_true_eq] at h
            rcases hx with rfl | rfl
            · simp
            · omega))
theorem whole_is (c : List (List Int)) : PyVbkoaf.whole c = c := by
  unfold PyVbkoaf.whole
  split <;> rfl

section
variable {K : PySem.W.Frag} {mg : Str → Option Value} {CG CH CR : Addr}
def spNext (K : PySem.W.Frag) (CH CR : Addr) : Sp := fun vs H R _ => ∃ (h r dxr a : Addr) (l : Lay) (m : M) (ns : List Int) (n : Nat) (c : List (List Int)) (t : List Int), vs = [.ref h, .ref r] ∧ Pre K CH CR H h r dxr a l m ns n ∧
  PyFlat.call PyVbkoaf.shape (ns.drop n) = some (c, t) ∧ (∀ x ∈ c, x.length ≤ 60) ∧
  ∀ H' q, Post CH CR H H' h r dxr a l (stp m c).1 (stp m c).2 (ns.length - t.length) q → R (.ref q) H'
theorem pure_next {fs : List Addr} {ac : Addr} (T : Txt K mg CG CH CR) (nd : fs.Nodup) (h18 : fs.length = 18) (vs : List V) (H : Hp) (R : VK) (E : XK) (h : spNext K CH CR vs H R E) : t_answer_next K CG CH CR (spNum K CR) (tabS K CH CR fs) ac (tabD fs) { nx := fun _ H' => R .non H', rt := R } (start ["house", "reader", "call"] vs) H := by
  obtain ⟨h, r, dxr, a, l, m, ns, n, c, t, rfl, p, hc, hcl, q⟩ := h
  obtain ⟨z, rest, j, e, h0, h1, _, _, _⟩ := call_drop hc
  obtain ⟨hz, hrest, hn⟩ := drop_at e
  rw [e, ← hrest] at hc
  refine ⟨_, rfl, r, dxr, _, rfl, p.rd, rF_no (by decide +kernel), r, dxr, a, n, ns, z, rfl, p.rd, p.rq.sq, hz, fun H1 b1 hr1 => ?_⟩
  have p1 := p.read b1 hr1 hn
  obtain ⟨i, rfl⟩ : ∃ i : Nat, z = (i : Int) := ⟨z.toNat, by omega⟩
  have hi : i < fs.length := by omega
  have hf : fs[i]? = some fs[i] := List.getElem?_eq_getElem hi
  refine ⟨_, fs[i], rfl, rfl, ?_, ?_⟩
  · rw [tabD, if_pos h0, Int.toNat_natCast]; exact hf
  · refine ⟨fs[i], spCallP K CH CR (i : Int), rfl, ?_, _, rfl, _, rfl, h, r, dxr, a, l, m, ns, n + 1, c, t, rfl, p1, hc, hcl, fun H' y po => ?_⟩
    · rw [tabS, posOf_at nd hf]; rfl
    · refine q H' y ?_
      obtain ⟨l', m', g1, g2, g3, g4⟩ := po.ex
      refine ⟨⟨l', m', g1, g2, g3, fun b hb => ?_⟩, po.rd, po.ans, (b1.fresh hr1 po.new).2, fun b o hb hnb => ?_⟩
      · rcases g4 b hb with y | y
        · exact .inl y
        · exact .inr (b1.fresh hr1 y).2
      · exact po.fr b o (b1 _ _ hb fun e => hnb (by rw [e]; exact List.mem_cons_self ..)) hnb

theorem big_size {n : Nat} (h : n ≤ 10000000) : n < sizeLine := Nat.lt_of_le_of_lt h (by decide)
def spAns (K : PySem.W.Frag) : Sp := fun vs H R _ => ∃ (a : Addr) (ns : List Int), vs = [.ref a] ∧ Req K H a ns ∧ ns.length ≤ 14000 ∧ PyVbkoaf.answers_asked ns = true ∧
  ∀ (H' : Hp) (p : Addr), H' p = some (.lst (iV (PyVbkoaf.answers ns))) → R (.ref p) H'
theorem pure_answers (T : Txt K mg CG CH CR) (vs : List V) (H : Hp) (R : VK) (E : XK) (h : spAns K vs H R E) : t_answers K CG CH CR (spHInit CH) (spRInit CR) (spAtEnd K CR) (spNext K CH CR) { nx := fun _ H' => R .non H', rt := R } (start ["calls", "house", "reader", "answered", "answer"] vs) H := by
  obtain ⟨a, ns, rfl, rq, few, ask, q⟩ := h
  -- what is asked
  obtain ⟨cs0, hcs0, hall, hshort⟩ : ∃ cs0, PyFlat.calls PyVbkoaf.shape ns.length ns = some cs0 ∧ (∀ c ∈ cs0, ∀ x ∈ c, x.length ≤ 60) ∧ (PyVbkoaf.answers ns).length ≤ 10000000 := by
    unfold PyVbkoaf.answers_asked at ask
    cases e : PyFlat.calls PyVbkoaf.shape ns.length ns with
    | none => rw [e] at ask; cases ask
    | some raw =>
      rw [e] at ask
      simp only [Bool.and_eq_true] at ask
      obtain ⟨⟨⟨⟨_, _⟩, _⟩, h4⟩, h5⟩ := ask
      refine ⟨raw, rfl, fun c hc => ?_, ?_⟩
      · rw [VbkoafNeutral.asked, Bool.and_eq_true] at h4
        have := List.all_eq_true.mp h4.1 (PyVbkoaf.whole c) (List.mem_map_of_mem hc)
        rw [whole_is] at this
        exact asked_rows this
      · exact of_decide_eq_true h5
  have htot : PyVbkoaf.answers ns = PyFlat.told (PyFlat.played VbkoafNeutral.step (absS (m0 1)) cs0) := by
    rw [PyVbkoaf.answers, PyVbkoaf.calls, hcs0]
    show PyFlat.told (PyFlat.played VbkoafNeutral.step VbkoafNeutral.start (cs0.map PyVbkoaf.whole)) = _
    have : cs0.map PyVbkoaf.whole = cs0 := by
      rw [show PyVbkoaf.whole = id from funext whole_is, List.map_id]
    rw [this]; rfl
  generalize PyVbkoaf.answers ns = total at hshort htot q
  -- house = House()
  intro h dxh nh ndh neh
  refine ⟨h, dxh, rfl, upd_same, fun H1 l hs1 b1 f1 => ⟨rfl, ?_⟩⟩
  have s1 : Same H H1 := made nh ndh b1
  -- reader = Reader(calls)
  refine ⟨_, rfl, fun r dxr nr ndr ner => ⟨r, dxr, a, rfl, upd_same, fun H2 b2 hr2 => ⟨rfl, ?_⟩⟩⟩
  have s2 : Same H1 H2 := made nr ndr b2
  have hrr : r ∉ l.all h := fun z => by
    obtain ⟨o, ho⟩ := hs1.there r z
    rw [nr] at ho; cases ho
  -- answered = []
  refine ⟨Nat.zero_le _, fun out nout => ?_⟩
  have s3 : Same H2 (upd H2 out (.lst [])) := same_upd nout
  have hs3 := (hs1.same s2).same s3
  have houtl : out ∉ l.all h := fun z => by
    obtain ⟨o, ho⟩ := (hs1.same s2).there out z
    rw [nout] at ho; cases ho
  have houtr : out ≠ r := fun e => by rw [e, hr2] at nout; cases nout
  refine ⟨fun k σ H' => ∃ (n f : Nat) (l : Lay) (m : M) (cs : List (List (List Int))) (acc : List Int) (v4 : Option V), k = ns.length - n ∧ σ = [some (.ref a), some (.ref h), some (.ref r), some (.ref out), v4] ∧ Pre K CH CR H' h r dxr a l m ns n ∧ PyFlat.calls PyVbkoaf.shape f (ns.drop n) = some cs ∧ (∀ c ∈ cs, ∀ x ∈ c, x.length ≤ 60) ∧
      H' out = some (.lst (iV acc)) ∧ out ∉ l.all h ∧ out ≠ r ∧ total = acc ++ PyFlat.told (PyFlat.played VbkoafNeutral.step (absS m) cs),
    ⟨ns.length, 0, ns.length, l, m0 1, cs0, [], none, rfl, rfl, ⟨hs3, mok0 (by decide), s3 _ _ hr2, rq.fr (xs := []) (Fr.of_same ((s1.trans s2).trans s3)) (fun _ hb => by cases hb), hrr, Nat.zero_le _, few⟩, hcs0, hall, upd_same, houtl, houtr, htot⟩, ?_⟩
  rintro k σ H' ⟨n, f, l, m, cs, acc, v4, rfl, rfl, p, hcs, hcl, hout, houtl, houtr, htot⟩
  refine ⟨_, rfl, r, dxr, _, rfl, p.rd, rF_no (by decide +kernel), r, dxr, a, n, ns, rfl, p.rd, p.rq.sq, _, rfl, ite2 (fun c => ?_) (fun c => ?_)⟩
  · have c' : n < ns.length := by
      cases e : decide (ns.length ≤ n) with
      | true => rw [e] at c; cases c
      | false => have := of_decide_eq_false e; omega
    -- the call that stands next
    obtain ⟨f', cc, t, cs', rfl, hcall, hcs', rfl⟩ : ∃ f' cc t cs', f = f' + 1 ∧ PyFlat.call PyVbkoaf.shape (ns.drop n) = some (cc, t) ∧ PyFlat.calls PyVbkoaf.shape f' t = some cs' ∧ cs = cc :: cs' := by
      cases e : ns.drop n with
      | nil =>
        have : (ns.drop n).length = 0 := by rw [e]; rfl
        rw [List.length_drop] at this
        omega
      | cons z rest =>
        rw [e] at hcs
        cases f with
        | zero => rw [PyFlat.calls] at hcs; cases hcs
        | succ f =>
          rw [PyFlat.calls] at hcs
          cases e2 : PyFlat.call PyVbkoaf.shape (z :: rest) with
          | none => rw [e2] at hcs; cases hcs
          | some u =>
            obtain ⟨cc, t⟩ := u
            rw [e2] at hcs
            simp only at hcs
            cases e3 : PyFlat.calls PyVbkoaf.shape f t with
            | none => rw [e3] at hcs; cases hcs
            | some cs' =>
              rw [e3] at hcs
              cases hcs
              exact ⟨f, cc, t, cs', rfl, rfl, e3, rfl⟩
    obtain ⟨_, _, j, _, _, _, hj1, hj2, ht⟩ := call_drop hcall
    rw [List.length_drop] at hj2
    have htn : ns.length - t.length = n + j := by rw [ht, List.length_drop, List.length_drop]; omega
    have htd : t = ns.drop (n + j) := by rw [ht, List.drop_drop]
    have hplay : PyFlat.told (PyFlat.played VbkoafNeutral.step (absS m) (cc :: cs')) = (((stp m cc).2.length : Int) :: (stp m cc).2) ++ PyFlat.told (PyFlat.played VbkoafNeutral.step (stp m cc).1 cs') := rfl
    rw [hplay] at htot
    have hlen : acc.length + 1 + (stp m cc).2.length ≤ 10000000 := by
      have : total.length = acc.length + ((stp m cc).2.length + 1) + (PyFlat.told (PyFlat.played VbkoafNeutral.step (stp m cc).1 cs')).length := by
        rw [htot]; simp; omega
      omega
    refine ⟨fun σ' H'' => ∃ k', k' < ns.length - n ∧ ∃ (n f : Nat) (l : Lay) (m : M) (cs : List (List (List Int))) (acc : List Int) (v4 : Option V), k' = ns.length - n ∧ σ' = [some (.ref a), some (.ref h), some (.ref r), some (.ref out), v4] ∧ Pre K CH CR H'' h r dxr a l m ns n ∧ PyFlat.calls PyVbkoaf.shape f (ns.drop n) = some cs ∧ (∀ c ∈ cs, ∀ x ∈ c, x.length ≤ 60) ∧
      H'' out = some (.lst (iV acc)) ∧ out ∉ l.all h ∧ out ≠ r ∧ total = acc ++ PyFlat.told (PyFlat.played VbkoafNeutral.step (absS m) cs), fun _ _ z => z, ?_⟩
    refine ⟨_, rfl, _, rfl, h, r, dxr, a, l, m, ns, n, cc, t, rfl, p, hcall, hcl cc (List.mem_cons_self ..), fun H2 y po => ?_⟩
    obtain ⟨l2, m2, g1, g2, g3, g4⟩ := po.ex
    have hout2 : H2 out = some (.lst (iV acc)) := po.fr _ _ hout (by rw [List.mem_cons, not_or]; exact ⟨houtr, houtl⟩)
    have nyo : out ≠ y := ne_of_none hout po.new
    -- answered.append(len(answer))
    refine ⟨_, rfl, .inl ⟨rfl, _, SqL.of hout2⟩, _, rfl, y, _, rfl, .inl (SqL.of po.ans), out, _, _, rfl, rfl, hout2, by rw [iV_length]; exact big_size (by omega), ?_⟩
    have hout3 : (upd H2 out (.lst (iV acc ++ [V.int ((iV (stp m cc).2).length : Int)]))) out = some (.lst (iV acc ++ [V.int ((iV (stp m cc).2).length : Int)])) := upd_same
    have hy3 : (upd H2 out (.lst (iV acc ++ [V.int ((iV (stp m cc).2).length : Int)]))) y = some (.lst (iV (stp m cc).2)) := by rw [upd_ne nyo.symm]; exact po.ans
    -- answered.extend(answer)
    refine ⟨_, rfl, .inl ⟨rfl, _, SqL.of hout3⟩, _, rfl, out, y, _, _, rfl, rfl, hout3, hy3, by rw [List.length_append, iV_length, iV_length]; exact Nat.le_of_lt (big_size (by show acc.length + 1 + _ ≤ _; omega)), ?_⟩
    have hol2 : out ∉ l2.all h := fun z => by
      rcases g4 out z with e | e
      · exact houtl e
      · rw [hout] at e; cases e
    have hrl2 : r ∉ l2.all h := fun z => by
      rcases g4 r z with e | e
      · exact p.rr e
      · rw [p.rd] at e; cases e
    rw [upd_upd]
    generalize eH3 : upd H2 out (.lst (iV acc ++ [V.int ((iV (stp m cc).2).length : Int)] ++ iV (stp m cc).2)) = H3
    have f3 : Fr [out] H2 H3 := by rw [← eH3]; exact Fr.upd (List.mem_cons_self ..)
    have hrd3 : H3 r = some (.ins CR dxr (rF a ((n + j : Nat) : Int))) := by
      rw [← htn]
      exact f3 _ _ po.rd (by simpa using houtr.symm)
    have hs3 : HouseAt CH H3 h l2 m2 := g1.fr f3 fun b hb z => hol2 (by
      have : b = out := by simpa using z
      exact this ▸ hb)
    have rq2 : Req K H2 a ns := p.rq.fr po.fr fun b hb o u z => by
      rcases List.mem_cons.mp hb with e | e
      · rw [e, p.rd] at z; cases z
      · exact p.hs.plain b e o u z
    have rq3 : Req K H3 a ns := rq2.fr f3 fun b hb o u z => by
      have : b = out := by simpa using hb
      rw [this, hout2] at z; cases z
    refine ⟨ns.length - (n + j), by omega, n + j, f', l2, m2, cs', acc ++ ((stp m cc).2.length : Int) :: (stp m cc).2, _, rfl, rfl, ⟨hs3, g2, hrd3, rq3, hrl2, by omega, few⟩, by rw [← htd]; exact hcs', fun c hc => hcl c (List.mem_cons_of_mem _ hc), ?_, hol2, houtr, ?_⟩
    · rw [← eH3, upd_same, iV_length]
      simp [iV]
    · rw [htot, g3, List.append_assoc]
  · have c' : ns.length ≤ n := by
      cases e : decide (ns.length ≤ n) with
      | true => exact of_decide_eq_true e
      | false => rw [e] at c; exact absurd rfl c
    have e0 : ns.drop n = [] := List.drop_eq_nil_of_le c'
    rw [e0] at hcs
    have : cs = [] := by
      cases f with
      | zero => rw [PyFlat.calls] at hcs; cases hcs; rfl
      | succ f => rw [PyFlat.calls] at hcs; cases hcs; rfl
    subst this
    have : total = acc := by rw [htot]; exact List.append_nil acc
    rw [this] at q
    exact ⟨_, rfl, q H' out hout⟩
end
end Vp
set_option Elab.async false
set_option linter.all false
set_option maxRecDepth 100000
set_option maxHeartbeats 1000000
/-! What the top has written, as the end asks for it. -/
namespace Vp
open PySem PySem.Spec PyProof.Rows L2

structure FnAt (K : PySem.W.Frag) (x qual : Str) (st : Stmt) (f : Addr) : Prop where
  ex : ∃ (oc : Value) (od : Option Addr) (kV dc pm : Value) (an : Option Addr) (cd ct : Value) (sl : Array (Option Value)), K.lookup f = some ⟨oc, od, .func (PySem.W.fnOf x qual (defArgs st) (defBody st) (defScope st) .none kV dc pm an cd ct), sl⟩ ∧ PySem.W.codeIn K cd qual = true
  kp : PySem.W.keepIn K (.ref f) = true
theorem FnAt.fn {K : PySem.W.Frag} {x qual : Str} {st : Stmt} {f : Addr} (h : FnAt K x qual st f) : ∃ fd, Fun K x qual st f fd := by
  obtain ⟨oc, od, kV, dc, pm, an, cd, ct, sl, l, c⟩ := h.ex
  exact ⟨_, fun_mk (st := st) l c h.kp⟩
structure DefAt (K : PySem.W.Frag) (x : Str) (st : Stmt) (f : Addr) : Prop where
  ns : PySem.W.nsIn K mainGlobals x = some (some (.ref f))
  fn : FnAt K x x st f
structure MethAt (K : PySem.W.Frag) (C : Addr) (x qual : Str) (st : Stmt) (f : Addr) : Prop where
  at_ : PySem.W.findIn K (.ref C) x = some (some (.ref f))
  isf : PySem.W.isFn K (.ref f) = true
  fn : FnAt K x qual st f
structure ClsAt (K : PySem.W.Frag) (x : Str) (C : Addr) : Prop where
  ns : PySem.W.nsIn K mainGlobals x = some (some (.ref C))
  pg : PySem.W.plainGet K C Str.empty = true
  hd : PySem.W.hasDictIn K C = true
  po : PySem.W.plainOver K C = true
  sa : PySem.W.findIn K (.ref C) "__setattr__" = some (some (.builtin "object.__setattr__"))
  mks : PySem.W.makesIn K C = true
  kc : PySem.W.keepIn K (.ref C) = true
def tabLook : List DictEntry → Nat → List Addr → Bool
  | [], _, [] => true
  | e :: es, i, f :: fs => (match e.key with | .int j _ => j == (i : Int) && e.hash == hashInt j | _ => false) && (match e.val with | .ref g => g == f | _ => false) && tabLook es (i + 1) fs
  | _, _, _ => false
structure TabAt (K : PySem.W.Frag) (x : Str) (a : Addr) (fs : List Addr) : Prop where
  ns : PySem.W.nsIn K mainGlobals x = some (some (.ref a))
  ex : ∃ (es : Array DictEntry) (n : Nat), K.lookup a = some ⟨.type "dict", none, .dict es n, #[]⟩ ∧ tabLook es.toList 0 fs = true
theorem look_keys : ∀ {es : List DictEntry} {i : Nat} {fs : List Addr}, tabLook es i fs = true → ∀ e ∈ es, ∃ j t, e.key = .int j t ∧ e.hash = hashInt j
  | [], _, _, _, _, he => by cases he
  | e :: es, i, [], h, _, _ => by cases h
  | e :: es, i, f :: fs, h, e', he => by
    rw [tabLook, Bool.and_eq_true, Bool.and_eq_true] at h
    rcases List.mem_cons.mp he with z | z
    · subst z
      have h1 := h.1.1
      split at h1
      · rename_i j t hk
        rw [Bool.and_eq_true] at h1
        exact ⟨j, t, hk, by simpa using h1.2⟩
      · cases h1
    · exact look_keys h.2 e' z
theorem look_find : ∀ {es : List DictEntry} {i : Nat} {fs : List Addr}, tabLook es i fs = true → ∀ (k : Nat) (f : Addr), fs[k]? = some f → ((es.find? fun d => Value.isInt ((i + k : Nat) : Int) d.key).map (·.val)) = some (.ref f)
  | [], _, [], _, k, f, h => by cases h
  | [], _, _ :: _, h, _, _, _ => by cases h
  | e :: es, i, [], h, _, _, _ => by cases h
  | e :: es, i, g :: fs, h, k, f, hf => by
    rw [tabLook, Bool.and_eq_true, Bool.and_eq_true] at h
    have h1 := h.1.1
    have h2 := h.1.2
    split at h1
    · rename_i j t hk
      rw [Bool.and_eq_true] at h1
      have hj : j = (i : Int) := by simpa using h1.1
      split at h2
      · rename_i g' hv
        have hg : g' = g := by simpa using h2
        cases k with
        | zero =>
          have : g = f := by simpa using hf
          rw [List.find?_cons]
          have e1 : Value.isInt ((i + 0 : Nat) : Int) e.key = true := by rw [hk, hj]; simp [Value.isInt]
          rw [e1]
          show some e.val = _
          rw [hv, hg, this]
        | succ k =>
          rw [List.find?_cons]
          have e1 : Value.isInt ((i + (k + 1) : Nat) : Int) e.key = false := by rw [hk, hj]; simp [Value.isInt]; omega
          rw [e1]
          have := look_find h.2 k f (by simpa using hf)
          rw [show i + 1 + k = i + (k + 1) by omega] at this
          exact this
      · cases h2
    · cases h1
section
variable {P : Program} {w : World} {K : PySem.W.Frag} {h : Heap} {mg : Str → Option Value}
theorem tab_mk {x : Str} {a : Addr} {fs : List Addr} (X : K.In h) (G : h.Ns mainGlobals mg) (t : TabAt K x a fs) : TabOk K mg x a (tabD fs) := by
  obtain ⟨es, n, hl, hk⟩ := t.ex
  refine ⟨PySem.W.mg_of X G t.ns, es, n, hl, look_keys hk, fun i f hf => ?_⟩
  rw [tabD] at hf
  split at hf
  · rename_i h0
    have := look_find hk i.toNat f hf
    rw [Nat.zero_add, Int.toNat_of_nonneg h0] at this
    obtain ⟨l⟩ := es
    unfold findBy
    rw [List.find?_toArray]
    exact this
  · cases hf
theorem tab_held {CH CR : Addr} {base : Heap} {k : Nat} {fs : List Addr} {f : Addr} {sp : Sp} (hs : tabS K CH CR fs f = some sp) (all : ∀ (i : Nat) (f : Addr), fs[i]? = some f → Held P w K mg base k f (spCallP K CH CR (i : Int))) : Held P w K mg base k f sp := by
  rw [tabS] at hs
  cases e : posOf fs f with
  | none => rw [e] at hs; cases hs
  | some i =>
    rw [e] at hs
    cases hs
    exact all i f (posOf_get e)
theorem mg_const {x : Str} {v : Int} (X : K.In h) (G : h.Ns mainGlobals mg) (e : ∃ t, PySem.W.nsIn K mainGlobals x = some (some (.int v t))) : ∃ t, mg x = some (.int v t) := by
  obtain ⟨t, e⟩ := e
  exact ⟨t, PySem.W.mg_of X G e⟩
theorem call_mk {base : Heap} {x : Str} {st : Stmt} {f : Addr} {k : Nat} {ps : List Str} {sp : Sp} (X : K.In h) (G : h.Ns mainGlobals mg) (d : DefAt K x st f) (b : ∀ fd, Fun K x x st f fd → Binds K fd ps []) (ok : ∀ fd, Fun K x x st f fd → FnOk P w K mg base CX0 k f fd ps sp) : CallOk P w K mg base k x ps sp := by
  obtain ⟨fd, F⟩ := d.fn.fn
  exact ⟨f, fd, PySem.W.mg_of X G d.ns, F.kp, b fd F, ok fd F⟩
theorem held_mk {base : Heap} {x : Str} {st : Stmt} {f : Addr} {k k2 : Nat} {ps : List Str} {sp : Sp} (d : DefAt K x st f) (b : ∀ fd, Fun K x x st f fd → Binds K fd ps []) (ok : ∀ fd, Fun K x x st f fd → FnOk P w K mg base CX0 k f fd ps sp) (hk : k ≤ k2) : Held P w K mg base k2 f sp := by
  obtain ⟨fd, F⟩ := d.fn.fn
  exact ⟨fd, ps, (ok fd F).mono hk, F.kp, b fd F⟩
theorem meth_mk {base : Heap} {C : Addr} {x qual : Str} {st : Stmt} {f : Addr} {k : Nat} {ps : List Str} {sp : Sp} (d : MethAt K C x qual st f) (b : ∀ fd, Fun K x qual st f fd → Binds K fd ps []) (ok : ∀ fd, Fun K x qual st f fd → FnOk P w K mg base CX0 k f fd ps sp) : MethOk P w K mg base k C x ps sp := by
  obtain ⟨fd, F⟩ := d.fn.fn
  exact ⟨f, fd, ⟨d.at_, d.isf, F.kp⟩, b fd F, ok fd F⟩
theorem make_mk {base : Heap} {C : Addr} {y qual : Str} {st : Stmt} {f : Addr} {k : Nat} {ps : List Str} {sp : Sp} (X : K.In h) (G : h.Ns mainGlobals mg) (c : ClsAt K y C) (d : MethAt K C "__init__" qual st f) (b : ∀ fd, Fun K "__init__" qual st f fd → Binds K fd ps []) (ok : ∀ fd, Fun K "__init__" qual st f fd → FnOk P w K mg base CX0 k f fd ps sp) : MakeOk P w K mg base k y C ps sp := by
  obtain ⟨fd, F⟩ := d.fn.fn
  exact ⟨f, fd, ⟨c.mks, d.at_, d.isf, c.kc⟩, PySem.W.mg_of X G c.ns, b fd F, ok fd F⟩
end
theorem req_of {K : PySem.W.Frag} {H : Hp} {p : Addr} {ns : List Int} (hO : OnlyF H) (hs : SqL K H p (ns.map V.int)) : Req K H p ns := by
  rcases hs with (h | ⟨o, h⟩) | h
  · rcases hO p with z | ⟨o, u, z⟩
    · rw [z] at h; cases h
    · rw [z] at h; cases h
  · exact .inl ⟨o, h⟩
  · exact .inr h
theorem req_end {K : PySem.W.Frag} {H : Hp} {p : Addr} {ns : List Int} (hO : OnlyF H) (hl : ns.length ≤ 14000) (ha : PyVbkoaf.answers_asked ns = true) (hs : SqL K H p (ns.map V.int)) :
    spAns K [.ref p] H (fun v H' => Dw K H' v (.list ((PyVbkoaf.answers ns).map PySem.W.WData.int))) (fun _ _ _ => False) :=
  ⟨p, ns, rfl, req_of hO hs, hl, ha, fun H' x hx => .lst (SqL.of hx) (dw_ints _)⟩
end Vp
set_option Elab.async false
set_option linter.all false
set_option maxRecDepth 100000
set_option maxHeartbeats 4000000
namespace Vp
open PySem PySem.Spec PyProof.Rows L2
open PySem.W (Codec)
structure TxtK (K : PySem.W.Frag) (C_Giving C_House C_Reader : Addr) : Prop where
  na_Giving_day_of : PySem.W.findIn K (.ref C_Giving) "day_of" = some none
  na_Giving_house : PySem.W.findIn K (.ref C_Giving) "house" = some none
  na_Giving_wishes : PySem.W.findIn K (.ref C_Giving) "wishes" = some none
  na_House_day_count : PySem.W.findIn K (.ref C_House) "day_count" = some none
  na_House_days_of : PySem.W.findIn K (.ref C_House) "days_of" = some none
  na_House_kind_of : PySem.W.findIn K (.ref C_House) "kind_of" = some none
  na_House_places : PySem.W.findIn K (.ref C_House) "places" = some none
  na_House_quotas : PySem.W.findIn K (.ref C_House) "quotas" = some none
  na_House_row : PySem.W.findIn K (.ref C_House) "row" = some none
  na_Reader_at : PySem.W.findIn K (.ref C_Reader) "at" = some none
  na_Reader_numbers : PySem.W.findIn K (.ref C_Reader) "numbers" = some none
  b_all : PySem.W.nsIn K mainGlobals "all" = some none
  b_dict : PySem.W.nsIn K mainGlobals "dict" = some none
  b_enumerate : PySem.W.nsIn K mainGlobals "enumerate" = some none
  b_len : PySem.W.nsIn K mainGlobals "len" = some none
  b_list : PySem.W.nsIn K mainGlobals "list" = some none
  b_min : PySem.W.nsIn K mainGlobals "min" = some none
  b_range : PySem.W.nsIn K mainGlobals "range" = some none
  b_sorted : PySem.W.nsIn K mainGlobals "sorted" = some none
  b_sum : PySem.W.nsIn K mainGlobals "sum" = some none
  b_zip : PySem.W.nsIn K mainGlobals "zip" = some none
  c_MOST_DAYS : ∃ t, PySem.W.nsIn K mainGlobals "MOST_DAYS" = some (some (.int (8) t))
  c_KINDS : ∃ t, PySem.W.nsIn K mainGlobals "KINDS" = some (some (.int (4) t))
  c_MOST_PLACES : ∃ t, PySem.W.nsIn K mainGlobals "MOST_PLACES" = some (some (.int (9) t))
  c_MOST_OF_KIND : ∃ t, PySem.W.nsIn K mainGlobals "MOST_OF_KIND" = some (some (.int (9) t))
  c_MOST_IN_ROW : ∃ t, PySem.W.nsIn K mainGlobals "MOST_IN_ROW" = some (some (.int (8) t))
  c_MOST_APPLIED : ∃ t, PySem.W.nsIn K mainGlobals "MOST_APPLIED" = some (some (.int (20) t))
  c_OUT_OF_RANGE : ∃ t, PySem.W.nsIn K mainGlobals "OUT_OF_RANGE" = some (some (.int (-1) t))
  c_LIST_NOT_AS_TOLD : ∃ t, PySem.W.nsIn K mainGlobals "LIST_NOT_AS_TOLD" = some (some (.int (-2) t))
  c_NOT_THERE : ∃ t, PySem.W.nsIn K mainGlobals "NOT_THERE" = some (some (.int (-4) t))
  c_SAME_APPLICANT : ∃ t, PySem.W.nsIn K mainGlobals "SAME_APPLICANT" = some (some (.int (-5) t))
  c_NO_MORE_APPLY : ∃ t, PySem.W.nsIn K mainGlobals "NO_MORE_APPLY" = some (some (.int (-7) t))
  c_NO_DAY : ∃ t, PySem.W.nsIn K mainGlobals "NO_DAY" = some (some (.int (-1) t))
  c_ANY_KIND : ∃ t, PySem.W.nsIn K mainGlobals "ANY_KIND" = some (some (.int (-1) t))
  c_NO_PLACE : ∃ t, PySem.W.nsIn K mainGlobals "NO_PLACE" = some (some (.int (-1) t))
section
variable {P : Program} {w : World} {K : PySem.W.Frag} {h : Heap} {mg : Str → Option Value}
theorem txt_mk {C_Giving C_House C_Reader : Addr} (X : K.In h) (G : h.Ns mainGlobals mg) (k_Giving : ClsAt K "Giving" C_Giving) (k_House : ClsAt K "House" C_House) (k_Reader : ClsAt K "Reader" C_Reader) (t : TxtK K C_Giving C_House C_Reader) : Txt K mg C_Giving C_House C_Reader :=
  ⟨⟨k_Giving.pg, k_Giving.hd, k_Giving.po, k_Giving.sa⟩, ⟨k_House.pg, k_House.hd, k_House.po, k_House.sa⟩, ⟨k_Reader.pg, k_Reader.hd, k_Reader.po, k_Reader.sa⟩,
    t.na_Giving_day_of, t.na_Giving_house, t.na_Giving_wishes, t.na_House_day_count, t.na_House_days_of, t.na_House_kind_of, t.na_House_places, t.na_House_quotas, t.na_House_row, t.na_Reader_at, t.na_Reader_numbers,
    PySem.W.mg_none_of X G t.b_all, PySem.W.mg_none_of X G t.b_dict, PySem.W.mg_none_of X G t.b_enumerate, PySem.W.mg_none_of X G t.b_len, PySem.W.mg_none_of X G t.b_list, PySem.W.mg_none_of X G t.b_min, PySem.W.mg_none_of X G t.b_range, PySem.W.mg_none_of X G t.b_sorted, PySem.W.mg_none_of X G t.b_sum, PySem.W.mg_none_of X G t.b_zip,
    mg_const X G t.c_MOST_DAYS, mg_const X G t.c_KINDS, mg_const X G t.c_MOST_PLACES, mg_const X G t.c_MOST_OF_KIND, mg_const X G t.c_MOST_IN_ROW, mg_const X G t.c_MOST_APPLIED, mg_const X G t.c_OUT_OF_RANGE, mg_const X G t.c_LIST_NOT_AS_TOLD, mg_const X G t.c_NOT_THERE, mg_const X G t.c_SAME_APPLICANT, mg_const X G t.c_NO_MORE_APPLY, mg_const X G t.c_NO_DAY, mg_const X G t.c_ANY_KIND, mg_const X G t.c_NO_PLACE⟩
theorem all_mk {fa : Addr} {C_Giving C_House C_Reader f_kinds_on_day f_room_by_day f_is_crowd f_with_one_more f_told_crowd f_is_within f_is_day f_is_kind f_is_applicant f_is_rising f_Giving_init f_Giving_on_day f_Giving_alike_on_day f_Giving_kind_has_room f_Giving_has_room f_Giving_in_the_way f_Giving_move_chain f_Giving_take_in f_wishes_of f_can_be_served f_served f_least_day f_told_giving f_loads_of f_with_count f_are_days_to_come f_are_in_row f_are_days_or_none f_leave f_call_row f_call_served f_call_days f_why f_call_loads f_House_renew f_House_init f_House_twin f_would_place_do f_would_quota_do f_what_is_lacking f_farthest_place f_lacking f_far f_House_limits_of f_is_giving f_call_told f_House_applied f_House_admit f_day_if_applied f_apply f_would f_House_put_ahead f_Reader_init f_Reader_is_at_end f_Reader_take_number f_about_applicant f_call_house f_call_places f_call_quota f_call_leave f_call_ahead f_call_why f_call_lacking f_call_far f_Reader_take_list f_about_newcomer f_call_apply f_call_can f_call_room f_call_check f_call_would f_answer_next f_answers a_CALLS : Addr} (X : K.In h) (G : h.Ns mainGlobals mg) (hfa : mg "answers" = some (.ref fa))
    (k_Giving : ClsAt K "Giving" C_Giving)
    (k_House : ClsAt K "House" C_House)
    (k_Reader : ClsAt K "Reader" C_Reader)
    (tx : TxtK K C_Giving C_House C_Reader)
    (d_kinds_on_day : DefAt K "kinds_on_day" s_kinds_on_day f_kinds_on_day)
    (d_room_by_day : DefAt K "room_by_day" s_room_by_day f_room_by_day)
    (d_is_crowd : DefAt K "is_crowd" s_is_crowd f_is_crowd)
    (d_with_one_more : DefAt K "with_one_more" s_with_one_more f_with_one_more)
    (d_told_crowd : DefAt K "told_crowd" s_told_crowd f_told_crowd)
    (d_is_within : DefAt K "is_within" s_is_within f_is_within)
    (d_is_day : DefAt K "is_day" s_is_day f_is_day)
    (d_is_kind : DefAt K "is_kind" s_is_kind f_is_kind)
    (d_is_applicant : DefAt K "is_applicant" s_is_applicant f_is_applicant)
    (d_is_rising : DefAt K "is_rising" s_is_rising f_is_rising)
    (d_Giving_init : MethAt K C_Giving "__init__" "Giving.__init__" s_Giving_init f_Giving_init)
    (d_Giving_on_day : MethAt K C_Giving "on_day" "Giving.on_day" s_Giving_on_day f_Giving_on_day)
    (d_Giving_alike_on_day : MethAt K C_Giving "alike_on_day" "Giving.alike_on_day" s_Giving_alike_on_day f_Giving_alike_on_day)
    (d_Giving_kind_has_room : MethAt K C_Giving "kind_has_room" "Giving.kind_has_room" s_Giving_kind_has_room f_Giving_kind_has_room)
    (d_Giving_has_room : MethAt K C_Giving "has_room" "Giving.has_room" s_Giving_has_room f_Giving_has_room)
    (d_Giving_in_the_way : MethAt K C_Giving "in_the_way" "Giving.in_the_way" s_Giving_in_the_way f_Giving_in_the_way)
    (d_Giving_move_chain : MethAt K C_Giving "move_chain" "Giving.move_chain" s_Giving_move_chain f_Giving_move_chain)
    (d_Giving_take_in : MethAt K C_Giving "take_in" "Giving.take_in" s_Giving_take_in f_Giving_take_in)
    (d_wishes_of : DefAt K "wishes_of" s_wishes_of f_wishes_of)
    (d_can_be_served : DefAt K "can_be_served" s_can_be_served f_can_be_served)
    (d_served : DefAt K "served" s_served f_served)
    (d_least_day : DefAt K "least_day" s_least_day f_least_day)
    (d_told_giving : DefAt K "told_giving" s_told_giving f_told_giving)
    (d_loads_of : DefAt K "loads_of" s_loads_of f_loads_of)
    (d_with_count : DefAt K "with_count" s_with_count f_with_count)
    (d_are_days_to_come : DefAt K "are_days_to_come" s_are_days_to_come f_are_days_to_come)
    (d_are_in_row : DefAt K "are_in_row" s_are_in_row f_are_in_row)
    (d_are_days_or_none : DefAt K "are_days_or_none" s_are_days_or_none f_are_days_or_none)
    (d_leave : DefAt K "leave" s_leave f_leave)
    (d_call_row : DefAt K "call_row" s_call_row f_call_row)
    (d_call_served : DefAt K "call_served" s_call_served f_call_served)
    (d_call_days : DefAt K "call_days" s_call_days f_call_days)
    (d_why : DefAt K "why" s_why f_why)
    (d_call_loads : DefAt K "call_loads" s_call_loads f_call_loads)
    (d_House_renew : MethAt K C_House "renew" "House.renew" s_House_renew f_House_renew)
    (d_House_init : MethAt K C_House "__init__" "House.__init__" s_House_init f_House_init)
    (d_House_twin : MethAt K C_House "twin" "House.twin" s_House_twin f_House_twin)
    (d_would_place_do : DefAt K "would_place_do" s_would_place_do f_would_place_do)
    (d_would_quota_do : DefAt K "would_quota_do" s_would_quota_do f_would_quota_do)
    (d_what_is_lacking : DefAt K "what_is_lacking" s_what_is_lacking f_what_is_lacking)
    (d_farthest_place : DefAt K "farthest_place" s_farthest_place f_farthest_place)
    (d_lacking : DefAt K "lacking" s_lacking f_lacking)
    (d_far : DefAt K "far" s_far f_far)
    (d_House_limits_of : MethAt K C_House "limits_of" "House.limits_of" s_House_limits_of f_House_limits_of)
    (d_is_giving : DefAt K "is_giving" s_is_giving f_is_giving)
    (d_call_told : DefAt K "call_told" s_call_told f_call_told)
    (d_House_applied : MethAt K C_House "applied" "House.applied" s_House_applied f_House_applied)
    (d_House_admit : MethAt K C_House "admit" "House.admit" s_House_admit f_House_admit)
    (d_day_if_applied : DefAt K "day_if_applied" s_day_if_applied f_day_if_applied)
    (d_apply : DefAt K "apply" s_apply f_apply)
    (d_would : DefAt K "would" s_would f_would)
    (d_House_put_ahead : MethAt K C_House "put_ahead" "House.put_ahead" s_House_put_ahead f_House_put_ahead)
    (d_Reader_init : MethAt K C_Reader "__init__" "Reader.__init__" s_Reader_init f_Reader_init)
    (d_Reader_is_at_end : MethAt K C_Reader "is_at_end" "Reader.is_at_end" s_Reader_is_at_end f_Reader_is_at_end)
    (d_Reader_take_number : MethAt K C_Reader "take_number" "Reader.take_number" s_Reader_take_number f_Reader_take_number)
    (d_about_applicant : DefAt K "about_applicant" s_about_applicant f_about_applicant)
    (d_call_house : DefAt K "call_house" s_call_house f_call_house)
    (d_call_places : DefAt K "call_places" s_call_places f_call_places)
    (d_call_quota : DefAt K "call_quota" s_call_quota f_call_quota)
    (d_call_leave : DefAt K "call_leave" s_call_leave f_call_leave)
    (d_call_ahead : DefAt K "call_ahead" s_call_ahead f_call_ahead)
    (d_call_why : DefAt K "call_why" s_call_why f_call_why)
    (d_call_lacking : DefAt K "call_lacking" s_call_lacking f_call_lacking)
    (d_call_far : DefAt K "call_far" s_call_far f_call_far)
    (d_Reader_take_list : MethAt K C_Reader "take_list" "Reader.take_list" s_Reader_take_list f_Reader_take_list)
    (d_about_newcomer : DefAt K "about_newcomer" s_about_newcomer f_about_newcomer)
    (d_call_apply : DefAt K "call_apply" s_call_apply f_call_apply)
    (d_call_can : DefAt K "call_can" s_call_can f_call_can)
    (d_call_room : DefAt K "call_room" s_call_room f_call_room)
    (d_call_check : DefAt K "call_check" s_call_check f_call_check)
    (d_call_would : DefAt K "call_would" s_call_would f_call_would)
    (d_answer_next : DefAt K "answer_next" s_answer_next f_answer_next)
    (d_answers : DefAt K "answers" s_answers f_answers)
    (t_CALLS : TabAt K "CALLS" a_CALLS [f_call_house, f_call_places, f_call_quota, f_call_apply, f_call_leave, f_call_ahead, f_call_row, f_call_served, f_call_days, f_call_why, f_call_can, f_call_room, f_call_check, f_call_would, f_call_lacking, f_call_far, f_call_loads, f_call_told])
    (n_CALLS : ([f_call_house, f_call_places, f_call_quota, f_call_apply, f_call_leave, f_call_ahead, f_call_row, f_call_served, f_call_days, f_call_why, f_call_can, f_call_room, f_call_check, f_call_would, f_call_lacking, f_call_far, f_call_loads, f_call_told] : List Addr).Nodup) :
    ∃ fd : FuncData, (∀ (s : Shared) (us : List Value), us.length = (["calls"] : List Str).length → BindsTo s fd ⟨us, []⟩ ((["calls"] : List Str).zip us)) ∧ ∀ base : Heap, K.In base → base.Ns mainGlobals mg → FnOk P w K mg base CX0 14 fa fd ["calls"] (spAns K) := by
  have T := txt_mk X G k_Giving k_House k_Reader tx
  have e := hfa.symm.trans (PySem.W.mg_of X G d_answers.ns)
  cases e
  obtain ⟨oc, od, kV, dc, pm, an, cd, ct, sl, la, ca⟩ := d_answers.fn.ex
  have FA := fun_mk (st := s_answers) la ca d_answers.fn.kp
  refine ⟨PySem.W.fnOf "answers" "answers" (defArgs s_answers) (defBody s_answers) (defScope s_answers) .none kV dc pm an cd ct, fun s us hu => match us, hu with | [_], _ => .of_eq rfl, fun base _ _ => ?_⟩
  have A_kinds_on_day := call_mk (P := P) (w := w) (base := base) (k := 1) (ps := ["house", "applicants", "day"]) (sp := spKinds K C_House) X G d_kinds_on_day (fun fd F => F.binds fun _ _ _ _ _ _ us hl => match us, hl with | [_, _, _], _ => rfl) (fun fd F => ok_kinds_on_day F T (sp := spKinds K C_House) (fun vs H Q E h => by (repeat obtain ⟨_, h⟩ := h); subst_vars; rfl) (pure_kinds T))
  have A_room_by_day := call_mk (P := P) (w := w) (base := base) (k := 2) (ps := ["house", "applicants"]) (sp := spRooms K C_House) X G d_room_by_day (fun fd F => F.binds fun _ _ _ _ _ _ us hl => match us, hl with | [_, _], _ => rfl) (fun fd F => ok_room_by_day F T A_kinds_on_day (sp := spRooms K C_House) (fun vs H Q E h => by (repeat obtain ⟨_, h⟩ := h); subst_vars; rfl) (pure_rooms T))
  have A_is_crowd := call_mk (P := P) (w := w) (base := base) (k := 3) (ps := ["house", "applicants"]) (sp := spIsCrowd K C_House) X G d_is_crowd (fun fd F => F.binds fun _ _ _ _ _ _ us hl => match us, hl with | [_, _], _ => rfl) (fun fd F => ok_is_crowd F T A_room_by_day (sp := spIsCrowd K C_House) (fun vs H Q E h => by (repeat obtain ⟨_, h⟩ := h); subst_vars; rfl) (pure_is_crowd T))
  have A_with_one_more := call_mk (P := P) (w := w) (base := base) (k := 1) (ps := ["parts", "applicants"]) (sp := spMore K) X G d_with_one_more (fun fd F => F.binds fun _ _ _ _ _ _ us hl => match us, hl with | [_, _], _ => rfl) (fun fd F => ok_with_one_more F T (sp := spMore K) (fun vs H Q E h => by (repeat obtain ⟨_, h⟩ := h); subst_vars; rfl) (pure_more))
  have A_told_crowd := call_mk (P := P) (w := w) (base := base) (k := 4) (ps := ["house", "applicants"]) (sp := spCrowd K C_House) X G d_told_crowd (fun fd F => F.binds fun _ _ _ _ _ _ us hl => match us, hl with | [_, _], _ => rfl) (fun fd F => ok_told_crowd F T A_is_crowd A_with_one_more (sp := spCrowd K C_House) (fun vs H Q E h => by (repeat obtain ⟨_, h⟩ := h); subst_vars; rfl) (pure_crowd T))
  have A_is_within := call_mk (P := P) (w := w) (base := base) (k := 1) (ps := ["number", "least", "greatest"]) (sp := spWithin) X G d_is_within (fun fd F => F.binds fun _ _ _ _ _ _ us hl => match us, hl with | [_, _, _], _ => rfl) (fun fd F => ok_is_within F T (sp := spWithin) (fun vs H Q E h => by (repeat obtain ⟨_, h⟩ := h); subst_vars; rfl) (pure_within))
  have A_is_day := call_mk (P := P) (w := w) (base := base) (k := 2) (ps := ["number"]) (sp := spIn 0 7) X G d_is_day (fun fd F => F.binds fun _ _ _ _ _ _ us hl => match us, hl with | [_], _ => rfl) (fun fd F => ok_is_day F T A_is_within (sp := spIn 0 7) (fun vs H Q E h => by (repeat obtain ⟨_, h⟩ := h); subst_vars; rfl) (pure_day))
  have A_is_kind := call_mk (P := P) (w := w) (base := base) (k := 2) (ps := ["number"]) (sp := spIn 0 3) X G d_is_kind (fun fd F => F.binds fun _ _ _ _ _ _ us hl => match us, hl with | [_], _ => rfl) (fun fd F => ok_is_kind F T A_is_within (sp := spIn 0 3) (fun vs H Q E h => by (repeat obtain ⟨_, h⟩ := h); subst_vars; rfl) (pure_kind))
  have A_is_applicant := call_mk (P := P) (w := w) (base := base) (k := 2) (ps := ["number"]) (sp := spIn 0 19) X G d_is_applicant (fun fd F => F.binds fun _ _ _ _ _ _ us hl => match us, hl with | [_], _ => rfl) (fun fd F => ok_is_applicant F T A_is_within (sp := spIn 0 19) (fun vs H Q E h => by (repeat obtain ⟨_, h⟩ := h); subst_vars; rfl) (pure_applicant))
  have A_is_rising := call_mk (P := P) (w := w) (base := base) (k := 1) (ps := ["numbers"]) (sp := spRising K) X G d_is_rising (fun fd F => F.binds fun _ _ _ _ _ _ us hl => match us, hl with | [_], _ => rfl) (fun fd F => ok_is_rising F T (sp := spRising K) (fun vs H Q E h => by (repeat obtain ⟨_, h⟩ := h); subst_vars; rfl) (pure_rising))
  have A_Giving_init := meth_mk (P := P) (w := w) (mg := mg) (base := base) (k := 1) (ps := ["self", "house", "wishes"]) (sp := spGInit C_Giving) d_Giving_init (fun fd F => F.binds fun _ _ _ _ _ _ us hl => match us, hl with | [_, _, _], _ => rfl) (fun fd F => ok_Giving_init F T (sp := spGInit C_Giving) (fun vs H Q E h => by (repeat obtain ⟨_, h⟩ := h); subst_vars; rfl) (pure_ginit T))
  have A_make_Giving := make_mk (P := P) (w := w) (base := base) (k := 1) (ps := ["self", "house", "wishes"]) (sp := spGInit C_Giving) X G k_Giving d_Giving_init (fun fd F => F.binds fun _ _ _ _ _ _ us hl => match us, hl with | [_, _, _], _ => rfl) (fun fd F => ok_Giving_init F T (sp := spGInit C_Giving) (fun vs H Q E h => by (repeat obtain ⟨_, h⟩ := h); subst_vars; rfl) (pure_ginit T))
  have A_Giving_on_day := meth_mk (P := P) (w := w) (mg := mg) (base := base) (k := 1) (ps := ["self", "day"]) (sp := spOnDay C_Giving) d_Giving_on_day (fun fd F => F.binds fun _ _ _ _ _ _ us hl => match us, hl with | [_, _], _ => rfl) (fun fd F => ok_Giving_on_day F T (sp := spOnDay C_Giving) (fun vs H Q E h => by (repeat obtain ⟨_, h⟩ := h); subst_vars; rfl) (pure_on_day T))
  have A_Giving_alike_on_day := meth_mk (P := P) (w := w) (mg := mg) (base := base) (k := 2) (ps := ["self", "applicant", "day"]) (sp := spAlike C_Giving C_House) d_Giving_alike_on_day (fun fd F => F.binds fun _ _ _ _ _ _ us hl => match us, hl with | [_, _, _], _ => rfl) (fun fd F => ok_Giving_alike_on_day F T A_Giving_on_day (sp := spAlike C_Giving C_House) (fun vs H Q E h => by (repeat obtain ⟨_, h⟩ := h); subst_vars; rfl) (pure_alike T))
  have A_Giving_kind_has_room := meth_mk (P := P) (w := w) (mg := mg) (base := base) (k := 3) (ps := ["self", "applicant", "day"]) (sp := spKhr C_Giving C_House) d_Giving_kind_has_room (fun fd F => F.binds fun _ _ _ _ _ _ us hl => match us, hl with | [_, _, _], _ => rfl) (fun fd F => ok_Giving_kind_has_room F T A_Giving_alike_on_day (sp := spKhr C_Giving C_House) (fun vs H Q E h => by (repeat obtain ⟨_, h⟩ := h); subst_vars; rfl) (pure_khr T))
  have A_Giving_has_room := meth_mk (P := P) (w := w) (mg := mg) (base := base) (k := 4) (ps := ["self", "applicant", "day"]) (sp := spHasRoom C_Giving C_House) d_Giving_has_room (fun fd F => F.binds fun _ _ _ _ _ _ us hl => match us, hl with | [_, _, _], _ => rfl) (fun fd F => ok_Giving_has_room F T A_Giving_on_day A_Giving_kind_has_room (sp := spHasRoom C_Giving C_House) (fun vs H Q E h => by (repeat obtain ⟨_, h⟩ := h); subst_vars; rfl) (pure_has_room T))
  have A_Giving_in_the_way := meth_mk (P := P) (w := w) (mg := mg) (base := base) (k := 4) (ps := ["self", "applicant", "day"]) (sp := spWay C_Giving C_House) d_Giving_in_the_way (fun fd F => F.binds fun _ _ _ _ _ _ us hl => match us, hl with | [_, _, _], _ => rfl) (fun fd F => ok_Giving_in_the_way F T A_Giving_kind_has_room A_Giving_on_day A_Giving_alike_on_day (sp := spWay C_Giving C_House) (fun vs H Q E h => by (repeat obtain ⟨_, h⟩ := h); subst_vars; rfl) (pure_way T))
  have A_Giving_move_chain := meth_mk (P := P) (w := w) (mg := mg) (base := base) (k := 1) (ps := ["self", "mover", "day", "asked_by"]) (sp := spMove C_Giving) d_Giving_move_chain (fun fd F => F.binds fun _ _ _ _ _ _ us hl => match us, hl with | [_, _, _, _], _ => rfl) (fun fd F => ok_Giving_move_chain F T (sp := spMove C_Giving) (fun vs H Q E h => by (repeat obtain ⟨_, h⟩ := h); subst_vars; rfl) (pure_move T))
  have A_Giving_take_in := meth_mk (P := P) (w := w) (mg := mg) (base := base) (k := 5) (ps := ["self", "applicant"]) (sp := spTake C_Giving C_House) d_Giving_take_in (fun fd F => F.binds fun _ _ _ _ _ _ us hl => match us, hl with | [_, _], _ => rfl) (fun fd F => ok_Giving_take_in F T A_Giving_has_room A_Giving_move_chain A_Giving_in_the_way (sp := spTake C_Giving C_House) (fun vs H Q E h => by (repeat obtain ⟨_, h⟩ := h); subst_vars; rfl) (pure_take T))
  have A_wishes_of := call_mk (P := P) (w := w) (base := base) (k := 1) (ps := ["house", "applicants"]) (sp := spWishes K C_House) X G d_wishes_of (fun fd F => F.binds fun _ _ _ _ _ _ us hl => match us, hl with | [_, _], _ => rfl) (fun fd F => ok_wishes_of F T (sp := spWishes K C_House) (fun vs H Q E h => by (repeat obtain ⟨_, h⟩ := h); subst_vars; rfl) (pure_wishes T))
  have A_can_be_served := call_mk (P := P) (w := w) (base := base) (k := 6) (ps := ["house", "wishes"]) (sp := spCan C_House) X G d_can_be_served (fun fd F => F.binds fun _ _ _ _ _ _ us hl => match us, hl with | [_, _], _ => rfl) (fun fd F => ok_can_be_served F T A_make_Giving A_Giving_take_in (sp := spCan C_House) (fun vs H Q E h => by (repeat obtain ⟨_, h⟩ := h); subst_vars; rfl) (pure_can T))
  have A_served := call_mk (P := P) (w := w) (base := base) (k := 6) (ps := ["house"]) (sp := spServed C_House) X G d_served (fun fd F => F.binds fun _ _ _ _ _ _ us hl => match us, hl with | [_], _ => rfl) (fun fd F => ok_served F T A_make_Giving A_wishes_of A_Giving_take_in (sp := spServed C_House) (fun vs H Q E h => by (repeat obtain ⟨_, h⟩ := h); subst_vars; rfl) (pure_served T))
  have A_least_day := call_mk (P := P) (w := w) (base := base) (k := 7) (ps := ["house", "wishes", "applicant"]) (sp := spLeast C_House) X G d_least_day (fun fd F => F.binds fun _ _ _ _ _ _ us hl => match us, hl with | [_, _, _], _ => rfl) (fun fd F => ok_least_day F T A_can_be_served (sp := spLeast C_House) (fun vs H Q E h => by (repeat obtain ⟨_, h⟩ := h); subst_vars; rfl) (pure_least T))
  have A_told_giving := call_mk (P := P) (w := w) (base := base) (k := 8) (ps := ["house", "applicants"]) (sp := spTold K C_House) X G d_told_giving (fun fd F => F.binds fun _ _ _ _ _ _ us hl => match us, hl with | [_, _], _ => rfl) (fun fd F => ok_told_giving F T A_wishes_of A_least_day (sp := spTold K C_House) (fun vs H Q E h => by (repeat obtain ⟨_, h⟩ := h); subst_vars; rfl) (pure_told T))
  have A_loads_of := call_mk (P := P) (w := w) (base := base) (k := 1) (ps := ["house", "day_of"]) (sp := spLoads C_House) X G d_loads_of (fun fd F => F.binds fun _ _ _ _ _ _ us hl => match us, hl with | [_, _], _ => rfl) (fun fd F => ok_loads_of F T (sp := spLoads C_House) (fun vs H Q E h => by (repeat obtain ⟨_, h⟩ := h); subst_vars; rfl) (pure_loads T))
  have A_with_count := call_mk (P := P) (w := w) (base := base) (k := 1) (ps := ["numbers"]) (sp := spCount) X G d_with_count (fun fd F => F.binds fun _ _ _ _ _ _ us hl => match us, hl with | [_], _ => rfl) (fun fd F => ok_with_count F T (sp := spCount) (fun vs H Q E h => by (repeat obtain ⟨_, h⟩ := h); subst_vars; rfl) (pure_count))
  have A_are_days_to_come := call_mk (P := P) (w := w) (base := base) (k := 2) (ps := ["house", "days"]) (sp := spDays K C_House) X G d_are_days_to_come (fun fd F => F.binds fun _ _ _ _ _ _ us hl => match us, hl with | [_, _], _ => rfl) (fun fd F => ok_are_days_to_come F T A_is_rising (sp := spDays K C_House) (fun vs H Q E h => by (repeat obtain ⟨_, h⟩ := h); subst_vars; rfl) (pure_days T))
  have A_are_in_row := call_mk (P := P) (w := w) (base := base) (k := 2) (ps := ["house", "applicants"]) (sp := spInRow K C_House) X G d_are_in_row (fun fd F => F.binds fun _ _ _ _ _ _ us hl => match us, hl with | [_, _], _ => rfl) (fun fd F => ok_are_in_row F T A_is_rising (sp := spInRow K C_House) (fun vs H Q E h => by (repeat obtain ⟨_, h⟩ := h); subst_vars; rfl) (pure_in_row T))
  have A_are_days_or_none := call_mk (P := P) (w := w) (base := base) (k := 3) (ps := ["house", "days"]) (sp := spOrNone K C_House) X G d_are_days_or_none (fun fd F => F.binds fun _ _ _ _ _ _ us hl => match us, hl with | [_, _], _ => rfl) (fun fd F => ok_are_days_or_none F T A_is_day (sp := spOrNone K C_House) (fun vs H Q E h => by (repeat obtain ⟨_, h⟩ := h); subst_vars; rfl) (pure_or_none T))
  have H_leave := held_mk (P := P) (w := w) (mg := mg) (base := base) (k := 1) (k2 := 9) (ps := ["house", "applicant"]) (sp := spAbt C_House fLeave) d_leave (fun fd F => F.binds fun _ _ _ _ _ _ us hl => match us, hl with | [_, _], _ => rfl) (fun fd F => ok_leave F T (sp := spAbt C_House fLeave) (fun vs H Q E h => by (repeat obtain ⟨_, h⟩ := h); subst_vars; rfl) (pure_leave T)) (by decide)
  have H_call_row := held_mk (P := P) (w := w) (mg := mg) (base := base) (k := 2) (k2 := 12) (ps := ["house", "reader"]) (sp := spCallP K C_House C_Reader 6) d_call_row (fun fd F => F.binds fun _ _ _ _ _ _ us hl => match us, hl with | [_, _], _ => rfl) (fun fd F => ok_call_row F T A_with_count (sp := spCallP K C_House C_Reader 6) (fun vs H Q E h => by (repeat obtain ⟨_, h⟩ := h); subst_vars; rfl) (pure_call_row T)) (by decide)
  have H_call_served := held_mk (P := P) (w := w) (mg := mg) (base := base) (k := 7) (k2 := 12) (ps := ["house", "reader"]) (sp := spCallP K C_House C_Reader 7) d_call_served (fun fd F => F.binds fun _ _ _ _ _ _ us hl => match us, hl with | [_, _], _ => rfl) (fun fd F => ok_call_served F T A_with_count A_served (sp := spCallP K C_House C_Reader 7) (fun vs H Q E h => by (repeat obtain ⟨_, h⟩ := h); subst_vars; rfl) (pure_call_served T)) (by decide)
  have H_call_days := held_mk (P := P) (w := w) (mg := mg) (base := base) (k := 9) (k2 := 12) (ps := ["house", "reader"]) (sp := spCallP K C_House C_Reader 8) d_call_days (fun fd F => F.binds fun _ _ _ _ _ _ us hl => match us, hl with | [_, _], _ => rfl) (fun fd F => ok_call_days F T A_served A_told_giving (sp := spCallP K C_House C_Reader 8) (fun vs H Q E h => by (repeat obtain ⟨_, h⟩ := h); subst_vars; rfl) (pure_call_days T)) (by decide)
  have H_why := held_mk (P := P) (w := w) (mg := mg) (base := base) (k := 7) (k2 := 9) (ps := ["house", "applicant"]) (sp := spAbt C_House fWhy) d_why (fun fd F => F.binds fun _ _ _ _ _ _ us hl => match us, hl with | [_, _], _ => rfl) (fun fd F => ok_why F T A_served A_with_count A_told_crowd (sp := spAbt C_House fWhy) (fun vs H Q E h => by (repeat obtain ⟨_, h⟩ := h); subst_vars; rfl) (pure_why T)) (by decide)
  have H_call_loads := held_mk (P := P) (w := w) (mg := mg) (base := base) (k := 9) (k2 := 12) (ps := ["house", "reader"]) (sp := spCallP K C_House C_Reader 16) d_call_loads (fun fd F => F.binds fun _ _ _ _ _ _ us hl => match us, hl with | [_, _], _ => rfl) (fun fd F => ok_call_loads F T A_loads_of A_told_giving A_served (sp := spCallP K C_House C_Reader 16) (fun vs H Q E h => by (repeat obtain ⟨_, h⟩ := h); subst_vars; rfl) (pure_call_loads T)) (by decide)
  have A_House_renew := meth_mk (P := P) (w := w) (mg := mg) (base := base) (k := 1) (ps := ["self", "day_count"]) (sp := spRenew C_House) d_House_renew (fun fd F => F.binds fun _ _ _ _ _ _ us hl => match us, hl with | [_, _], _ => rfl) (fun fd F => ok_House_renew F T (sp := spRenew C_House) (fun vs H Q E h => by (repeat obtain ⟨_, h⟩ := h); subst_vars; rfl) (pure_renew T))
  have A_House_init := meth_mk (P := P) (w := w) (mg := mg) (base := base) (k := 2) (ps := ["self"]) (sp := spHInit C_House) d_House_init (fun fd F => F.binds fun _ _ _ _ _ _ us hl => match us, hl with | [_], _ => rfl) (fun fd F => ok_House_init F T A_House_renew (sp := spHInit C_House) (fun vs H Q E h => by (repeat obtain ⟨_, h⟩ := h); subst_vars; rfl) (pure_hinit T))
  have A_make_House := make_mk (P := P) (w := w) (base := base) (k := 2) (ps := ["self"]) (sp := spHInit C_House) X G k_House d_House_init (fun fd F => F.binds fun _ _ _ _ _ _ us hl => match us, hl with | [_], _ => rfl) (fun fd F => ok_House_init F T A_House_renew (sp := spHInit C_House) (fun vs H Q E h => by (repeat obtain ⟨_, h⟩ := h); subst_vars; rfl) (pure_hinit T))
  have A_House_twin := meth_mk (P := P) (w := w) (mg := mg) (base := base) (k := 4) (ps := ["self"]) (sp := spTwin C_House) d_House_twin (fun fd F => F.binds fun _ _ _ _ _ _ us hl => match us, hl with | [_], _ => rfl) (fun fd F => ok_House_twin F T A_make_House (sp := spTwin C_House) (fun vs H Q E h => by (repeat obtain ⟨_, h⟩ := h); subst_vars; rfl) (pure_twin T))
  have A_would_place_do := call_mk (P := P) (w := w) (base := base) (k := 7) (ps := ["house", "applicant", "day"]) (sp := spPlaceDo C_House) X G d_would_place_do (fun fd F => F.binds fun _ _ _ _ _ _ us hl => match us, hl with | [_, _, _], _ => rfl) (fun fd F => ok_would_place_do F T A_House_twin A_served (sp := spPlaceDo C_House) (fun vs H Q E h => by (repeat obtain ⟨_, h⟩ := h); subst_vars; rfl) (pure_place_do T))
  have A_would_quota_do := call_mk (P := P) (w := w) (base := base) (k := 7) (ps := ["house", "applicant", "day", "kind"]) (sp := spQuotaDo C_House) X G d_would_quota_do (fun fd F => F.binds fun _ _ _ _ _ _ us hl => match us, hl with | [_, _, _, _], _ => rfl) (fun fd F => ok_would_quota_do F T A_House_twin A_served (sp := spQuotaDo C_House) (fun vs H Q E h => by (repeat obtain ⟨_, h⟩ := h); subst_vars; rfl) (pure_quota_do T))
  have A_what_is_lacking := call_mk (P := P) (w := w) (base := base) (k := 8) (ps := ["house", "applicant"]) (sp := spLackP C_House) X G d_what_is_lacking (fun fd F => F.binds fun _ _ _ _ _ _ us hl => match us, hl with | [_, _], _ => rfl) (fun fd F => ok_what_is_lacking F T A_would_place_do A_would_quota_do (sp := spLackP C_House) (fun vs H Q E h => by (repeat obtain ⟨_, h⟩ := h); subst_vars; rfl) (pure_lackP T))
  have A_farthest_place := call_mk (P := P) (w := w) (base := base) (k := 7) (ps := ["house", "applicant"]) (sp := spFarP C_House) X G d_farthest_place (fun fd F => F.binds fun _ _ _ _ _ _ us hl => match us, hl with | [_, _], _ => rfl) (fun fd F => ok_farthest_place F T A_House_twin A_served (sp := spFarP C_House) (fun vs H Q E h => by (repeat obtain ⟨_, h⟩ := h); subst_vars; rfl) (pure_farP T))
  have H_lacking := held_mk (P := P) (w := w) (mg := mg) (base := base) (k := 9) (k2 := 9) (ps := ["house", "applicant"]) (sp := spAbt C_House fLacking) d_lacking (fun fd F => F.binds fun _ _ _ _ _ _ us hl => match us, hl with | [_, _], _ => rfl) (fun fd F => ok_lacking F T A_served A_what_is_lacking (sp := spAbt C_House fLacking) (fun vs H Q E h => by (repeat obtain ⟨_, h⟩ := h); subst_vars; rfl) (pure_lacking T)) (by decide)
  have H_far := held_mk (P := P) (w := w) (mg := mg) (base := base) (k := 8) (k2 := 9) (ps := ["house", "applicant"]) (sp := spAbt C_House fFar) d_far (fun fd F => F.binds fun _ _ _ _ _ _ us hl => match us, hl with | [_, _], _ => rfl) (fun fd F => ok_far F T A_farthest_place (sp := spAbt C_House fFar) (fun vs H Q E h => by (repeat obtain ⟨_, h⟩ := h); subst_vars; rfl) (pure_far T)) (by decide)
  have A_House_limits_of := meth_mk (P := P) (w := w) (mg := mg) (base := base) (k := 1) (ps := ["self", "day"]) (sp := spLimits C_House) d_House_limits_of (fun fd F => F.binds fun _ _ _ _ _ _ us hl => match us, hl with | [_, _], _ => rfl) (fun fd F => ok_House_limits_of F T (sp := spLimits C_House) (fun vs H Q E h => by (repeat obtain ⟨_, h⟩ := h); subst_vars; rfl) (pure_limits T))
  have A_is_giving := call_mk (P := P) (w := w) (base := base) (k := 2) (ps := ["house", "day_of"]) (sp := spIsGiv C_House) X G d_is_giving (fun fd F => F.binds fun _ _ _ _ _ _ us hl => match us, hl with | [_, _], _ => rfl) (fun fd F => ok_is_giving F T A_loads_of A_House_limits_of (sp := spIsGiv C_House) (fun vs H Q E h => by (repeat obtain ⟨_, h⟩ := h); subst_vars; rfl) (pure_is_giving T))
  have H_call_told := held_mk (P := P) (w := w) (mg := mg) (base := base) (k := 2) (k2 := 12) (ps := ["house", "reader"]) (sp := spCallP K C_House C_Reader 17) d_call_told (fun fd F => F.binds fun _ _ _ _ _ _ us hl => match us, hl with | [_, _], _ => rfl) (fun fd F => ok_call_told F T A_House_limits_of A_with_count (sp := spCallP K C_House C_Reader 17) (fun vs H Q E h => by (repeat obtain ⟨_, h⟩ := h); subst_vars; rfl) (pure_call_told T)) (by decide)
  have A_House_applied := meth_mk (P := P) (w := w) (mg := mg) (base := base) (k := 1) (ps := ["self"]) (sp := spApplied C_House) d_House_applied (fun fd F => F.binds fun _ _ _ _ _ _ us hl => match us, hl with | [_], _ => rfl) (fun fd F => ok_House_applied F T (sp := spApplied C_House) (fun vs H Q E h => by (repeat obtain ⟨_, h⟩ := h); subst_vars; rfl) (pure_applied T))
  have A_House_admit := meth_mk (P := P) (w := w) (mg := mg) (base := base) (k := 2) (ps := ["self", "kind", "days"]) (sp := spAdmit C_House) d_House_admit (fun fd F => F.binds fun _ _ _ _ _ _ us hl => match us, hl with | [_, _, _], _ => rfl) (fun fd F => ok_House_admit F T A_House_applied (sp := spAdmit C_House) (fun vs H Q E h => by (repeat obtain ⟨_, h⟩ := h); subst_vars; rfl) (pure_admit T))
  have A_day_if_applied := call_mk (P := P) (w := w) (base := base) (k := 9) (ps := ["house", "kind", "days"]) (sp := spDayIf C_House) X G d_day_if_applied (fun fd F => F.binds fun _ _ _ _ _ _ us hl => match us, hl with | [_, _, _], _ => rfl) (fun fd F => ok_day_if_applied F T A_House_twin A_House_admit A_told_giving A_served (sp := spDayIf C_House) (fun vs H Q E h => by (repeat obtain ⟨_, h⟩ := h); subst_vars; rfl) (pure_day_if T))
  have H_apply := held_mk (P := P) (w := w) (mg := mg) (base := base) (k := 3) (k2 := 10) (ps := ["house", "kind", "days"]) (sp := spNew C_House fApply) d_apply (fun fd F => F.binds fun _ _ _ _ _ _ us hl => match us, hl with | [_, _, _], _ => rfl) (fun fd F => ok_apply F T A_House_admit (sp := spNew C_House fApply) (fun vs H Q E h => by (repeat obtain ⟨_, h⟩ := h); subst_vars; rfl) (pure_apply T)) (by decide)
  have H_would := held_mk (P := P) (w := w) (mg := mg) (base := base) (k := 10) (k2 := 10) (ps := ["house", "kind", "days"]) (sp := spNew C_House fWould) d_would (fun fd F => F.binds fun _ _ _ _ _ _ us hl => match us, hl with | [_, _, _], _ => rfl) (fun fd F => ok_would F T A_day_if_applied (sp := spNew C_House fWould) (fun vs H Q E h => by (repeat obtain ⟨_, h⟩ := h); subst_vars; rfl) (pure_would T)) (by decide)
  have A_House_put_ahead := meth_mk (P := P) (w := w) (mg := mg) (base := base) (k := 1) (ps := ["self", "applicant", "other"]) (sp := spAhead C_House) d_House_put_ahead (fun fd F => F.binds fun _ _ _ _ _ _ us hl => match us, hl with | [_, _, _], _ => rfl) (fun fd F => ok_House_put_ahead F T (sp := spAhead C_House) (fun vs H Q E h => by (repeat obtain ⟨_, h⟩ := h); subst_vars; rfl) (pure_ahead T))
  have A_Reader_init := meth_mk (P := P) (w := w) (mg := mg) (base := base) (k := 1) (ps := ["self", "numbers"]) (sp := spRInit C_Reader) d_Reader_init (fun fd F => F.binds fun _ _ _ _ _ _ us hl => match us, hl with | [_, _], _ => rfl) (fun fd F => ok_Reader_init F T (sp := spRInit C_Reader) (fun vs H Q E h => by (repeat obtain ⟨_, h⟩ := h); subst_vars; rfl) (pure_rinit T))
  have A_make_Reader := make_mk (P := P) (w := w) (base := base) (k := 1) (ps := ["self", "numbers"]) (sp := spRInit C_Reader) X G k_Reader d_Reader_init (fun fd F => F.binds fun _ _ _ _ _ _ us hl => match us, hl with | [_, _], _ => rfl) (fun fd F => ok_Reader_init F T (sp := spRInit C_Reader) (fun vs H Q E h => by (repeat obtain ⟨_, h⟩ := h); subst_vars; rfl) (pure_rinit T))
  have A_Reader_is_at_end := meth_mk (P := P) (w := w) (mg := mg) (base := base) (k := 1) (ps := ["self"]) (sp := spAtEnd K C_Reader) d_Reader_is_at_end (fun fd F => F.binds fun _ _ _ _ _ _ us hl => match us, hl with | [_], _ => rfl) (fun fd F => ok_Reader_is_at_end F T (sp := spAtEnd K C_Reader) (fun vs H Q E h => by (repeat obtain ⟨_, h⟩ := h); subst_vars; rfl) (pure_atend T))
  have A_Reader_take_number := meth_mk (P := P) (w := w) (mg := mg) (base := base) (k := 1) (ps := ["self"]) (sp := spNum K C_Reader) d_Reader_take_number (fun fd F => F.binds fun _ _ _ _ _ _ us hl => match us, hl with | [_], _ => rfl) (fun fd F => ok_Reader_take_number F T (sp := spNum K C_Reader) (fun vs H Q E h => by (repeat obtain ⟨_, h⟩ := h); subst_vars; rfl) (pure_num T))
  have hA_leave : ∀ f sp, (oneS f_leave (spAbt C_House fLeave)) f = some sp → Held P w K mg base 9 f sp := fun f sp hs => one_held hs H_leave
  have A_about_applicant__leave := call_mk (P := P) (w := w) (base := base) (k := 10) (ps := ["house", "reader", "answer_about"]) (sp := spAbout K C_House C_Reader f_leave 4) X G d_about_applicant (fun fd F => F.binds fun _ _ _ _ _ _ us hl => match us, hl with | [_, _, _], _ => rfl) (fun fd F => ok_about_applicant F T A_Reader_take_number A_is_applicant hA_leave (sp := spAbout K C_House C_Reader f_leave 4) (fun vs H Q E h => by (repeat obtain ⟨_, h⟩ := h); subst_vars; rfl) (pure_about T (p := 4) (F := fLeave) rfl (fun _ _ => rfl)))
  have hA_why : ∀ f sp, (oneS f_why (spAbt C_House fWhy)) f = some sp → Held P w K mg base 9 f sp := fun f sp hs => one_held hs H_why
  have A_about_applicant__why := call_mk (P := P) (w := w) (base := base) (k := 10) (ps := ["house", "reader", "answer_about"]) (sp := spAbout K C_House C_Reader f_why 9) X G d_about_applicant (fun fd F => F.binds fun _ _ _ _ _ _ us hl => match us, hl with | [_, _, _], _ => rfl) (fun fd F => ok_about_applicant F T A_Reader_take_number A_is_applicant hA_why (sp := spAbout K C_House C_Reader f_why 9) (fun vs H Q E h => by (repeat obtain ⟨_, h⟩ := h); subst_vars; rfl) (pure_about T (p := 9) (F := fWhy) rfl (fun _ _ => rfl)))
  have hA_lacking : ∀ f sp, (oneS f_lacking (spAbt C_House fLacking)) f = some sp → Held P w K mg base 9 f sp := fun f sp hs => one_held hs H_lacking
  have A_about_applicant__lacking := call_mk (P := P) (w := w) (base := base) (k := 10) (ps := ["house", "reader", "answer_about"]) (sp := spAbout K C_House C_Reader f_lacking 14) X G d_about_applicant (fun fd F => F.binds fun _ _ _ _ _ _ us hl => match us, hl with | [_, _, _], _ => rfl) (fun fd F => ok_about_applicant F T A_Reader_take_number A_is_applicant hA_lacking (sp := spAbout K C_House C_Reader f_lacking 14) (fun vs H Q E h => by (repeat obtain ⟨_, h⟩ := h); subst_vars; rfl) (pure_about T (p := 14) (F := fLacking) rfl (fun _ _ => rfl)))
  have hA_far : ∀ f sp, (oneS f_far (spAbt C_House fFar)) f = some sp → Held P w K mg base 9 f sp := fun f sp hs => one_held hs H_far
  have A_about_applicant__far := call_mk (P := P) (w := w) (base := base) (k := 10) (ps := ["house", "reader", "answer_about"]) (sp := spAbout K C_House C_Reader f_far 15) X G d_about_applicant (fun fd F => F.binds fun _ _ _ _ _ _ us hl => match us, hl with | [_, _, _], _ => rfl) (fun fd F => ok_about_applicant F T A_Reader_take_number A_is_applicant hA_far (sp := spAbout K C_House C_Reader f_far 15) (fun vs H Q E h => by (repeat obtain ⟨_, h⟩ := h); subst_vars; rfl) (pure_about T (p := 15) (F := fFar) rfl (fun _ _ => rfl)))
  have H_call_house := held_mk (P := P) (w := w) (mg := mg) (base := base) (k := 2) (k2 := 12) (ps := ["house", "reader"]) (sp := spCallP K C_House C_Reader 0) d_call_house (fun fd F => F.binds fun _ _ _ _ _ _ us hl => match us, hl with | [_, _], _ => rfl) (fun fd F => ok_call_house F T A_Reader_take_number A_is_within A_House_renew (sp := spCallP K C_House C_Reader 0) (fun vs H Q E h => by (repeat obtain ⟨_, h⟩ := h); subst_vars; rfl) (pure_call_house T)) (by decide)
  have H_call_places := held_mk (P := P) (w := w) (mg := mg) (base := base) (k := 3) (k2 := 12) (ps := ["house", "reader"]) (sp := spCallP K C_House C_Reader 1) d_call_places (fun fd F => F.binds fun _ _ _ _ _ _ us hl => match us, hl with | [_, _], _ => rfl) (fun fd F => ok_call_places F T A_Reader_take_number A_is_within A_is_day (sp := spCallP K C_House C_Reader 1) (fun vs H Q E h => by (repeat obtain ⟨_, h⟩ := h); subst_vars; rfl) (pure_call_places T)) (by decide)
  have H_call_quota := held_mk (P := P) (w := w) (mg := mg) (base := base) (k := 3) (k2 := 12) (ps := ["house", "reader"]) (sp := spCallP K C_House C_Reader 2) d_call_quota (fun fd F => F.binds fun _ _ _ _ _ _ us hl => match us, hl with | [_, _], _ => rfl) (fun fd F => ok_call_quota F T A_Reader_take_number A_is_within A_is_day A_is_kind (sp := spCallP K C_House C_Reader 2) (fun vs H Q E h => by (repeat obtain ⟨_, h⟩ := h); subst_vars; rfl) (pure_call_quota T)) (by decide)
  have H_call_leave := held_mk (P := P) (w := w) (mg := mg) (base := base) (k := 11) (k2 := 12) (ps := ["house", "reader"]) (sp := spCallP K C_House C_Reader 4) d_call_leave (fun fd F => F.binds fun _ _ _ _ _ _ us hl => match us, hl with | [_, _], _ => rfl) (fun fd F => ok_call_leave F T A_about_applicant__leave (PySem.W.mg_of X G d_leave.ns) (sp := spCallP K C_House C_Reader 4) (fun vs H Q E h => by (repeat obtain ⟨_, h⟩ := h); subst_vars; rfl) (pure_call_leave T)) (by decide)
  have H_call_ahead := held_mk (P := P) (w := w) (mg := mg) (base := base) (k := 3) (k2 := 12) (ps := ["house", "reader"]) (sp := spCallP K C_House C_Reader 5) d_call_ahead (fun fd F => F.binds fun _ _ _ _ _ _ us hl => match us, hl with | [_, _], _ => rfl) (fun fd F => ok_call_ahead F T A_Reader_take_number A_is_applicant A_House_put_ahead (sp := spCallP K C_House C_Reader 5) (fun vs H Q E h => by (repeat obtain ⟨_, h⟩ := h); subst_vars; rfl) (pure_call_ahead T)) (by decide)
  have H_call_why := held_mk (P := P) (w := w) (mg := mg) (base := base) (k := 11) (k2 := 12) (ps := ["house", "reader"]) (sp := spCallP K C_House C_Reader 9) d_call_why (fun fd F => F.binds fun _ _ _ _ _ _ us hl => match us, hl with | [_, _], _ => rfl) (fun fd F => ok_call_why F T A_about_applicant__why (PySem.W.mg_of X G d_why.ns) (sp := spCallP K C_House C_Reader 9) (fun vs H Q E h => by (repeat obtain ⟨_, h⟩ := h); subst_vars; rfl) (pure_call_why T)) (by decide)
  have H_call_lacking := held_mk (P := P) (w := w) (mg := mg) (base := base) (k := 11) (k2 := 12) (ps := ["house", "reader"]) (sp := spCallP K C_House C_Reader 14) d_call_lacking (fun fd F => F.binds fun _ _ _ _ _ _ us hl => match us, hl with | [_, _], _ => rfl) (fun fd F => ok_call_lacking F T A_about_applicant__lacking (PySem.W.mg_of X G d_lacking.ns) (sp := spCallP K C_House C_Reader 14) (fun vs H Q E h => by (repeat obtain ⟨_, h⟩ := h); subst_vars; rfl) (pure_call_lacking T)) (by decide)
  have H_call_far := held_mk (P := P) (w := w) (mg := mg) (base := base) (k := 11) (k2 := 12) (ps := ["house", "reader"]) (sp := spCallP K C_House C_Reader 15) d_call_far (fun fd F => F.binds fun _ _ _ _ _ _ us hl => match us, hl with | [_, _], _ => rfl) (fun fd F => ok_call_far F T A_about_applicant__far (PySem.W.mg_of X G d_far.ns) (sp := spCallP K C_House C_Reader 15) (fun vs H Q E h => by (repeat obtain ⟨_, h⟩ := h); subst_vars; rfl) (pure_call_far T)) (by decide)
  have A_Reader_take_list := meth_mk (P := P) (w := w) (mg := mg) (base := base) (k := 2) (ps := ["self"]) (sp := spList K C_Reader) d_Reader_take_list (fun fd F => F.binds fun _ _ _ _ _ _ us hl => match us, hl with | [_], _ => rfl) (fun fd F => ok_Reader_take_list F T A_Reader_take_number (sp := spList K C_Reader) (fun vs H Q E h => by (repeat obtain ⟨_, h⟩ := h); subst_vars; rfl) (pure_list T))
  have hA_apply : ∀ f sp, (oneS f_apply (spNew C_House fApply)) f = some sp → Held P w K mg base 10 f sp := fun f sp hs => one_held hs H_apply
  have A_about_newcomer__apply := call_mk (P := P) (w := w) (base := base) (k := 11) (ps := ["house", "reader", "answer_about"]) (sp := spAbout K C_House C_Reader f_apply 3) X G d_about_newcomer (fun fd F => F.binds fun _ _ _ _ _ _ us hl => match us, hl with | [_, _, _], _ => rfl) (fun fd F => ok_about_newcomer F T A_Reader_take_number A_Reader_take_list A_is_kind A_are_days_to_come A_House_applied hA_apply (sp := spAbout K C_House C_Reader f_apply 3) (fun vs H Q E h => by (repeat obtain ⟨_, h⟩ := h); subst_vars; rfl) (pure_newcomer T (p := 3) (F := fApply) rfl (fun _ _ _ => rfl)))
  have hA_would : ∀ f sp, (oneS f_would (spNew C_House fWould)) f = some sp → Held P w K mg base 10 f sp := fun f sp hs => one_held hs H_would
  have A_about_newcomer__would := call_mk (P := P) (w := w) (base := base) (k := 11) (ps := ["house", "reader", "answer_about"]) (sp := spAbout K C_House C_Reader f_would 13) X G d_about_newcomer (fun fd F => F.binds fun _ _ _ _ _ _ us hl => match us, hl with | [_, _, _], _ => rfl) (fun fd F => ok_about_newcomer F T A_Reader_take_number A_Reader_take_list A_is_kind A_are_days_to_come A_House_applied hA_would (sp := spAbout K C_House C_Reader f_would 13) (fun vs H Q E h => by (repeat obtain ⟨_, h⟩ := h); subst_vars; rfl) (pure_newcomer T (p := 13) (F := fWould) rfl (fun _ _ _ => rfl)))
  have H_call_apply := held_mk (P := P) (w := w) (mg := mg) (base := base) (k := 12) (k2 := 12) (ps := ["house", "reader"]) (sp := spCallP K C_House C_Reader 3) d_call_apply (fun fd F => F.binds fun _ _ _ _ _ _ us hl => match us, hl with | [_, _], _ => rfl) (fun fd F => ok_call_apply F T A_about_newcomer__apply (PySem.W.mg_of X G d_apply.ns) (sp := spCallP K C_House C_Reader 3) (fun vs H Q E h => by (repeat obtain ⟨_, h⟩ := h); subst_vars; rfl) (pure_call_apply T)) (by decide)
  have H_call_can := held_mk (P := P) (w := w) (mg := mg) (base := base) (k := 9) (k2 := 12) (ps := ["house", "reader"]) (sp := spCallP K C_House C_Reader 10) d_call_can (fun fd F => F.binds fun _ _ _ _ _ _ us hl => match us, hl with | [_, _], _ => rfl) (fun fd F => ok_call_can F T A_Reader_take_list A_are_in_row A_can_be_served A_wishes_of A_with_count A_told_crowd A_told_giving (sp := spCallP K C_House C_Reader 10) (fun vs H Q E h => by (repeat obtain ⟨_, h⟩ := h); subst_vars; rfl) (pure_call_can T)) (by decide)
  have H_call_room := held_mk (P := P) (w := w) (mg := mg) (base := base) (k := 3) (k2 := 12) (ps := ["house", "reader"]) (sp := spCallP K C_House C_Reader 11) d_call_room (fun fd F => F.binds fun _ _ _ _ _ _ us hl => match us, hl with | [_, _], _ => rfl) (fun fd F => ok_call_room F T A_Reader_take_list A_are_in_row A_room_by_day (sp := spCallP K C_House C_Reader 11) (fun vs H Q E h => by (repeat obtain ⟨_, h⟩ := h); subst_vars; rfl) (pure_call_room T)) (by decide)
  have H_call_check := held_mk (P := P) (w := w) (mg := mg) (base := base) (k := 7) (k2 := 12) (ps := ["house", "reader"]) (sp := spCallP K C_House C_Reader 12) d_call_check (fun fd F => F.binds fun _ _ _ _ _ _ us hl => match us, hl with | [_, _], _ => rfl) (fun fd F => ok_call_check F T A_Reader_take_list A_are_days_or_none A_is_giving A_served (sp := spCallP K C_House C_Reader 12) (fun vs H Q E h => by (repeat obtain ⟨_, h⟩ := h); subst_vars; rfl) (pure_call_check T)) (by decide)
  have H_call_would := held_mk (P := P) (w := w) (mg := mg) (base := base) (k := 12) (k2 := 12) (ps := ["house", "reader"]) (sp := spCallP K C_House C_Reader 13) d_call_would (fun fd F => F.binds fun _ _ _ _ _ _ us hl => match us, hl with | [_, _], _ => rfl) (fun fd F => ok_call_would F T A_about_newcomer__would (PySem.W.mg_of X G d_would.ns) (sp := spCallP K C_House C_Reader 13) (fun vs H Q E h => by (repeat obtain ⟨_, h⟩ := h); subst_vars; rfl) (pure_call_would T)) (by decide)
  have hA : ∀ f sp, tabS K C_House C_Reader [f_call_house, f_call_places, f_call_quota, f_call_apply, f_call_leave, f_call_ahead, f_call_row, f_call_served, f_call_days, f_call_why, f_call_can, f_call_room, f_call_check, f_call_would, f_call_lacking, f_call_far, f_call_loads, f_call_told] f = some sp → Held P w K mg base 12 f sp := fun f sp hs => tab_held hs (fun i f hf => by
    match i, hf with
    | 0, hf => cases hf; exact H_call_house
    | 1, hf => cases hf; exact H_call_places
    | 2, hf => cases hf; exact H_call_quota
    | 3, hf => cases hf; exact H_call_apply
    | 4, hf => cases hf; exact H_call_leave
    | 5, hf => cases hf; exact H_call_ahead
    | 6, hf => cases hf; exact H_call_row
    | 7, hf => cases hf; exact H_call_served
    | 8, hf => cases hf; exact H_call_days
    | 9, hf => cases hf; exact H_call_why
    | 10, hf => cases hf; exact H_call_can
    | 11, hf => cases hf; exact H_call_room
    | 12, hf => cases hf; exact H_call_check
    | 13, hf => cases hf; exact H_call_would
    | 14, hf => cases hf; exact H_call_lacking
    | 15, hf => cases hf; exact H_call_far
    | 16, hf => cases hf; exact H_call_loads
    | 17, hf => cases hf; exact H_call_told
    | _ + 18, hf => exact absurd hf (by simp))
  have X_CALLS : TabOk K mg "CALLS" a_CALLS (tabD [f_call_house, f_call_places, f_call_quota, f_call_apply, f_call_leave, f_call_ahead, f_call_row, f_call_served, f_call_days, f_call_why, f_call_can, f_call_room, f_call_check, f_call_would, f_call_lacking, f_call_far, f_call_loads, f_call_told]) := tab_mk X G t_CALLS
  have A_answer_next := call_mk (P := P) (w := w) (base := base) (k := 13) (ps := ["house", "reader"]) (sp := spNext K C_House C_Reader) X G d_answer_next (fun fd F => F.binds fun _ _ _ _ _ _ us hl => match us, hl with | [_, _], _ => rfl) (fun fd F => ok_answer_next F T A_Reader_take_number hA X_CALLS (sp := spNext K C_House C_Reader) (fun vs H Q E h => by (repeat obtain ⟨_, h⟩ := h); subst_vars; rfl) (pure_next T n_CALLS (by rfl)))
  exact ok_answers FA T A_make_House A_make_Reader A_Reader_is_at_end A_answer_next (sp := spAns K) (fun vs H Q E h => by (repeat obtain ⟨_, h⟩ := h); subst_vars; rfl) (pure_answers T)
end
end Vp
open PySem PySem.W PyProof.Rows
set_option maxRecDepth 100000 in
set_option maxHeartbeats 8000000 in
theorem PySem.Challenge.cw_placesrow_s01_answers_holds : PySem.Challenge.rw_placesrow_s01_answers.Holds := by
  w_on; k_headS; (case hw => exact ⟨[.list [.int 6]], by decide +kernel, by decide +kernel⟩)
  k_fillS
  refine L2.walk_specK (r := PySem.Challenge.rw_placesrow_s01_answers) (k := 14) (CX := L2.CX0) (ps := ["calls"]) (sp := Vp.spAns) (by decide +kernel) rfl rfl ⟨rfl, by decide, by decide⟩ (fun w h Y => PySem.W.kIn_of Y) ?F ?S (fun _ _ _ _ z => z)
  case F =>
    intro w mg fa h Y KX G hmg
    refine' Vp.all_mk KX G hmg ?k_Giving ?k_House ?k_Reader ?tx ?d_kinds_on_day ?d_room_by_day ?d_is_crowd ?d_with_one_more ?d_told_crowd ?d_is_within ?d_is_day ?d_is_kind ?d_is_applicant ?d_is_rising ?d_Giving_init ?d_Giving_on_day ?d_Giving_alike_on_day ?d_Giving_kind_has_room ?d_Giving_has_room ?d_Giving_in_the_way ?d_Giving_move_chain ?d_Giving_take_in ?d_wishes_of ?d_can_be_served ?d_served ?d_least_day ?d_told_giving ?d_loads_of ?d_with_count ?d_are_days_to_come ?d_are_in_row ?d_are_days_or_none ?d_leave ?d_call_row ?d_call_served ?d_call_days ?d_why ?d_call_loads ?d_House_renew ?d_House_init ?d_House_twin ?d_would_place_do ?d_would_quota_do ?d_what_is_lacking ?d_farthest_place ?d_lacking ?d_far ?d_House_limits_of ?d_is_giving ?d_call_told ?d_House_applied ?d_House_admit ?d_day_if_applied ?d_apply ?d_would ?d_House_put_ahead ?d_Reader_init ?d_Reader_is_at_end ?d_Reader_take_number ?d_about_applicant ?d_call_house ?d_call_places ?d_call_quota ?d_call_leave ?d_call_ahead ?d_call_why ?d_call_lacking ?d_call_far ?d_Reader_take_list ?d_about_newcomer ?d_call_apply ?d_call_can ?d_call_room ?d_call_check ?d_call_would ?d_answer_next ?d_answers ?t_CALLS ?n_CALLS
    (case k_Giving => exact ⟨by k_is, by k_is, by k_is, by k_is, by k_is, by k_is, by k_is⟩)
    (case k_House => exact ⟨by k_is, by k_is, by k_is, by k_is, by k_is, by k_is, by k_is⟩)
    (case k_Reader => exact ⟨by k_is, by k_is, by k_is, by k_is, by k_is, by k_is, by k_is⟩)
    (case tx => exact ⟨by k_is, by k_is, by k_is, by k_is, by k_is, by k_is, by k_is, by k_is, by k_is, by k_is, by k_is, by k_is, by k_is, by k_is, by k_is, by k_is, by k_is, by k_is, by k_is, by k_is, by k_is, ⟨_, by k_is⟩, ⟨_, by k_is⟩, ⟨_, by k_is⟩, ⟨_, by k_is⟩, ⟨_, by k_is⟩, ⟨_, by k_is⟩, ⟨_, by k_is⟩, ⟨_, by k_is⟩, ⟨_, by k_is⟩, ⟨_, by k_is⟩, ⟨_, by k_is⟩, ⟨_, by k_is⟩, ⟨_, by k_is⟩, ⟨_, by k_is⟩⟩)
    (case d_kinds_on_day => exact ⟨by k_is, ⟨⟨_, _, _, _, _, _, _, _, _, by k_is, by k_is⟩, by k_is⟩⟩)
    (case d_room_by_day => exact ⟨by k_is, ⟨⟨_, _, _, _, _, _, _, _, _, by k_is, by k_is⟩, by k_is⟩⟩)
    (case d_is_crowd => exact ⟨by k_is, ⟨⟨_, _, _, _, _, _, _, _, _, by k_is, by k_is⟩, by k_is⟩⟩)
    (case d_with_one_more => exact ⟨by k_is, ⟨⟨_, _, _, _, _, _, _, _, _, by k_is, by k_is⟩, by k_is⟩⟩)
    (case d_told_crowd => exact ⟨by k_is, ⟨⟨_, _, _, _, _, _, _, _, _, by k_is, by k_is⟩, by k_is⟩⟩)
    (case d_is_within => exact ⟨by k_is, ⟨⟨_, _, _, _, _, _, _, _, _, by k_is, by k_is⟩, by k_is⟩⟩)
    (case d_is_day => exact ⟨by k_is, ⟨⟨_, _, _, _, _, _, _, _, _, by k_is, by k_is⟩, by k_is⟩⟩)
    (case d_is_kind => exact ⟨by k_is, ⟨⟨_, _, _, _, _, _, _, _, _, by k_is, by k_is⟩, by k_is⟩⟩)
    (case d_is_applicant => exact ⟨by k_is, ⟨⟨_, _, _, _, _, _, _, _, _, by k_is, by k_is⟩, by k_is⟩⟩)
    (case d_is_rising => exact ⟨by k_is, ⟨⟨_, _, _, _, _, _, _, _, _, by k_is, by k_is⟩, by k_is⟩⟩)
    (case d_Giving_init => exact ⟨by k_is, by k_is, ⟨⟨_, _, _, _, _, _, _, _, _, by k_is, by k_is⟩, by k_is⟩⟩)
    (case d_Giving_on_day => exact ⟨by k_is, by k_is, ⟨⟨_, _, _, _, _, _, _, _, _, by k_is, by k_is⟩, by k_is⟩⟩)
    (case d_Giving_alike_on_day => exact ⟨by k_is, by k_is, ⟨⟨_, _, _, _, _, _, _, _, _, by k_is, by k_is⟩, by k_is⟩⟩)
    (case d_Giving_kind_has_room => exact ⟨by k_is, by k_is, ⟨⟨_, _, _, _, _, _, _, _, _, by k_is, by k_is⟩, by k_is⟩⟩)
    (case d_Giving_has_room => exact ⟨by k_is, by k_is, ⟨⟨_, _, _, _, _, _, _, _, _, by k_is, by k_is⟩, by k_is⟩⟩)
    (case d_Giving_in_the_way => exact ⟨by k_is, by k_is, ⟨⟨_, _, _, _, _, _, _, _, _, by k_is, by k_is⟩, by k_is⟩⟩)
    (case d_Giving_move_chain => exact ⟨by k_is, by k_is, ⟨⟨_, _, _, _, _, _, _, _, _, by k_is, by k_is⟩, by k_is⟩⟩)
    (case d_Giving_take_in => exact ⟨by k_is, by k_is, ⟨⟨_, _, _, _, _, _, _, _, _, by k_is, by k_is⟩, by k_is⟩⟩)
    (case d_wishes_of => exact ⟨by k_is, ⟨⟨_, _, _, _, _, _, _, _, _, by k_is, by k_is⟩, by k_is⟩⟩)
    (case d_can_be_served => exact ⟨by k_is, ⟨⟨_, _, _, _, _, _, _, _, _, by k_is, by k_is⟩, by k_is⟩⟩)
    (case d_served => exact ⟨by k_is, ⟨⟨_, _, _, _, _, _, _, _, _, by k_is, by k_is⟩, by k_is⟩⟩)
    (case d_least_day => exact ⟨by k_is, ⟨⟨_, _, _, _, _, _, _, _, _, by k_is, by k_is⟩, by k_is⟩⟩)
    (case d_told_giving => exact ⟨by k_is, ⟨⟨_, _, _, _, _, _, _, _, _, by k_is, by k_is⟩, by k_is⟩⟩)
    (case d_loads_of => exact ⟨by k_is, ⟨⟨_, _, _, _, _, _, _, _, _, by k_is, by k_is⟩, by k_is⟩⟩)
    (case d_with_count => exact ⟨by k_is, ⟨⟨_, _, _, _, _, _, _, _, _, by k_is, by k_is⟩, by k_is⟩⟩)
    (case d_are_days_to_come => exact ⟨by k_is, ⟨⟨_, _, _, _, _, _, _, _, _, by k_is, by k_is⟩, by k_is⟩⟩)
    (case d_are_in_row => exact ⟨by k_is, ⟨⟨_, _, _, _, _, _, _, _, _, by k_is, by k_is⟩, by k_is⟩⟩)
    (case d_are_days_or_none => exact ⟨by k_is, ⟨⟨_, _, _, _, _, _, _, _, _, by k_is, by k_is⟩, by k_is⟩⟩)
    (case d_leave => exact ⟨by k_is, ⟨⟨_, _, _, _, _, _, _, _, _, by k_is, by k_is⟩, by k_is⟩⟩)
    (case d_call_row => exact ⟨by k_is, ⟨⟨_, _, _, _, _, _, _, _, _, by k_is, by k_is⟩, by k_is⟩⟩)
    (case d_call_served => exact ⟨by k_is, ⟨⟨_, _, _, _, _, _, _, _, _, by k_is, by k_is⟩, by k_is⟩⟩)
    (case d_call_days => exact ⟨by k_is, ⟨⟨_, _, _, _, _, _, _, _, _, by k_is, by k_is⟩, by k_is⟩⟩)
    (case d_why => exact ⟨by k_is, ⟨⟨_, _, _, _, _, _, _, _, _, by k_is, by k_is⟩, by k_is⟩⟩)
    (case d_call_loads => exact ⟨by k_is, ⟨⟨_, _, _, _, _, _, _, _, _, by k_is, by k_is⟩, by k_is⟩⟩)
    (case d_House_renew => exact ⟨by k_is, by k_is, ⟨⟨_, _, _, _, _, _, _, _, _, by k_is, by k_is⟩, by k_is⟩⟩)
    (case d_House_init => exact ⟨by k_is, by k_is, ⟨⟨_, _, _, _, _, _, _, _, _, by k_is, by k_is⟩, by k_is⟩⟩)
    (case d_House_twin => exact ⟨by k_is, by k_is, ⟨⟨_, _, _, _, _, _, _, _, _, by k_is, by k_is⟩, by k_is⟩⟩)
    (case d_would_place_do => exact ⟨by k_is, ⟨⟨_, _, _, _, _, _, _, _, _, by k_is, by k_is⟩, by k_is⟩⟩)
    (case d_would_quota_do => exact ⟨by k_is, ⟨⟨_, _, _, _, _, _, _, _, _, by k_is, by k_is⟩, by k_is⟩⟩)
    (case d_what_is_lacking => exact ⟨by k_is, ⟨⟨_, _, _, _, _, _, _, _, _, by k_is, by k_is⟩, by k_is⟩⟩)
    (case d_farthest_place => exact ⟨by k_is, ⟨⟨_, _, _, _, _, _, _, _, _, by k_is, by k_is⟩, by k_is⟩⟩)
    (case d_lacking => exact ⟨by k_is, ⟨⟨_, _, _, _, _, _, _, _, _, by k_is, by k_is⟩, by k_is⟩⟩)
    (case d_far => exact ⟨by k_is, ⟨⟨_, _, _, _, _, _, _, _, _, by k_is, by k_is⟩, by k_is⟩⟩)
    (case d_House_limits_of => exact ⟨by k_is, by k_is, ⟨⟨_, _, _, _, _, _, _, _, _, by k_is, by k_is⟩, by k_is⟩⟩)
    (case d_is_giving => exact ⟨by k_is, ⟨⟨_, _, _, _, _, _, _, _, _, by k_is, by k_is⟩, by k_is⟩⟩)
    (case d_call_told => exact ⟨by k_is, ⟨⟨_, _, _, _, _, _, _, _, _, by k_is, by k_is⟩, by k_is⟩⟩)
    (case d_House_applied => exact ⟨by k_is, by k_is, ⟨⟨_, _, _, _, _, _, _, _, _, by k_is, by k_is⟩, by k_is⟩⟩)
    (case d_House_admit => exact ⟨by k_is, by k_is, ⟨⟨_, _, _, _, _, _, _, _, _, by k_is, by k_is⟩, by k_is⟩⟩)
    (case d_day_if_applied => exact ⟨by k_is, ⟨⟨_, _, _, _, _, _, _, _, _, by k_is, by k_is⟩, by k_is⟩⟩)
    (case d_apply => exact ⟨by k_is, ⟨⟨_, _, _, _, _, _, _, _, _, by k_is, by k_is⟩, by k_is⟩⟩)
    (case d_would => exact ⟨by k_is, ⟨⟨_, _, _, _, _, _, _, _, _, by k_is, by k_is⟩, by k_is⟩⟩)
    (case d_House_put_ahead => exact ⟨by k_is, by k_is, ⟨⟨_, _, _, _, _, _, _, _, _, by k_is, by k_is⟩, by k_is⟩⟩)
    (case d_Reader_init => exact ⟨by k_is, by k_is, ⟨⟨_, _, _, _, _, _, _, _, _, by k_is, by k_is⟩, by k_is⟩⟩)
    (case d_Reader_is_at_end => exact ⟨by k_is, by k_is, ⟨⟨_, _, _, _, _, _, _, _, _, by k_is, by k_is⟩, by k_is⟩⟩)
    (case d_Reader_take_number => exact ⟨by k_is, by k_is, ⟨⟨_, _, _, _, _, _, _, _, _, by k_is, by k_is⟩, by k_is⟩⟩)
    (case d_about_applicant => exact ⟨by k_is, ⟨⟨_, _, _, _, _, _, _, _, _, by k_is, by k_is⟩, by k_is⟩⟩)
    (case d_call_house => exact ⟨by k_is, ⟨⟨_, _, _, _, _, _, _, _, _, by k_is, by k_is⟩, by k_is⟩⟩)
    (case d_call_places => exact ⟨by k_is, ⟨⟨_, _, _, _, _, _, _, _, _, by k_is, by k_is⟩, by k_is⟩⟩)
    (case d_call_quota => exact ⟨by k_is, ⟨⟨_, _, _, _, _, _, _, _, _, by k_is, by k_is⟩, by k_is⟩⟩)
    (case d_call_leave => exact ⟨by k_is, ⟨⟨_, _, _, _, _, _, _, _, _, by k_is, by k_is⟩, by k_is⟩⟩)
    (case d_call_ahead => exact ⟨by k_is, ⟨⟨_, _, _, _, _, _, _, _, _, by k_is, by k_is⟩, by k_is⟩⟩)
    (case d_call_why => exact ⟨by k_is, ⟨⟨_, _, _, _, _, _, _, _, _, by k_is, by k_is⟩, by k_is⟩⟩)
    (case d_call_lacking => exact ⟨by k_is, ⟨⟨_, _, _, _, _, _, _, _, _, by k_is, by k_is⟩, by k_is⟩⟩)
    (case d_call_far => exact ⟨by k_is, ⟨⟨_, _, _, _, _, _, _, _, _, by k_is, by k_is⟩, by k_is⟩⟩)
    (case d_Reader_take_list => exact ⟨by k_is, by k_is, ⟨⟨_, _, _, _, _, _, _, _, _, by k_is, by k_is⟩, by k_is⟩⟩)
    (case d_about_newcomer => exact ⟨by k_is, ⟨⟨_, _, _, _, _, _, _, _, _, by k_is, by k_is⟩, by k_is⟩⟩)
    (case d_call_apply => exact ⟨by k_is, ⟨⟨_, _, _, _, _, _, _, _, _, by k_is, by k_is⟩, by k_is⟩⟩)
    (case d_call_can => exact ⟨by k_is, ⟨⟨_, _, _, _, _, _, _, _, _, by k_is, by k_is⟩, by k_is⟩⟩)
    (case d_call_room => exact ⟨by k_is, ⟨⟨_, _, _, _, _, _, _, _, _, by k_is, by k_is⟩, by k_is⟩⟩)
    (case d_call_check => exact ⟨by k_is, ⟨⟨_, _, _, _, _, _, _, _, _, by k_is, by k_is⟩, by k_is⟩⟩)
    (case d_call_would => exact ⟨by k_is, ⟨⟨_, _, _, _, _, _, _, _, _, by k_is, by k_is⟩, by k_is⟩⟩)
    (case d_answer_next => exact ⟨by k_is, ⟨⟨_, _, _, _, _, _, _, _, _, by k_is, by k_is⟩, by k_is⟩⟩)
    (case d_answers => exact ⟨by k_is, ⟨⟨_, _, _, _, _, _, _, _, _, by k_is, by k_is⟩, by k_is⟩⟩)
    (case t_CALLS => exact ⟨by k_is, _, _, by k_is, by decide +kernel⟩)
    (case n_CALLS => exact by decide +kernel)
  case S =>
    intro K H xs a hO hwi hask hx
    cases hx with
    | cons h1 h2 =>
      cases h2
      cases h1 with
      | lst hs ha =>
        have e := L2.ints_dw a.1 _ ha
        subst e
        have q : ((Codec.inLen 0 14000 a.1 && a.1.all (Codec.inInt (-1000000000000000000) 1000000000000000000)) && true) = true := hwi
        rw [Bool.and_eq_true, Bool.and_eq_true] at q
        exact Vp.req_end hO (Codec.inNat_iff.mp q.1.1).2 hask hs
#print axioms PySem.Challenge.cw_placesrow_s01_answers_holds
