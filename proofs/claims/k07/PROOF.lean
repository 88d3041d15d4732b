import PyProof.Rows.All
import Wide.All
import OpenK.AllK
import Wide.FinOn
import HandS.ForMost
import HandS.ForExc
import HandS.Lambda
import KE.SortData
import HandS.Text
import PyProof.ReprRoads
import KE.KeyNested
import HandS.TupAny
import HandS.IsInst
import HandS.Deep
import PyProof.FactsAll.list
import HandS.Style
import HandS.TupLe
import HandS.Dict
import HandS.TupSets
import HandS.Iter
import KE.GoesEnum
import HandS.Comp
import HandS.Exc
import HandS.ExcOwn
import HandS.WordsExc
import HandS.ExcInit
import HandS.HotCalls
import HandS.ExcInitHot
import HandS.ExcIs
import HandS.ExcField
import HandS.EndTab
import PyProof.ReprLen
import PySem.Challenge.RW_roomsback_k07_whole_freed
section
set_option linter.all false
set_option maxRecDepth 100000
set_option Elab.async false
/-! Mi0: values as data, what stands for them, what is kept over a piece of a program. -/
namespace Mi
open PySem L2

/-- a value as a program's data: what is frozen is told by value, what can change by its place in the store -/
inductive D where
  | non | bl (b : Bool) | int (i : Int) | str (x : Str) | tup (ds : List D) | lst (ds : List D) | loc (n : Nat) | fn (n : Nat)

structure Exc where
  c : Nat
  fs : List (Str × D)

structure Wd where
  K : PySem.W.Frag
  fa : Nat → Addr
  ca : Nat → Addr
  ta : Nat → Addr := fun _ => 0
  tq : Nat → Str := fun _ => ""

mutual
inductive Rep (Γ : Wd) (μ : List Addr) (F : Hp) : V → D → Prop
  | non : Rep Γ μ F .non .non
  | bl (b : Bool) : Rep Γ μ F (.bl b) (.bl b)
  | int (i : Int) : Rep Γ μ F (.int i) (.int i)
  | str (x : Str) : Rep Γ μ F (.str x) (.str x)
  | tup {a : Addr} {xs : List V} {ds : List D} : SqT Γ.K F a xs → Reps Γ μ F xs ds → Rep Γ μ F (.ref a) (.tup ds)
  | lst {a : Addr} {xs : List V} {ds : List D} : SqL Γ.K F a xs → Reps Γ μ F xs ds → Rep Γ μ F (.ref a) (.lst ds)
  | loc {n : Nat} {a : Addr} : μ[n]? = some a → Rep Γ μ F (.ref a) (.loc n)
  | fn (n : Nat) : Rep Γ μ F (.ref (Γ.fa n)) (.fn n)
inductive Reps (Γ : Wd) (μ : List Addr) (F : Hp) : List V → List D → Prop
  | nil : Reps Γ μ F [] []
  | cons {v : V} {vs : List V} {d : D} {ds : List D} : Rep Γ μ F v d → Reps Γ μ F vs ds → Reps Γ μ F (v :: vs) (d :: ds)
end

/-- more is known than before -/
structure Gr (μ : List Addr) (F : Hp) (μ' : List Addr) (F' : Hp) : Prop where
  h : ∀ a o, F a = some o → F' a = some o
  m : μ <+: μ'
theorem Gr.refl (μ : List Addr) (F : Hp) : Gr μ F μ F := ⟨fun _ _ e => e, List.prefix_refl _⟩
theorem Gr.trans {μ μ1 μ2 : List Addr} {F F1 F2 : Hp} (a : Gr μ F μ1 F1) (b : Gr μ1 F1 μ2 F2) : Gr μ F μ2 F2 :=
  ⟨fun c o e => b.h c o (a.h c o e), a.m.trans b.m⟩
theorem Gr.at {μ μ' : List Addr} {F F' : Hp} (g : Gr μ F μ' F') {n : Nat} {a : Addr} (e : μ[n]? = some a) : μ'[n]? = some a := by
  obtain ⟨r, hr⟩ := g.m
  subst hr
  rw [List.getElem?_append_left (List.getElem?_eq_some_iff.mp e).1]
  exact e

section
variable {Γ : Wd} {μ μ' : List Addr} {F F' : Hp}
theorem Gr.rd (g : Gr μ F μ' F') {a : Addr} {u : HO} (h : Rd F a u) : Rd F' a u := by
  rcases h with h | ⟨o, h⟩
  · exact .inl (g.h _ _ h)
  · exact .inr ⟨o, g.h _ _ h⟩
theorem Gr.sl (g : Gr μ F μ' F') {a : Addr} {xs : List V} (h : SqL Γ.K F a xs) : SqL Γ.K F' a xs := by
  rcases h with h | h
  · exact .inl (g.rd h)
  · exact .inr h
theorem Gr.st (g : Gr μ F μ' F') {a : Addr} {xs : List V} (h : SqT Γ.K F a xs) : SqT Γ.K F' a xs := by
  rcases h with h | h
  · exact .inl (g.rd h)
  · exact .inr h
mutual
theorem Rep.gr (g : Gr μ F μ' F') : ∀ {d : D} {v : V}, Rep Γ μ F v d → Rep Γ μ' F' v d
  | .non, _, h => by cases h; exact .non
  | .bl b, _, h => by cases h; exact .bl b
  | .int i, _, h => by cases h; exact .int i
  | .str x, _, h => by cases h; exact .str x
  | .tup ds, _, h => by
    cases h with
    | tup h1 h2 => exact .tup (g.st h1) (Reps.gr g h2)
  | .lst ds, _, h => by
    cases h with
    | lst h1 h2 => exact .lst (g.sl h1) (Reps.gr g h2)
  | .loc n, _, h => by
    cases h with
    | loc e => exact .loc (g.at e)
  | .fn n, _, h => by cases h; exact .fn n
theorem Reps.gr (g : Gr μ F μ' F') : ∀ {ds : List D} {vs : List V}, Reps Γ μ F vs ds → Reps Γ μ' F' vs ds
  | [], _, h => by cases h; exact .nil
  | d :: ds, _, h => by
    cases h with
    | cons h1 h2 => exact .cons (Rep.gr g h1) (Reps.gr g h2)
end
theorem Reps.length : ∀ {ds : List D} {vs : List V}, Reps Γ μ F vs ds → vs.length = ds.length
  | [], _, h => by cases h; rfl
  | d :: ds, _, h => by
    cases h with
    | cons h1 h2 => simp [Reps.length h2]
theorem Reps.get : ∀ {ds : List D} {vs : List V} {i : Nat} {d : D}, Reps Γ μ F vs ds → ds[i]? = some d → ∃ v, vs[i]? = some v ∧ Rep Γ μ F v d
  | [], _, _, _, _, e => by simp at e
  | d :: ds, _, 0, _, h, e => by
    cases h with
    | cons h1 h2 => simp at e; subst e; exact ⟨_, rfl, h1⟩
  | d :: ds, _, i + 1, _, h, e => by
    cases h with
    | cons h1 h2 =>
      obtain ⟨v, q1, q2⟩ := Reps.get (i := i) h2 (by simpa using e)
      exact ⟨v, by simpa using q1, q2⟩
theorem Reps.getV : ∀ {ds : List D} {vs : List V} {i : Nat} {v : V}, Reps Γ μ F vs ds → vs[i]? = some v → ∃ d, ds[i]? = some d ∧ Rep Γ μ F v d
  | [], _, _, _, h, e => by cases h; simp at e
  | d :: ds, _, 0, _, h, e => by
    cases h with
    | cons h1 h2 => simp at e; subst e; exact ⟨_, rfl, h1⟩
  | d :: ds, _, i + 1, _, h, e => by
    cases h with
    | cons h1 h2 =>
      obtain ⟨v, q1, q2⟩ := Reps.getV (i := i) h2 (by simpa using e)
      exact ⟨v, by simpa using q1, q2⟩
theorem Reps.append : ∀ {ds es : List D} {vs ws : List V}, Reps Γ μ F vs ds → Reps Γ μ F ws es → Reps Γ μ F (vs ++ ws) (ds ++ es)
  | [], _, _, _, h, h' => by cases h; exact h'
  | d :: ds, _, _, _, h, h' => by
    cases h with
    | cons h1 h2 => exact .cons h1 (Reps.append h2 h')
theorem Reps.take : ∀ (n : Nat) {ds : List D} {vs : List V}, Reps Γ μ F vs ds → Reps Γ μ F (vs.take n) (ds.take n)
  | 0, _, _, _ => by simpa using .nil
  | n + 1, [], _, h => by cases h; exact .nil
  | n + 1, d :: ds, _, h => by
    cases h with
    | cons h1 h2 => exact .cons h1 (Reps.take n h2)
theorem Reps.drop : ∀ (n : Nat) {ds : List D} {vs : List V}, Reps Γ μ F vs ds → Reps Γ μ F (vs.drop n) (ds.drop n)
  | 0, _, _, h => h
  | n + 1, [], _, h => by cases h; exact .nil
  | n + 1, d :: ds, _, h => by
    cases h with
    | cons h1 h2 => exact Reps.drop n h2
theorem Reps.reverse : ∀ {ds : List D} {vs : List V}, Reps Γ μ F vs ds → Reps Γ μ F vs.reverse ds.reverse
  | [], _, h => by cases h; exact .nil
  | d :: ds, _, h => by
    cases h with
    | cons h1 h2 => rw [List.reverse_cons, List.reverse_cons]; exact (Reps.reverse h2).append (.cons h1 .nil)
theorem Reps.set : ∀ {ds : List D} {vs : List V} (i : Nat) {v : V} {d : D}, Reps Γ μ F vs ds → Rep Γ μ F v d → Reps Γ μ F (vs.set i v) (ds.set i d)
  | [], _, _, _, _, h, _ => by cases h; exact .nil
  | d :: ds, _, 0, _, _, h, r => by
    cases h with
    | cons h1 h2 => exact .cons r h2
  | d :: ds, _, i + 1, _, _, h, r => by
    cases h with
    | cons h1 h2 => exact .cons h1 (Reps.set i h2 r)
end

/-! ### slots, the store, what is kept -/
inductive SV where
  | non | val (d : D) | own (ds : List D)
inductive SO where
  | dct (kvs : List (Str × D))
  | tab (k : Nat)
abbrev Env := List SV
abbrev Sto := List SO

/-- fields by name -/
inductive RepF (Γ : Wd) (μ : List Addr) (F : Hp) : List (Str × V) → List (Str × D) → Prop
  | nil : RepF Γ μ F [] []
  | cons {k : Str} {v : V} {vs : List (Str × V)} {d : D} {ds : List (Str × D)} : Rep Γ μ F v d → RepF Γ μ F vs ds → RepF Γ μ F ((k, v) :: vs) ((k, d) :: ds)
theorem RepF.gr {Γ : Wd} {μ μ' : List Addr} {F F' : Hp} (g : Gr μ F μ' F') : ∀ {ds : List (Str × D)} {vs : List (Str × V)}, RepF Γ μ F vs ds → RepF Γ μ' F' vs ds
  | _, _, .nil => .nil
  | _, _, .cons h t => .cons (h.gr g) (RepF.gr g t)
theorem RepF.length {Γ : Wd} {μ : List Addr} {F : Hp} : ∀ {ds : List (Str × D)} {vs : List (Str × V)}, RepF Γ μ F vs ds → vs.length = ds.length
  | _, _, .nil => rfl
  | _, _, .cons h t => by simp [RepF.length t]
theorem RepF.look {Γ : Wd} {μ : List Addr} {F : Hp} {k : Str} {d : D} : ∀ {ds : List (Str × D)} {vs : List (Str × V)}, RepF Γ μ F vs ds → ds.lookup k = some d → ∃ v, vs.lookup k = some v ∧ Rep Γ μ F v d
  | _, _, .nil, e => by simp at e
  | _, _, .cons (k := k') h t, e => by
    rw [List.lookup_cons] at e ⊢
    cases q : k == k' with
    | true => rw [q] at e; cases e; exact ⟨_, rfl, h⟩
    | false => rw [q] at e; exact RepF.look t e

/-- a text-keyed dict as HandS has it -/
def kvK (ws : List (Str × V)) : List (Key × V) := ws.map fun p => (Sum.inr p.1, p.2)
def SRep (Γ : Wd) (μ : List Addr) (F H : Hp) (a : Addr) : SO → Prop
  | .dct kvs => ∃ ws, H a = some (.dK (kvK ws)) ∧ RepF Γ μ F ws kvs
  | .tab k => a = Γ.ta k ∧ ∃ ps : Array Value, H a = some (.tbl ps) ∧ TriplesOk ps.toList ∧ ∀ (pos : Pos) (cv : Value), codeAmong pos ps.toList = some cv → ∃ c, cv = .ref c ∧ F c = some (LamX.CodeO c (Γ.tq k))
theorem SRep.gr {Γ : Wd} {μ μ' : List Addr} {F F' H H' : Hp} {a : Addr} {o : SO} (g : Gr μ F μ' F') (e : ∀ u, H a = some u → H' a = some u) (h : SRep Γ μ F H a o) : SRep Γ μ' F' H' a o := by
  cases o with
  | dct kvs =>
    obtain ⟨ws, h1, h2⟩ := h
    exact ⟨ws, e _ h1, h2.gr g⟩
  | tab k =>
    obtain ⟨h0, ps, h1, h2, h3⟩ := h
    exact ⟨h0, ps, e _ h1, h2, fun pos cv hc => let ⟨c, e1, e2⟩ := h3 pos cv hc; ⟨c, e1, g.h _ _ e2⟩⟩
theorem SRep.some {Γ : Wd} {μ : List Addr} {F H : Hp} {a : Addr} {o : SO} (h : SRep Γ μ F H a o) : ∃ u, H a = some u := by
  cases o with
  | dct kvs =>
    obtain ⟨ws, h1, h2⟩ := h
    exact ⟨_, h1⟩
  | tab k =>
    obtain ⟨h0, ps, h1, h2⟩ := h
    exact ⟨_, h1⟩

/-- where a piece of program was entered -/
structure En where
  μ : List Addr
  F : Hp
  H : Hp

/-- the frozen part and the store stand in the heap -/
structure Sok (Γ : Wd) (μ : List Addr) (S : Sto) (F H : Hp) : Prop where
  le : ∀ a o, F a = some o → H a = some o
  len : S.length = μ.length
  nd : μ.Nodup
  obj : ∀ (n : Nat) (a : Addr) (o : SO), μ[n]? = some a → S[n]? = some o → SRep Γ μ F H a o
  fr : ∀ a ∈ μ, F a = none
  tb : ∀ (a : Addr) (ps : Array Value), H a = some (.tbl ps) → a ∈ μ
/-- .. and nothing else that stood at the entry has changed -/
structure Kp (Γ : Wd) (E : En) (μ : List Addr) (S : Sto) (F H : Hp) : Prop extends Sok Γ μ S F H where
  gr : Gr E.μ E.F μ F
  base : ∀ a o, E.H a = some o → a ∉ E.μ → H a = some o
  fz : ∀ a o, F a = some o → E.F a = some o ∨ E.H a = none
  mz : ∀ a ∈ μ, a ∈ E.μ ∨ E.H a = none

section
variable {Γ : Wd} {E : En} {μ μ' : List Addr} {S S' : Sto} {F F' H H' : Hp}
theorem Sok.some (k : Sok Γ μ S F H) {a : Addr} (h : a ∈ μ) : ∃ u, H a = some u := by
  obtain ⟨n, hn, e⟩ := List.getElem_of_mem h
  have hS : n < S.length := by rw [k.len]; exact hn
  exact (k.obj n a S[n] (by rw [List.getElem?_eq_getElem hn, e]) (List.getElem?_eq_getElem hS)).some
theorem Sok.enter (k : Sok Γ μ S F H) : Kp Γ ⟨μ, F, H⟩ μ S F H where
  toSok := k
  gr := Gr.refl _ _
  base := fun _ _ e _ => e
  fz := fun _ _ e => .inl e
  mz := fun _ h => .inl h
theorem Kp.trans (k : Kp Γ E μ S F H) (l : Kp Γ ⟨μ, F, H⟩ μ' S' F' H') : Kp Γ E μ' S' F' H' where
  toSok := l.toSok
  gr := k.gr.trans l.gr
  base := fun a o e n => by
    refine l.base a o (k.base a o e n) fun hm => ?_
    rcases k.mz a hm with z | z
    · exact n z
    · rw [e] at z; cases z
  fz := fun a o e => by
    rcases l.fz a o e with z | z
    · exact k.fz a o z
    · refine .inr ?_
      cases q : E.H a with
      | none => rfl
      | some u =>
        have z : H a = none := z
        by_cases hm : a ∈ E.μ
        · obtain ⟨u', hu⟩ := k.toSok.some (k.gr.m.subset hm)
          rw [z] at hu; cases hu
        · have := k.base a u q hm
          rw [z] at this; cases this
  mz := fun a hm => by
    rcases l.mz a hm with z | z
    · exact k.mz a z
    · refine .inr ?_
      have z : H a = none := z
      cases q : E.H a with
      | none => rfl
      | some u =>
        by_cases hm : a ∈ E.μ
        · obtain ⟨u', hu⟩ := k.toSok.some (k.gr.m.subset hm)
          rw [z] at hu; cases hu
        · have := k.base a u q hm
          rw [z] at this; cases this
/-- a new frozen object -/
theorem Kp.new (k : Kp Γ E μ S F H) {p : Addr} {o : HO} (hp : H p = none) (ho : ∀ ps, o ≠ .tbl ps := by intro _ z; cases z) : Kp Γ E μ S (upd F p o) (upd H p o) := by
  have ne : ∀ a u, H a = some u → a ≠ p := fun a u e z => by rw [z, hp] at e; cases e
  have Fp : F p = none := by
    cases q : F p with
    | none => rfl
    | some u => rw [k.le p u q] at hp; cases hp
  have g : Gr μ F μ (upd F p o) := ⟨fun a u e => by rw [upd_ne (fun z => by rw [z, Fp] at e; cases e)]; exact e, List.prefix_refl _⟩
  have pm : p ∉ μ := fun h => by
    obtain ⟨u, hu⟩ := k.toSok.some h
    exact ne p u hu rfl
  refine ⟨⟨fun a u e => ?_, k.len, k.nd, fun n a so h1 h2 => ?_, fun a h => ?_, fun a ps e => ?_⟩, k.gr.trans g, fun a u e n => ?_, fun a u e => ?_, k.mz⟩
  · by_cases ha : a = p
    · subst ha; rw [upd_same] at e ⊢; exact e
    · rw [upd_ne ha] at e ⊢; exact k.le a u e
  · refine (k.obj n a so h1 h2).gr g fun u e => ?_
    rw [upd_ne (ne a u e)]; exact e
  · rw [upd_ne (show a ≠ p from fun z => pm (z ▸ h))]; exact k.fr a h
  · by_cases ha : a = p
    · subst ha; rw [upd_same] at e; exact absurd (Option.some.inj e) (ho ps)
    · rw [upd_ne ha] at e; exact k.tb a ps e
  · have := k.base a u e n
    rw [upd_ne (ne a u this)]; exact this
  · by_cases ha : a = p
    · subst ha
      refine .inr ?_
      cases q : E.H a with
      | none => rfl
      | some w =>
        by_cases hm : a ∈ E.μ
        · obtain ⟨u', hu⟩ := k.toSok.some (k.gr.m.subset hm)
          rw [hp] at hu; cases hu
        · have := k.base a w q hm
          rw [hp] at this; cases this
    · rw [upd_ne ha] at e; exact k.fz a u e
/-- what did not stand before did not stand at the entry -/
theorem Kp.fresh (k : Kp Γ E μ S F H) {p : Addr} (hp : H p = none) : E.H p = none ∧ F p = none ∧ p ∉ μ := by
  refine ⟨?_, ?_, fun h => ?_⟩
  · cases q : E.H p with
    | none => rfl
    | some w =>
      by_cases hm : p ∈ E.μ
      · obtain ⟨u', hu⟩ := k.toSok.some (k.gr.m.subset hm)
        rw [hp] at hu; cases hu
      · have := k.base p w q hm
        rw [hp] at this; cases this
  · cases q : F p with
    | none => rfl
    | some u => rw [k.le p u q] at hp; cases hp
  · obtain ⟨u, hu⟩ := k.toSok.some h
    rw [hp] at hu; cases hu
/-- an object of our own (neither frozen nor of the store), new since the entry, is changed or made -/
theorem Kp.mine (k : Kp Γ E μ S F H) {p : Addr} {o : HO} (hE : E.H p = none) (hF : F p = none) (hm : p ∉ μ) (ho : ∀ ps, o ≠ .tbl ps := by intro _ z; cases z) : Kp Γ E μ S F (upd H p o) := by
  refine ⟨⟨fun a u e => ?_, k.len, k.nd, fun n a so h1 h2 => ?_, k.fr, fun a ps e => ?_⟩, k.gr, fun a u e n => ?_, k.fz, k.mz⟩
  · rw [upd_ne (fun z => by rw [z, hF] at e; cases e)]; exact k.le a u e
  · refine (k.obj n a so h1 h2).gr (Gr.refl _ _) fun u e => ?_
    rw [upd_ne (show a ≠ p from fun z => hm (z ▸ List.mem_of_getElem? h1))]; exact e
  · by_cases ha : a = p
    · subst ha; rw [upd_same] at e; exact absurd (Option.some.inj e) (ho ps)
    · rw [upd_ne ha] at e; exact k.tb a ps e
  · rw [upd_ne (fun z => by rw [z, hE] at e; cases e)]; exact k.base a u e n
/-- our own object is frozen from now on -/
theorem Kp.freeze (k : Kp Γ E μ S F H) {p : Addr} {o : HO} (hp : H p = some o) (hE : E.H p = none) (hF : F p = none) (hm : p ∉ μ) : Kp Γ E μ S (upd F p o) H := by
  have g : Gr μ F μ (upd F p o) := ⟨fun a u e => by rw [upd_ne (fun z => by rw [z, hF] at e; cases e)]; exact e, List.prefix_refl _⟩
  refine ⟨⟨fun a u e => ?_, k.len, k.nd, fun n a so h1 h2 => (k.obj n a so h1 h2).gr g fun _ e => e, fun a h => ?_, k.tb⟩, k.gr.trans g, k.base, fun a u e => ?_, k.mz⟩
  · by_cases ha : a = p
    · subst ha; rw [upd_same] at e; cases e; exact hp
    · rw [upd_ne ha] at e; exact k.le a u e
  · rw [upd_ne (show a ≠ p from fun z => hm (z ▸ h))]; exact k.fr a h
  · by_cases ha : a = p
    · subst ha; exact .inr hE
    · rw [upd_ne ha] at e; exact k.fz a u e
/-- a table is written: a code object comes in -/
theorem Kp.table (k : Kp Γ E μ S F H) {n j : Nat} {P c : Addr} {ps more : Array Value} (hn : μ[n]? = some P) (hS : S[n]? = some (.tab j)) (hP : H P = some (.tbl ps)) (hc : H c = none) (ht : TriplesOk (ps ++ more).toList)
    (hin : ∀ (pos : Pos) (cv : Value), codeAmong pos (ps ++ more).toList = some cv → codeAmong pos ps.toList = some cv ∨ cv = .ref c) :
    Kp Γ E μ S (upd F c (LamX.CodeO c (Γ.tq j))) (upd (upd H P (.tbl (ps ++ more))) c (LamX.CodeO c (Γ.tq j))) := by
  have Pm : P ∈ μ := List.mem_of_getElem? hn
  have nPc : P ≠ c := fun z => by rw [z, hc] at hP; cases hP
  have fc : E.H c = none ∧ F c = none ∧ c ∉ μ := k.fresh hc
  have g : Gr μ F μ (upd F c (LamX.CodeO c (Γ.tq j))) := ⟨fun a u e => by rw [upd_ne (fun z => by rw [z, fc.2.1] at e; cases e)]; exact e, List.prefix_refl _⟩
  have notT : ∀ ps, LamX.CodeO c (Γ.tq j) ≠ .tbl ps := fun ps z => by unfold LamX.CodeO at z; cases z
  have other : ∀ a u, a ≠ P → H a = some u → upd (upd H P (.tbl (ps ++ more))) c (LamX.CodeO c (Γ.tq j)) a = some u := fun a u hne e => by
    rw [upd_ne (fun z => by rw [z, hc] at e; cases e), upd_ne hne]; exact e
  refine ⟨⟨fun a u e => ?_, k.len, k.nd, fun m a so h1 h2 => ?_, fun a h => ?_, fun a qs e => ?_⟩, k.gr.trans g, fun a u e hnm => ?_, fun a u e => ?_, k.mz⟩
  · by_cases ha : a = c
    · subst ha; rw [upd_same] at e ⊢; exact e
    · rw [upd_ne ha] at e
      exact other a u (fun z => by rw [z, k.fr P Pm] at e; cases e) (k.le a u e)
  · by_cases ha : a = P
    · subst ha
      have en : m = n := (List.getElem?_inj (List.getElem?_eq_some_iff.mp h1).1 k.nd).mp (h1.trans hn.symm)
      subst en
      rw [hS] at h2
      cases h2
      obtain ⟨z0, ps', z1, z2, z3⟩ := k.obj m a _ h1 hS
      rw [hP] at z1
      cases z1
      refine ⟨z0, ps ++ more, by rw [upd_ne nPc, upd_same], ht, fun pos cv hcv => ?_⟩
      rcases hin pos cv hcv with z | z
      · obtain ⟨c0, e1, e2⟩ := z3 pos cv z
        exact ⟨c0, e1, g.h _ _ e2⟩
      · exact ⟨c, z, upd_same⟩
    · exact (k.obj m a so h1 h2).gr g fun u e => other a u ha e
  · rw [upd_ne (show a ≠ c from fun z => fc.2.2 (z ▸ h))]; exact k.fr a h
  · by_cases ha : a = c
    · subst ha; rw [upd_same] at e; exact absurd (Option.some.inj e) (notT qs)
    · rw [upd_ne ha] at e
      by_cases hb : a = P
      · subst hb; exact Pm
      · rw [upd_ne hb] at e; exact k.tb a qs e
  · have hb := k.base a u e hnm
    refine other a u (fun z => ?_) hb
    subst z
    rcases k.mz a Pm with q | q
    · exact hnm q
    · rw [e] at q; cases q
  · by_cases ha : a = c
    · subst ha; exact .inr fc.1
    · rw [upd_ne ha] at e; exact k.fz a u e
end

/-- the frame's slots -/
structure Rel (Γ : Wd) (E : En) (μ : List Addr) (S : Sto) (F H : Hp) (ρ : Env) (σ : St) : Prop extends Kp Γ E μ S F H where
  val : ∀ (i : Nat) (d : D), ρ[i]? = some (.val d) → ∃ v, σ[i]? = some (some v) ∧ Rep Γ μ F v d
  own : ∀ (i : Nat) (ds : List D), ρ[i]? = some (.own ds) → ∃ a xs, σ[i]? = some (some (.ref a)) ∧ H a = some (.lst xs) ∧ Reps Γ μ F xs ds ∧ E.H a = none ∧ F a = none ∧ a ∉ μ
  sep : ∀ (i j : Nat) (ds es : List D) (a : Addr), ρ[i]? = some (.own ds) → ρ[j]? = some (.own es) → σ[i]? = some (some (.ref a)) → σ[j]? = some (some (.ref a)) → i = j
  sl : σ.length = ρ.length

section
variable {Γ : Wd} {E : En} {μ μ' : List Addr} {S S' : Sto} {F F' H H' : Hp} {ρ : Env} {σ : St}
theorem Rel.kp (R : Rel Γ E μ S F H ρ σ) : Kp Γ E μ S F H := R.toKp
/-- behind a piece entered here that leaves the slots alone -/
theorem Rel.step (R : Rel Γ E μ S F H ρ σ) (l : Kp Γ ⟨μ, F, H⟩ μ' S' F' H') : Rel Γ E μ' S' F' H' ρ σ where
  toKp := R.toKp.trans l
  val := fun i d e => let ⟨v, h1, h2⟩ := R.val i d e; ⟨v, h1, h2.gr l.gr⟩
  own := fun i ds e => by
    obtain ⟨a, xs, h1, h2, h3, h4, h5, h6⟩ := R.own i ds e
    refine ⟨a, xs, h1, l.base a _ h2 h6, h3.gr l.gr, h4, ?_, fun hm => ?_⟩
    · cases q : F' a with
      | none => rfl
      | some o =>
        rcases l.fz a o q with z | z
        · have z : F a = some o := z
          rw [h5] at z; cases z
        · have z : H a = none := z
          rw [h2] at z; cases z
    · rcases l.mz a hm with z | z
      · exact h6 z
      · have z : H a = none := z
        rw [h2] at z; cases z
  sep := R.sep
  sl := R.sl
end
end Mi
end

section
set_option linter.all false
set_option maxRecDepth 100000
set_option Elab.async false
/-! Mi1: programs in short, and what they come to. -/
namespace Mi
open PySem L2

inductive Bop where
  | add | sub | mul | fdiv | mod | pow
  deriving DecidableEq
inductive Cop where
  | eq | ne | lt | le | gt | ge | inn | nin
  deriving DecidableEq
inductive Ity where
  | str | int | bool | tuple | list
  deriving DecidableEq
inductive Blt where
  | len | tuple | list | sorted | all | any | int | repr | str
  deriving DecidableEq

/-- a target: a name, or a tuple of names -/
inductive Tg where
  | nm (i : Nat) | tp (is : List Nat)
  deriving DecidableEq
def Tg.vs : Tg → List Nat
  | .nm i => [i]
  | .tp is => is
mutual
inductive CE where
  | cst (d : D)
  | var (i : Nat)
  | pk (i : Nat)
  | fn (n : Nat)
  | gc (n : Nat)
  | tup (es : CEs)
  | lst (es : CEs)
  | bin (o : Bop) (a b : CE)
  | cat (a b : CE)
  | neg (a : CE)
  | cmp (o : Cop) (a b : CE)
  | cmp2 (o o' : Cop) (a b c : CE)
  | isN (ng : Bool) (a : CE)
  | isB (c : Bool) (a : CE)
  | bool (conj : Bool) (es : CEs)
  | not (a : CE)
  | ite (t : CT) (a b : CE)
  | idx (a i : CE)
  | slc (a : CE) (lo hi : CEo)
  | rev (a : CE)
  | call (f : Nat) (es : CEs)
  | callK (f : Nat) (ks : List Str) (is : List Nat) (es : CEs)
  | blt (b : Blt) (a : CE)
  | sset (a : CE)
  | said (k : Nat) (e : CE)
  | isa (a : CE) (t : Ity)
  | comp (elt : CE) (t : Tg) (it : CI) (ifs : CTs)
  | cnt (i : Nat) (a : CE)
  | isaC (a : CE) (k : Nat)
  | fld (a : CE) (f : Str)
  | dget (a : CE) (k : Str)
  | dct (ks : List Str) (es : CEs)
inductive CEs where
  | nil | cons (e : CE) (es : CEs)
inductive CEo where
  | no | so (e : CE)
inductive CI where
  | ex (e : CE) | rng (e : CE) | rng2 (a b : CE) | enum (e : CE)
inductive CT where
  | val (e : CE) | bool (conj : Bool) (ts : CTs) | not (t : CT)
inductive CTs where
  | nil | cons (t : CT) (ts : CTs)
end

/-! ### on data -/
mutual
def D.toPy : D → Option PyData
  | .non => some .none
  | .bl b => some (.bool b)
  | .int i => some (.int i)
  | .str x => some (.str x)
  | .tup ds => (D.toPys ds).map .tuple
  | .lst ds => (D.toPys ds).map .list
  | .loc _ => none
  | .fn _ => none
def D.toPys : List D → Option (List PyData)
  | [] => some []
  | d :: ds => match d.toPy, D.toPys ds with
    | some p, some ps => some (p :: ps)
    | _, _ => none
end
def D.flat : D → Bool
  | .non | .bl _ | .int _ | .str _ => true
  | _ => false

def maxLen : Nat := sizeLine
def mkT (ds : List D) : Option D := if ds.length ≤ maxLen then some (.tup ds) else none
def mkL (ds : List D) : Option D := if ds.length ≤ maxLen then some (.lst ds) else none

def bop : Bop → D → D → Option D
  | .add, .int i, .int j => some (.int (i + j))
  | .add, .str x, .str y => if x.length + y.length ≤ maxLen then some (.str (x ++ y)) else none
  | .add, .lst xs, .lst ys => mkL (xs ++ ys)
  | .add, .tup xs, .tup ys => mkT (xs ++ ys)
  | .sub, .int i, .int j => some (.int (i - j))
  | .mul, .int i, .int j => if (-(2 ^ 64) < i ∧ i < 2 ^ 64) ∨ (-(2 ^ 64) < j ∧ j < 2 ^ 64) then some (.int (i * j)) else none
  | .fdiv, .int i, .int j => if 0 < j ∧ j < 1073741824 then some (.int (i / j)) else none
  | .mod, .int i, .int j => if 0 < j then some (.int (i % j)) else none
  | .pow, .int i, .int j => if 0 ≤ j ∧ j ≤ 1000000 ∧ i.natAbs < 2 ^ 64 then some (.int (i ^ j.toNat)) else none
  | _, _, _ => none

def catD : D → D → Option D
  | .lst xs, .lst ys => mkL (xs ++ ys)
  | _, _ => none
/-- == of flat values (None, bools, ints, texts); a bool beside an int is left to the general way -/
def eqFl : D → D → Option Bool
  | .non, .non => some true
  | .bl a, .bl b => some (decide (a = b))
  | .int a, .int b => some (decide (a = b))
  | .str a, .str b => some (decide (a = b))
  | .non, .bl _ => some false | .non, .int _ => some false | .non, .str _ => some false
  | .bl _, .non => some false | .int _, .non => some false | .str _, .non => some false
  | .bl _, .str _ => some false | .int _, .str _ => some false
  | .str _, .bl _ => some false | .str _, .int _ => some false
  | _, _ => none
def eqPy (p q : PyData) : Option Bool := if p.canLay0 = true ∧ q.canLay0 = true ∧ min p.depth q.depth ≤ 64 then some (PyData.eqv p q) else none
/-- == -/
def eqD (x y : D) : Option Bool := match eqFl x y with
  | some b => some b
  | none => match x.toPy, y.toPy with
    | some p, some q => eqPy p q
    | _, _ => none
/-- < -/
def ltD (x y : D) : Option Bool := match x, y with
  | .int i, .int j => some (decide (i < j))
  | .str a, .str b => some (decide (a.cps.toList < b.cps.toList))
  | .tup a, .tup b => match D.toPys a, D.toPys b with
    | some p, some q => if PySem.W.alikeAll p q = true ∧ min (PyData.depth (.tuple p)) (PyData.depth (.tuple q)) ≤ 64 then some (PySem.W.dataLt (.tuple p) (.tuple q)) else none
    | _, _ => none
  | _, _ => none
def eqV1 : D → D → Bool
  | .non, .non => true
  | .bl a, .bl b => a == b
  | .bl a, .int b => (if a then 1 else 0) == b
  | .int a, .bl b => a == (if b then 1 else 0)
  | .int a, .int b => a == b
  | .str a, .str b => a == b
  | _, _ => false
/-- x in ys -/
def inD (x : D) (ys : List D) : Option Bool :=
  if x.flat && ys.all D.flat then some (ys.any fun y => eqV1 y x)
  else match x.toPy, D.toPys ys with
    | some p, some qs => if p.canLay0 = true ∧ PyData.canLayAll0 qs = true ∧ min (PyData.depthAll qs) p.depth ≤ 64 then some (qs.any fun q => PyData.eqv q p) else none
    | _, _ => none

/-- a text in a text -/
def inS (x y : Str) : Bool := !(Builtin.Str.occurrences y x 0 y.length 1).isEmpty
def cop : Cop → D → D → Option Bool
  | .eq, x, y => eqD x y
  | .ne, x, y => (eqD x y).map (!·)
  | .lt, x, y => ltD x y
  | .gt, .int i, .int j => some (decide (j < i))
  | .le, .int i, .int j => some (decide (i ≤ j))
  | .ge, .int i, .int j => some (decide (j ≤ i))
  | .inn, .str x, .str y => some (inS x y)
  | .nin, .str x, .str y => some (!inS x y)
  | .inn, x, .lst ys => inD x ys
  | .inn, x, .tup ys => inD x ys
  | .nin, x, .lst ys => (inD x ys).map (!·)
  | .nin, x, .tup ys => (inD x ys).map (!·)
  | _, _, _ => none

def D.truth : D → Option Bool
  | .non => some false
  | .bl b => some b
  | .int i => some (i != 0)
  | .str x => if x.length ≤ maxLen then some ((x.length : Int) != 0) else none
  | .tup ds => some (!ds.isEmpty)
  | .lst ds => some (!ds.isEmpty)
  | _ => none

def isaD : Ity → D → Bool
  | .str, .str _ => true
  | .int, .int _ => true
  | .int, .bl _ => true
  | .bool, .bl _ => true
  | .tuple, .tup _ => true
  | .list, .lst _ => true
  | _, _ => false

/-- the class of a value that is data -/
def tyN : D → Option String
  | .non => some "NoneType" | .bl _ => some "bool" | .int _ => some "int" | .str _ => some "str" | .tup _ => some "tuple" | .lst _ => some "list" | _ => none
/-- the item at an index, as Python counts -/
def atD (ds : List D) (i : Int) : Option D := atI ds i

def idxD : D → D → Option D
  | .lst ds, .int i => atD ds i
  | .tup ds, .int i => atD ds i
  | _, _ => none

/-! ### results -/
inductive R (α : Type) where
  | ok (a : α) (S : Sto)
  | ex (x : Exc) (S : Sto)
abbrev Mo (α : Type) := Option (R α)
def rb {α β : Type} (o : Mo α) (f : α → Sto → Mo β) : Mo β := match o with
  | none => none
  | some (.ok a S) => f a S
  | some (.ex x S) => some (.ex x S)
def lift {α : Type} (o : Option α) (S : Sto) : Mo α := match o with
  | none => none
  | some a => some (.ok a S)
abbrev FnSem := List D → Sto → Mo D
structure Tab where
  exn : Option (Nat × List (Str × D)) := none
  isc : Nat → Nat → Option Bool := fun _ _ => none
  k : Nat
  f : Nat → FnSem
  gc : Nat → Option D
  xf : Nat → List Str
  /-- the defs' meanings two calls deeper; what is made of an error that is held -/
  f2 : Nat → FnSem := fun _ _ _ => none
  rf : Exc → Sto → Mo D := fun _ _ => none
def Tab.low (G : Tab) : Tab := { G with k := G.k - 2, f := G.f2, f2 := fun _ _ _ => none, rf := fun _ _ => none }
def isTab (S : Sto) (k : Nat) : Bool := match S[k]? with
  | some (.tab j) => decide (j = k)
  | _ => false
/-- told, or what is made of the error -/
def saidM (rf : Exc → Sto → Mo D) : Mo D → Mo D
  | none => none
  | some (.ok d S) => some (.ok (.tup [.str "told", d]) S)
  | some (.ex x S) => match rf x S with
    | some (.ok d S') => some (.ok d S')
    | _ => none

/-- the list comprehension's walk: no error may come out of it -/
def compM (body : D → Sto → Mo (Option D)) : List D → List D → Sto → Mo (List D)
  | [], acc, S => some (.ok acc S)
  | x :: xs, acc, S => match body x S with
    | some (.ok (some d) S') => if acc.length < maxLen then compM body xs (acc ++ [d]) S' else none
    | some (.ok none S') => compM body xs acc S'
    | _ => none

def rngD (lo hi : Int) : Option (List D) :=
  if -(2 ^ 62) ≤ lo ∧ lo < 2 ^ 62 ∧ -(2 ^ 62) ≤ hi ∧ hi < 2 ^ 62 then some ((List.range (hi - lo).toNat).map fun (k : Nat) => D.int (lo + (k : Int))) else none

def bls : List D → Option (List Bool)
  | [] => some []
  | .bl b :: r => (bls r).map (b :: ·)
  | _ => none
/-- repr of data -/
def reprD (d : D) : Option D := match d.toPy with
  | some p => if p.showable = true ∧ p.depth ≤ 60 ∧ p.shown.length ≤ maxLen then some (.str p.shown) else none
  | none => none
/-- a list of values by the data beside them -/
def sortV {α : Type} (xs : List (α × PyData)) : List α := (xs.mergeSort (PySem.W.dataLe false (·.2))).map (·.1)
def sortableB (ps : List PyData) : Bool := ((ps.all fun p => match p with | .tuple (_ :: _) => true | _ => false) || (ps.all fun p => match p with | .none => false | .tuple _ => false | _ => true)) ||
  (match ps with | .tuple [] :: r => r.all (fun p => match p with | .tuple _ => true | _ => false) | _ => false)
def sortD (ds : List D) : Option D := match D.toPys ds with
  | some ps => if (ps.all fun p => ps.all fun q => PySem.W.alike p q) = true ∧ sortableB ps = true ∧ (ps.all fun p => decide (p.depth ≤ 60)) = true then some (.lst (sortV (ds.zip ps))) else none
  | none => none
mutual
/-- a key of a set: texts, whole numbers, tuples of such -/
def kyD : D → Option NestedKey
  | .str x => some (.text x)
  | .int i => some (.num i)
  | .tup ds => (kyDs ds).map .tup
  | _ => none
def kyDs : List D → Option (List NestedKey)
  | [] => some []
  | d :: ds => match kyD d, kyDs ds with
    | some k, some ks => some (k :: ks)
    | _, _ => none
end
mutual
def unK : NestedKey → D
  | .none => .non
  | .num i => .int i
  | .text x => .str x
  | .tup ks => .tup (unKs ks)
def unKs : List NestedKey → List D
  | [] => []
  | k :: ks => unK k :: unKs ks
end
/-- each once, in their order -/
def ssetL (ks : List NestedKey) : List NestedKey := ks.eraseDups.mergeSort (PySem.W.dataLe false NestedKey.data)
def okSet (ks : List NestedKey) : Bool := decide (ks.length < 64) && (ks.all fun k => match k with
    | .tup (_ :: _) => decide (k.depth ≤ 7)
    | _ => false) && (ks.all fun p => ks.all fun q => PySem.W.alike p.data q.data)
/-- texts alone -/
def okTx (ks : List NestedKey) : Bool := decide (ks.length < 64) && ks.all fun k => match k with
    | .text _ => true
    | _ => false
def seqL : D → Option (List D)
  | .lst ds => some ds
  | .tup ds => some ds
  | _ => none
/-- sorted(set(xs)) -/
def ssetD (x : D) : Option D := match seqL x with
  | some ds => match kyDs ds with
    | some ks => if (okSet ks || okTx ks) = true then some (.lst (unKs (ssetL ks))) else none
    | none => none
  | none => none
def bltD : Blt → D → Option D
  | .len, .lst ds => some (.int ds.length)
  | .len, .tup ds => some (.int ds.length)
  | .len, .str x => if x.length ≤ maxLen then some (.int x.length) else none
  | .tuple, .lst ds => mkT ds
  | .tuple, .tup ds => some (.tup ds)
  | .list, .lst ds => mkL ds
  | .list, .tup ds => mkL ds
  | .int, .int i => some (.int i)
  | .int, .bl b => some (.int (if b then 1 else 0))
  | .all, .lst ds => (bls ds).map fun bs => .bl (bs.all id)
  | .any, .lst ds => (bls ds).map fun bs => .bl (bs.any id)
  | .sorted, .lst ds => sortD ds
  | .repr, d => reprD d
  | .str, .int i => if i.natAbs.log2 < 1920 then some (.str (toString i)) else none
  | .str, .str x => some (.str x)
  | _, _ => none

def cutG {α : Type} (xs : List α) (lo hi : Option Int) : List α := (xs.drop (HT.sIx xs.length 0 lo)).take (HT.sIx xs.length xs.length hi - HT.sIx xs.length 0 lo)
def slcD : D → Option Int → Option Int → Option D
  | .lst ds, lo, hi => some (.lst (cutG ds lo hi))
  | .tup ds, lo, hi => some (.tup (cutG ds lo hi))
  | .str x, lo, hi => if x.length ≤ maxLen then some (.str (cutS x lo hi)) else none
  | _, _, _ => none
def revD : D → Option D
  | .lst ds => some (.lst ds.reverse)
  | .tup ds => some (.tup ds.reverse)
  | _ => none
def negD : D → Option D
  | .int i => some (.int (-i))
  | _ => none
def isNonD : D → Bool
  | .non => true
  | _ => false
def blD : D → Option Bool
  | .bl b => some b
  | _ => none
def getD (S : Sto) (k : Str) : D → Option D
  | .loc n => match S[n]? with
    | some (.dct kvs) => kvs.lookup k
    | _ => none
  | _ => none
def seqD : D → Option (List D)
  | .lst ds => some ds
  | .tup ds => some ds
  | _ => none
def rng1D : D → Option (List D)
  | .int j => rngD 0 j
  | _ => none
def rng2D : D → D → Option (List D)
  | .int i, .int j => rngD i j
  | _, _ => none
def mkDct (ks : List Str) (ds : List D) (S : Sto) : Mo D :=
  if ks.length = ds.length ∧ ks.Nodup then some (.ok (.loc S.length) (S ++ [.dct (ks.zip ds)])) else none

def unpE : List Nat → List D → Env → Env
  | i :: is, d :: ds, ρ => unpE is ds (ρ.set i (.val d))
  | _, _, ρ => ρ
/-- what a target makes of the slots -/
def bindT : Tg → D → Env → Option Env
  | .nm i, d, ρ => some (ρ.set i (.val d))
  | .tp is, .tup ds, ρ => if ds.length = is.length then some (unpE is ds ρ) else none
  | .tp _, _, _ => none
def signs (x : Str) : List D := x.cps.toList.map fun c => .str ⟨#[c]⟩
def iterD : D → Option (List D)
  | .lst ds => some ds
  | .tup ds => some ds
  | .str x => some (signs x)
  | _ => none
def enumD (ds : List D) : List D := (ds.zipIdx).map fun p => .tup [.int (p.2 : Int), p.1]

/-- things in another order -/
def permO {α : Type} : List Nat → List α → Option (List α)
  | [], _ => some []
  | i :: is, xs => match xs[i]?, permO is xs with
    | some x, some ys => some (x :: ys)
    | _, _ => none
def ownAt (ρ : Env) (i : Nat) : Option (List D) := match ρ[i]? with
  | some (.own ds) => some ds
  | _ => none
def cntD (ds : List D) (y : D) : Option D := if (y.flat && ds.all D.flat) = true then some (.int (ds.countP fun z => eqV1 z y : Nat)) else none
/-- the number under which the error that is held is named -/
def eN : Nat := 1000000
def isErr : D → Bool
  | .fn n => decide (n = eN)
  | _ => false
/-- what the error that is held is asked -/
def excC (G : Tab) (k : Nat) (x : D) : Option D := if isErr x = true then (match G.exn with
  | some (c, _) => (G.isc c k).map D.bl
  | none => none) else none
def excF (G : Tab) (f : Str) (x : D) : Option D := if isErr x = true then (match G.exn with
  | some (_, fs) => fs.lookup f
  | none => none) else none
mutual
def evE (G : Tab) : CE → Env → Sto → Mo D
  | .cst d, _, S => some (.ok d S)
  | .var i, ρ, S => match ρ[i]? with
    | some (.val d) => some (.ok d S)
    | _ => none
  | .pk i, ρ, S => match ρ[i]? with
    | some (.own ds) => some (.ok (.lst ds) S)
    | _ => none
  | .fn n, _, S => some (.ok (.fn n) S)
  | .gc n, _, S => lift (G.gc n) S
  | .tup es, ρ, S => rb (evEs G es ρ S) fun ds S => lift (mkT ds) S
  | .lst es, ρ, S => rb (evEs G es ρ S) fun ds S => lift (mkL ds) S
  | .bin o a b, ρ, S => rb (evE G a ρ S) fun x S => rb (evE G b ρ S) fun y S => lift (bop o x y) S
  | .cat a b, ρ, S => rb (evE G a ρ S) fun x S => rb (evE G b ρ S) fun y S => lift (catD x y) S
  | .neg a, ρ, S => rb (evE G a ρ S) fun x S => lift (negD x) S
  | .cmp o a b, ρ, S => rb (evE G a ρ S) fun x S => rb (evE G b ρ S) fun y S => lift ((cop o x y).map .bl) S
  | .cmp2 o o' a b c, ρ, S => rb (evE G a ρ S) fun x S => rb (evE G b ρ S) fun y S => rb (lift (cop o x y) S) fun k S =>
      if k then rb (evE G c ρ S) fun z S => lift ((cop o' y z).map .bl) S else some (.ok (.bl false) S)
  | .isN ng a, ρ, S => rb (evE G a ρ S) fun x S => some (.ok (.bl (if ng then !isNonD x else isNonD x)) S)
  | .isB c a, ρ, S => rb (evE G a ρ S) fun x S => lift ((blD x).map fun b => .bl (decide (b = c))) S
  | .bool k es, ρ, S => rb (evBs G k es ρ S) fun b S => some (.ok (.bl b) S)
  | .not a, ρ, S => rb (evE G a ρ S) fun x S => lift ((blD x).map fun b => .bl (!b)) S
  | .ite t a b, ρ, S => rb (evT G t ρ S) fun c S => if c then evE G a ρ S else evE G b ρ S
  | .idx a i, ρ, S => rb (evE G a ρ S) fun x S => rb (evE G i ρ S) fun y S => lift (idxD x y) S
  | .slc a lo hi, ρ, S => rb (evE G a ρ S) fun x S => rb (evO G lo ρ S) fun l S => rb (evO G hi ρ S) fun h S => lift (slcD x l h) S
  | .rev a, ρ, S => rb (evE G a ρ S) fun x S => lift (revD x) S
  | .call f es, ρ, S => rb (evEs G es ρ S) fun ds S => G.f f ds S
  | .callK f _ is es, ρ, S => rb (evEs G es ρ S) fun ds S => match permO is ds with
    | some zs => G.f f zs S
    | none => none
  | .blt b a, ρ, S => rb (evE G a ρ S) fun x S => lift (bltD b x) S
  | .sset a, ρ, S => rb (evE G a ρ S) fun x S => lift (ssetD x) S
  | .said k e, ρ, S => if isTab S k = true then saidM G.rf (evE G.low e ρ S) else none
  | .isa a t, ρ, S => rb (evE G a ρ S) fun x S => lift ((tyN x).map fun _ => .bl (isaD t x)) S
  | .comp e t it ifs, ρ, S => rb (evI G it ρ S) fun xs S => rb (compM (fun x S => match bindT t x ρ with
      | some ρ' => rb (evTs G ifs ρ' S) fun b S => if b = true then rb (evE G e ρ' S) fun d S => some (.ok (some d) S) else some (.ok none S)
      | none => none) xs [] S) fun ds S => some (.ok (.lst ds) S)
  | .cnt i a, ρ, S => match ownAt ρ i with
    | some ds => rb (evE G a ρ S) fun y S => lift (cntD ds y) S
    | none => none
  | .isaC a k, ρ, S => rb (evE G a ρ S) fun x S => lift (excC G k x) S
  | .fld a f, ρ, S => rb (evE G a ρ S) fun x S => lift (excF G f x) S
  | .dget a k, ρ, S => rb (evE G a ρ S) fun x S => lift (getD S k x) S
  | .dct ks es, ρ, S => rb (evEs G es ρ S) fun ds S => mkDct ks ds S
/-- and, or, of bools -/
def evBs (G : Tab) (conj : Bool) : CEs → Env → Sto → Mo Bool
  | .nil, _, S => some (.ok conj S)
  | .cons e es, ρ, S => rb (evE G e ρ S) fun x S => rb (lift (blD x) S) fun b S => if b = conj then evBs G conj es ρ S else some (.ok b S)
def evT (G : Tab) : CT → Env → Sto → Mo Bool
  | .val e, ρ, S => rb (evE G e ρ S) fun x S => lift x.truth S
  | .bool k ts, ρ, S => evB G k ts ρ S
  | .not t, ρ, S => rb (evT G t ρ S) fun b S => some (.ok (!b) S)
/-- and, or, over tests -/
def evB (G : Tab) (conj : Bool) : CTs → Env → Sto → Mo Bool
  | .nil, _, S => some (.ok conj S)
  | .cons t ts, ρ, S => rb (evT G t ρ S) fun b S => if b = conj then evB G conj ts ρ S else some (.ok b S)
/-- a comprehension's tests: all of them -/
def evTs (G : Tab) : CTs → Env → Sto → Mo Bool
  | .nil, _, S => some (.ok true S)
  | .cons t ts, ρ, S => rb (evT G t ρ S) fun b S => if b = true then evTs G ts ρ S else some (.ok false S)
def evEs (G : Tab) : CEs → Env → Sto → Mo (List D)
  | .nil, _, S => some (.ok [] S)
  | .cons e es, ρ, S => rb (evE G e ρ S) fun d S => rb (evEs G es ρ S) fun ds S => some (.ok (d :: ds) S)
def evO (G : Tab) : CEo → Env → Sto → Mo (Option Int)
  | .no, _, S => some (.ok none S)
  | .so e, ρ, S => rb (evE G e ρ S) fun d S => match d with
    | .int i => some (.ok (some i) S)
    | _ => none
def evI (G : Tab) : CI → Env → Sto → Mo (List D)
  | .ex e, ρ, S => rb (evE G e ρ S) fun d S => lift (iterD d) S
  | .enum e, ρ, S => rb (evE G e ρ S) fun d S => lift ((seqD d).map enumD) S
  | .rng e, ρ, S => rb (evE G e ρ S) fun d S => lift (rng1D d) S
  | .rng2 a b, ρ, S => rb (evE G a ρ S) fun x S => rb (evE G b ρ S) fun y S => lift (rng2D x y) S
end

/-! ### statements -/
def lstD : D → Option (List D)
  | .lst ds => some ds
  | _ => none
def intD : D → Option Int
  | .int i => some i
  | _ => none
mutual
inductive CS where
  | asg (i : Nat) (e : CE)
  | asgO (i : Nat) (e : CE)
  | unp (t : Tg) (e : CE)
  | expr (e : CE)
  | ifs (t : CT) (a b : CSs)
  | ret (e : CE)
  | retN
  | retO (i : Nat)
  | for1 (t : Tg) (it : CI) (b : CSs)
  | whl (fuel : Nat) (t : CT) (b : CSs)
  | app (i : Nat) (e : CE)
  | ext (i : Nat) (e : CE)
  | seti (i : Nat) (k e : CE)
  | dput (d : CE) (k : Str) (e : CE)
  | raise (c : Nat) (es : CEs)
  | frz (i : Nat)
  | pass | brk | cont
inductive CSs where
  | nil | cons (s : CS) (ss : CSs)
end

inductive FR where
  | nx (ρ : Env) (S : Sto)
  | rt (d : D) (S : Sto)
  | bk (ρ : Env) (S : Sto)
  | ct (ρ : Env) (S : Sto)
  | ex (x : Exc) (S : Sto)
abbrev Fo := Option FR
def fb (o : Fo) (f : Env → Sto → Fo) : Fo := match o with
  | some (.nx ρ S) => f ρ S
  | o => o
/-- a value, then the rest -/
def vb {α : Type} (o : Mo α) (f : α → Sto → Fo) : Fo := match o with
  | none => none
  | some (.ok a S) => f a S
  | some (.ex x S) => some (.ex x S)
def forM (body : D → Env → Sto → Fo) : List D → Env → Sto → Fo
  | [], ρ, S => some (.nx ρ S)
  | x :: xs, ρ, S => match body x ρ S with
    | some (.nx ρ' S') => forM body xs ρ' S'
    | some (.ct ρ' S') => forM body xs ρ' S'
    | some (.bk ρ' S') => some (.nx ρ' S')
    | o => o
def whlM (t : Env → Sto → Mo Bool) (body : Env → Sto → Fo) : Nat → Env → Sto → Fo
  | 0, _, _ => none
  | n + 1, ρ, S => vb (t ρ S) fun b S => if b then (match body ρ S with
    | some (.nx ρ' S') => whlM t body n ρ' S'
    | some (.ct ρ' S') => whlM t body n ρ' S'
    | some (.bk ρ' S') => some (.nx ρ' S')
    | o => o) else some (.nx ρ S)
def putK (k : Str) (d : D) (kvs : List (Str × D)) : List (Str × D) := kvs.map fun kv => if kv.1 = k then (kv.1, d) else kv
def putD (S : Sto) (k : Str) (d : D) : D → Option Sto
  | .loc n => match S[n]? with
    | some (.dct kvs) => if (kvs.lookup k).isSome ∧ kvs.length < maxLen then some (S.set n (.dct (putK k d kvs))) else none
    | _ => none
  | _ => none
mutual
def evS (G : Tab) : CS → Env → Sto → Fo
  | .asg i e, ρ, S => vb (evE G e ρ S) fun d S => some (.nx (ρ.set i (.val d)) S)
  | .asgO i e, ρ, S => vb (evE G e ρ S) fun d S => match lstD d with
    | some ds => some (.nx (ρ.set i (.own ds)) S)
    | none => none
  | .unp t e, ρ, S => vb (evE G e ρ S) fun d S => match bindT t d ρ with
    | some ρ' => some (.nx ρ' S)
    | none => none
  | .expr e, ρ, S => vb (evE G e ρ S) fun _ S => some (.nx ρ S)
  | .ifs t a b, ρ, S => vb (evT G t ρ S) fun c S => if c then evSs G a ρ S else evSs G b ρ S
  | .ret e, ρ, S => vb (evE G e ρ S) fun d S => some (.rt d S)
  | .retN, _, S => some (.rt .non S)
  | .retO i, ρ, S => match ownAt ρ i with
    | some ds => some (.rt (.lst ds) S)
    | none => none
  | .for1 t it b, ρ, S => vb (evI G it ρ S) fun xs S => forM (fun x ρ S => match bindT t x ρ with
    | some ρ' => evSs G b ρ' S
    | none => none) xs ρ S
  | .whl n t b, ρ, S => whlM (fun ρ S => evT G t ρ S) (fun ρ S => evSs G b ρ S) n ρ S
  | .app i e, ρ, S => match ownAt ρ i with
    | some ds => vb (evE G e ρ S) fun d S => if ds.length < maxLen then some (.nx (ρ.set i (.own (ds ++ [d]))) S) else none
    | none => none
  | .ext i e, ρ, S => match ownAt ρ i with
    | some ds => vb (evE G e ρ S) fun d S => match lstD d with
      | some es => if ds.length + es.length ≤ maxLen then some (.nx (ρ.set i (.own (ds ++ es))) S) else none
      | none => none
    | none => none
  | .seti i k e, ρ, S => match ownAt ρ i with
    | some ds => vb (evE G e ρ S) fun d S => vb (evE G k ρ S) fun j S => match intD j with
      | some n => if 0 ≤ n ∧ n < ds.length then some (.nx (ρ.set i (.own (ds.set n.toNat d))) S) else none
      | none => none
    | none => none
  | .dput a k e, ρ, S => vb (evE G e ρ S) fun d S => vb (evE G a ρ S) fun x S => match putD S k d x with
    | some S' => some (.nx ρ S')
    | none => none
  | .raise c es, ρ, S => vb (evEs G es ρ S) fun ds S => if ds.length = (G.xf c).length then some (.ex ⟨c, ((G.xf c).zip ds).reverse⟩ S) else none
  | .frz i, ρ, S => match ownAt ρ i with
    | some ds => some (.nx (ρ.set i (.val (.lst ds))) S)
    | none => none
  | .pass, ρ, S => some (.nx ρ S)
  | .brk, ρ, S => some (.bk ρ S)
  | .cont, ρ, S => some (.ct ρ S)
def evSs (G : Tab) : CSs → Env → Sto → Fo
  | .nil, ρ, S => some (.nx ρ S)
  | .cons s ss, ρ, S => fb (evS G s ρ S) fun ρ S => evSs G ss ρ S
end
end Mi
end

section
set_option linter.all false
set_option maxRecDepth 100000
set_option Elab.async false
/-! Mi2: what a short program's meaning says of the machine's run: the frame of the proofs. -/
namespace L2
open PySem
theorem PE.imp {X : Cx} {e : Expr} {t t' : TE} (h : PE X e t) (k : ∀ σ H Q, t' σ H Q → t σ H Q) : PE X e t' := ⟨fun pins s σ H Q I q => h.run pins s σ H Q I (k _ _ _ q)⟩
theorem PT.imp {X : Cx} {e : Expr} {t t' : TT} (h : PT X e t) (k : ∀ σ H Q, t' σ H Q → t σ H Q) : PT X e t' := ⟨fun pins s σ H Q I q => h.run pins s σ H Q I (k _ _ _ q)⟩
theorem PW.imp {X : Cx} {e : Expr} {t t' : TT} (h : PW X e t) (k : ∀ σ H Q, t' σ H Q → t σ H Q) : PW X e t' := ⟨fun wh pins s σ H Q I q => h.run wh pins s σ H Q I (k _ _ _ q)⟩
theorem PA.imp {X : Cx} {es : List Expr} {t t' : TA} (h : PA X es t) (k : ∀ σ H Q, t' σ H Q → t σ H Q) : PA X es t' := ⟨fun pos pins s σ H Q I q => h.run pos pins s σ H Q I (k _ _ _ q)⟩
theorem PS.imp {X : Cx} {st : Stmt} {t t' : TS} (h : PS X st t) (k : ∀ D σ H, t' D σ H → t D σ H) : PS X st t' := ⟨fun pins s σ H D I q => h.run pins s σ H D I (k _ _ _ q)⟩
theorem PSs.imp {X : Cx} {st : List Stmt} {t t' : TS} (h : PSs X st t) (k : ∀ D σ H, t' D σ H → t D σ H) : PSs X st t' := ⟨fun pins s σ H D I q => h.run pins s σ H D I (k _ _ _ q)⟩
theorem PI.imp {X : Cx} {tg it : Expr} {t t' : TI} (h : PI X tg it t) (k : ∀ σ H R, t' σ H R → t σ H R) : PI X tg it t' := ⟨fun pins s σ H R I q => h.run pins s σ H R I (k _ _ _ q)⟩
theorem PO.imp {X : Cx} {o : Option Expr} {t t' : TO} (h : PO X o t) (k : ∀ σ H R, t' σ H R → t σ H R) : PO X o t' := ⟨fun pins s σ H R I q => h.run pins s σ H R I (k _ _ _ q)⟩
end L2
namespace Mi
open PySem L2

/-- an error as it flies -/
def RepX (Γ : Wd) (μ : List Addr) (F : Hp) (cls : Value) (dc : Option Addr) (x : Exc) : Prop :=
  cls = .ref (Γ.ca x.c) ∧ ∃ d ws, dc = some d ∧ F d = some (.xd ws) ∧ RepF Γ μ F ws x.fs

/-- where we stand: names, the entry, the wish about errors -/
structure At where
  Γ : Wd
  E : En
  W : L2.WX

section
variable (B : At)
/-- what is left to be shown when a piece came to o -/
def Go {α : Type} (σ : St) (μ : List Addr) (F H : Hp) (o : Mo α) (P : α → Sto → List Addr → Hp → Hp → Prop) : Prop := match o with
  | none => False
  | some (.ok a S') => ∀ μ' F' H', Kp B.Γ ⟨μ, F, H⟩ μ' S' F' H' → P a S' μ' F' H'
  | some (.ex x S') => ∀ μ' F' H' cls dc, Kp B.Γ ⟨μ, F, H⟩ μ' S' F' H' → RepX B.Γ μ' F' cls dc x → B.W cls dc σ H'
end
section
variable {B : At} {α β : Type} {σ : St} {μ μ' : List Addr} {F F' H H' : Hp} {o : Mo α} {P P' : α → Sto → List Addr → Hp → Hp → Prop}
theorem Go.kp {S : Sto} (g : Kp B.Γ ⟨μ, F, H⟩ μ' S F' H') (h : Go B σ μ F H o P) : Go B σ μ' F' H' o P := by
  match o, h with
  | some (.ok a S'), h => exact fun μ2 F2 H2 k => h μ2 F2 H2 (g.trans k)
  | some (.ex x S'), h => exact fun μ2 F2 H2 c d k => h μ2 F2 H2 c d (g.trans k)
theorem Go.mono (h : Go B σ μ F H o P) (k : ∀ a S' μ' F' H', Kp B.Γ ⟨μ, F, H⟩ μ' S' F' H' → P a S' μ' F' H' → P' a S' μ' F' H') : Go B σ μ F H o P' := by
  match o, h with
  | some (.ok a S'), h => exact fun μ' F' H' g => k a S' μ' F' H' g (h μ' F' H' g)
  | some (.ex x S'), h => exact h
theorem Go.bind {o : Mo α} {f : α → Sto → Mo β} {P : β → Sto → List Addr → Hp → Hp → Prop} (h : Go B σ μ F H (rb o f) P) : Go B σ μ F H o fun a S' μ' F' H' => Go B σ μ' F' H' (f a S') P := by
  match o, h with
  | some (.ok a S'), h => exact fun μ' F' H' g => Go.kp g h
  | some (.ex x S'), h => exact h
theorem Go.ok {a : α} {S : Sto} (h : Go B σ μ F H (some (.ok a S)) P) (g : Kp B.Γ ⟨μ, F, H⟩ μ' S F' H') : P a S μ' F' H' := h μ' F' H' g
theorem Go.here {a : α} {S : Sto} (h : Go B σ μ F H (some (.ok a S)) P) (r : Sok B.Γ μ S F H) : P a S μ F H := h μ F H r.enter
theorem Go.lift {a : Option α} {S : Sto} (h : Go B σ μ F H (lift a S) P) : ∃ b, a = some b ∧ Go B σ μ F H (some (.ok b S)) P := by
  cases a with
  | none => exact h.elim
  | some b => exact ⟨b, rfl, h⟩
end

/-- a list of our own that is read: frozen, or live -/
def Live (Γ : Wd) (μ : List Addr) (F H : Hp) (a : Addr) (xs : List V) : Prop := SqL Γ.K F a xs ∨ (H a = some (.lst xs) ∧ a ∉ μ)
/-- a value, or such a list -/
def RepL (Γ : Wd) (μ : List Addr) (F H : Hp) (v : V) (d : D) : Prop := Rep Γ μ F v d ∨ ∃ a xs ds, v = .ref a ∧ d = .lst ds ∧ H a = some (.lst xs) ∧ a ∉ μ ∧ Reps Γ μ F xs ds
/-- a new list: nobody else has it; H: the heap ahead of it -/
def New (Γ : Wd) (H : Hp) (μ : List Addr) (F' H' : Hp) (v : V) (d : D) : Prop := ∃ a xs ds, v = .ref a ∧ d = .lst ds ∧ H a = none ∧ H' a = some (.lst xs) ∧ Reps Γ μ F' xs ds ∧ F' a = none ∧ a ∉ μ

section
variable (B : At)
def tE (m : Env → Sto → Mo D) : TE := fun σ H Q => ∃ μ S F ρ, Rel B.Γ B.E μ S F H ρ σ ∧ Go B σ μ F H (m ρ S) fun d _ μ' F' H' => ∀ v, Rep B.Γ μ' F' v d → Q v H'
def tW (m : Env → Sto → Mo D) : TE := fun σ H Q => ∃ μ S F ρ, Rel B.Γ B.E μ S F H ρ σ ∧ Go B σ μ F H (m ρ S) fun d _ μ' F' H' => ∀ v, RepL B.Γ μ' F' H' v d → Q v H'
def tN (m : Env → Sto → Mo D) : TE := fun σ H Q => ∃ μ S F ρ, Rel B.Γ B.E μ S F H ρ σ ∧ Go B σ μ F H (m ρ S) fun d _ μ' F' H' => ∀ v, New B.Γ H μ' F' H' v d → Q v H'
def tTt (m : Env → Sto → Mo Bool) : TT := fun σ H Q => ∃ μ S F ρ, Rel B.Γ B.E μ S F H ρ σ ∧ Go B σ μ F H (m ρ S) fun b _ _ _ H' => Q b H'
def tEs (m : Env → Sto → Mo (List D)) : TA := fun σ H Q => ∃ μ S F ρ, Rel B.Γ B.E μ S F H ρ σ ∧ Go B σ μ F H (m ρ S) fun ds _ μ' F' H' => ∀ vs, Reps B.Γ μ' F' vs ds → Q vs H'
def tOo (m : Env → Sto → Mo (Option Int)) : TO := fun σ H Q => ∃ μ S F ρ, Rel B.Γ B.E μ S F H ρ σ ∧ Go B σ μ F H (m ρ S) fun o _ _ _ H' => Q o H'
end

section
variable {B : At} {X : Cx} {e : Expr} {m : Env → Sto → Mo D}
/-- a new list is frozen -/
theorem New.freeze {Γ : Wd} {E : En} {μ : List Addr} {S : Sto} {F' H' : Hp} {v : V} {d : D} (n : New Γ E.H μ F' H' v d) (k : Kp Γ E μ S F' H') :
    ∃ F2, Kp Γ E μ S F2 H' ∧ Rep Γ μ F2 v d := by
  obtain ⟨a, xs, ds, rfl, rfl, h1, h2, h3, h4, h5⟩ := n
  have g : Gr μ F' μ (upd F' a (.lst xs)) := ⟨fun b u e => by rw [upd_ne (show b ≠ a from fun z => by rw [z, h4] at e; cases e)]; exact e, List.prefix_refl _⟩
  exact ⟨upd F' a (.lst xs), k.freeze h2 h1 h4 h5, .lst (SqL.of upd_same) (h3.gr g)⟩
theorem PE.frozen (h : PE X e (tN B m)) : PE X e (tE B m) := h.imp fun σ H Q ⟨μ, S, F, ρ, r, g⟩ => ⟨μ, S, F, ρ, r, by
  revert g
  match m ρ S with
  | none => exact id
  | some (.ex x S') => exact id
  | some (.ok d S') =>
    intro g μ' F' H' k v n
    obtain ⟨F2, k2, rp⟩ := New.freeze (E := ⟨μ, F, H⟩) n k
    exact g μ' F2 H' k2 v rp⟩
theorem PE.weak (h : PE X e (tE B m)) : PE X e (tW B m) := h.imp fun σ H Q ⟨μ, S, F, ρ, r, g⟩ => ⟨μ, S, F, ρ, r, g.mono fun d S' μ' F' H' _ k v rp => k v (.inl rp)⟩
end

/-! ### what is read of a list -/
section
variable {Γ : Wd} {μ μ' : List Addr} {F F' H H' : Hp} {v : V}
theorem RepL.non (h : RepL Γ μ F H v .non) : v = .non := by
  rcases h with h | ⟨_, _, _, _, h, _⟩
  · cases h; rfl
  · cases h
theorem RepL.bl {b : Bool} (h : RepL Γ μ F H v (.bl b)) : v = .bl b := by
  rcases h with h | ⟨_, _, _, _, h, _⟩
  · cases h; rfl
  · cases h
theorem RepL.int {i : Int} (h : RepL Γ μ F H v (.int i)) : v = .int i := by
  rcases h with h | ⟨_, _, _, _, h, _⟩
  · cases h; rfl
  · cases h
theorem RepL.str {x : Str} (h : RepL Γ μ F H v (.str x)) : v = .str x := by
  rcases h with h | ⟨_, _, _, _, h, _⟩
  · cases h; rfl
  · cases h
theorem RepL.tup {ds : List D} (h : RepL Γ μ F H v (.tup ds)) : ∃ a xs, v = .ref a ∧ SqT Γ.K F a xs ∧ Reps Γ μ F xs ds := by
  rcases h with h | ⟨_, _, _, _, h, _⟩
  · cases h with
    | tup h1 h2 => exact ⟨_, _, rfl, h1, h2⟩
  · cases h
theorem RepL.lst {ds : List D} (h : RepL Γ μ F H v (.lst ds)) : ∃ a xs, v = .ref a ∧ Live Γ μ F H a xs ∧ Reps Γ μ F xs ds := by
  rcases h with h | ⟨a, xs, ds', rfl, h, h1, h2, h3⟩
  · cases h with
    | lst h1 h2 => exact ⟨_, _, rfl, .inl h1, h2⟩
  · cases h
    exact ⟨a, xs, rfl, .inr ⟨h1, h2⟩, h3⟩
theorem sq_le {K : PySem.W.Frag} (le : ∀ a o, F a = some o → H a = some o) {a : Addr} {xs : List V} (h : SqL K F a xs) : SqL K H a xs := by
  rcases h with (h | ⟨o, h⟩) | h
  · exact .inl (.inl (le _ _ h))
  · exact .inl (.inr ⟨o, le _ _ h⟩)
  · exact .inr h
theorem st_le {K : PySem.W.Frag} (le : ∀ a o, F a = some o → H a = some o) {a : Addr} {xs : List V} (h : SqT K F a xs) : SqT K H a xs := by
  rcases h with (h | ⟨o, h⟩) | h
  · exact .inl (.inl (le _ _ h))
  · exact .inl (.inr ⟨o, le _ _ h⟩)
  · exact .inr h
theorem Live.sq {a : Addr} {xs : List V} (le : ∀ a o, F a = some o → H a = some o) (h : Live Γ μ F H a xs) : SqL Γ.K H a xs := by
  rcases h with h | h
  · exact sq_le le h
  · exact SqL.of h.1
/-- it stays over a piece that is entered here -/
theorem RepL.kp {S' : Sto} {d : D} (h : RepL Γ μ F H v d) (k : Kp Γ ⟨μ, F, H⟩ μ' S' F' H') : RepL Γ μ' F' H' v d := by
  rcases h with h | ⟨a, xs, ds, rfl, rfl, h1, h2, h3⟩
  · exact .inl (h.gr k.gr)
  · refine .inr ⟨a, xs, ds, rfl, rfl, k.base a _ h1 h2, fun hm => ?_, h3.gr k.gr⟩
    rcases k.mz a hm with z | z
    · exact h2 z
    · have z : H a = none := z
      rw [h1] at z; cases z
end
end Mi
end

section
set_option linter.all false
set_option maxRecDepth 100000
set_option Elab.async false
/-! Mi3: the pieces of expressions, one by one. -/
namespace Mi
open PySem L2
section
variable {B : At} {X : Cx} {e a b c : Expr} {ma mb mc : Env → Sto → Mo D} {pos : Pos}

/-! ### two operands, then something -/
theorem two {α : Type} {σ : St} {H : Hp} {ρ : Env} {μ : List Addr} {S : Sto} {F : Hp} {f : D → D → Sto → Mo α} {P : α → Sto → List Addr → Hp → Hp → Prop} {R : V → V → Hp → Prop}
    (r : Rel B.Γ B.E μ S F H ρ σ) (g : Go B σ μ F H (rb (ma ρ S) fun x S => rb (mb ρ S) fun y S => f x y S) P)
    (h : ∀ x y S2 μ2 F2 H2 v w, Rel B.Γ B.E μ2 S2 F2 H2 ρ σ → Kp B.Γ ⟨μ, F, H⟩ μ2 S2 F2 H2 → RepL B.Γ μ2 F2 H2 v x → RepL B.Γ μ2 F2 H2 w y → Go B σ μ2 F2 H2 (f x y S2) P → R v w H2) :
    tW B ma σ H fun v H1 => tW B mb σ H1 fun w H2 => R v w H2 := by
  refine ⟨μ, S, F, ρ, r, g.bind.mono fun x S1 μ1 F1 H1 k1 g1 v rv => ?_⟩
  refine ⟨μ1, S1, F1, ρ, r.step k1, g1.bind.mono fun y S2 μ2 F2 H2 k2 g2 w rw' => ?_⟩
  exact h x y S2 μ2 F2 H2 v w ((r.step k1).step k2) (k1.trans k2) (rv.kp k2) rw' g2

/-! ### names and constants -/
theorem s_var {i : Nat} {x : Str} (h : PE X (.Name x pos) (tVar i)) : PE X (.Name x pos) (tE B fun ρ S => match ρ[i]? with | some (.val d) => some (.ok d S) | _ => none) := by
  refine h.imp fun σ H Q ⟨μ, S, F, ρ, r, g⟩ => ?_
  cases q : ρ[i]? with
  | none => simp only [q] at g; exact g.elim
  | some sv =>
    cases sv with
    | non => simp only [q] at g; exact g.elim
    | own ds => simp only [q] at g; exact g.elim
    | val d =>
      simp only [q] at g
      obtain ⟨v, h1, h2⟩ := r.val i d q
      exact ⟨v, h1, g.here r.toSok v h2⟩
theorem s_pk {i : Nat} {x : Str} (h : PE X (.Name x pos) (tVar i)) : PE X (.Name x pos) (tW B fun ρ S => match ρ[i]? with | some (.own ds) => some (.ok (.lst ds) S) | _ => none) := by
  refine h.imp fun σ H Q ⟨μ, S, F, ρ, r, g⟩ => ?_
  cases q : ρ[i]? with
  | none => simp only [q] at g; exact g.elim
  | some sv =>
    cases sv with
    | non => simp only [q] at g; exact g.elim
    | val ds => simp only [q] at g; exact g.elim
    | own ds =>
      simp only [q] at g
      obtain ⟨a, xs, h1, h2, h3, h4, h5, h6⟩ := r.own i ds q
      exact ⟨.ref a, h1, g.here r.toSok _ (.inr ⟨a, xs, ds, rfl, rfl, h2, h6, h3⟩)⟩
theorem s_cst {v : V} {d : D} (h : PE X e (tC v)) (hr : ∀ μ F, Rep B.Γ μ F v d) : PE X e (tE B fun _ S => some (.ok d S)) :=
  h.imp fun σ H Q ⟨μ, S, F, ρ, r, g⟩ => g.here r.toSok v (hr _ _)
theorem s_glb {v : V} (h : PE X e (tC v)) {o : Option D} (hr : ∀ d, o = some d → ∀ μ F, Rep B.Γ μ F v d) : PE X e (tE B fun _ S => lift o S) :=
  h.imp fun σ H Q ⟨μ, S, F, ρ, r, g⟩ => by
    obtain ⟨d, e, g⟩ := g.lift
    exact g.here r.toSok v (hr d e _ _)

/-! ### displays -/
theorem s_nil : PA X [] (tEs B fun _ S => some (.ok [] S)) :=
  pa_nil.imp fun σ H Q ⟨μ, S, F, ρ, r, g⟩ => g.here r.toSok [] .nil
theorem s_cons {es : List Expr} {ms : Env → Sto → Mo (List D)} (he : PE X e (tE B ma)) (hs : PA X es (tEs B ms)) (st : starEach (e :: es) X.env = (false, eval e X.env) :: starEach es X.env) :
    PA X (e :: es) (tEs B fun ρ S => rb (ma ρ S) fun d S => rb (ms ρ S) fun ds S => some (.ok (d :: ds) S)) := by
  refine (pa_cons he hs st).imp fun σ H Q ⟨μ, S, F, ρ, r, g⟩ => ?_
  refine ⟨μ, S, F, ρ, r, g.bind.mono fun d S1 μ1 F1 H1 k1 g1 v rv => ?_⟩
  refine ⟨μ1, S1, F1, ρ, r.step k1, g1.bind.mono fun ds S2 μ2 F2 H2 k2 g2 vs rvs => ?_⟩
  exact g2.here k2.toSok (v :: vs) (.cons (rv.gr k2.gr) rvs)
theorem mkT_some {ds : List D} {d : D} (h : mkT ds = some d) : ds.length ≤ sizeLine ∧ d = .tup ds := by
  unfold mkT maxLen at h
  split at h
  · cases h; exact ⟨‹_›, rfl⟩
  · cases h
theorem mkL_some {ds : List D} {d : D} (h : mkL ds = some d) : ds.length ≤ sizeLine ∧ d = .lst ds := by
  unfold mkL maxLen at h
  split at h
  · cases h; exact ⟨‹_›, rfl⟩
  · cases h
theorem s_tup {es : List Expr} {k : Nat} {ms : Env → Sto → Mo (List D)} (h : PA X es (tEs B ms)) : PE X (.Tuple es k pos) (tE B fun ρ S => rb (ms ρ S) fun ds S => lift (mkT ds) S) := by
  refine (pe_tup h).imp fun σ H Q ⟨μ, S, F, ρ, r, g⟩ => ?_
  refine ⟨μ, S, F, ρ, r, g.bind.mono fun ds S1 μ1 F1 H1 k1 g1 vs rvs => ?_⟩
  obtain ⟨d, e, g1⟩ := g1.lift
  obtain ⟨hl, rfl⟩ := mkT_some e
  refine ⟨by rw [rvs.length]; exact hl, fun p hp => ?_⟩
  exact g1 μ1 (upd F1 p (.tup vs)) _ (k1.toSok.enter.new hp) _ (.tup (SqT.of upd_same) (rvs.gr (k1.toSok.enter.new hp).gr))
theorem s_lst {es : List Expr} {ms : Env → Sto → Mo (List D)} (h : PA X es (tEs B ms)) : PE X (.List es pos) (tN B fun ρ S => rb (ms ρ S) fun ds S => lift (mkL ds) S) := by
  refine (pe_lst h).imp fun σ H Q ⟨μ, S, F, ρ, r, g⟩ => ?_
  refine ⟨μ, S, F, ρ, r, g.bind.mono fun ds S1 μ1 F1 H1 k1 g1 vs rvs => ?_⟩
  obtain ⟨d, e, g1⟩ := g1.lift
  obtain ⟨hl, rfl⟩ := mkL_some e
  refine ⟨by rw [rvs.length]; exact hl, fun p hp => ?_⟩
  obtain ⟨f1, f2, f3⟩ := k1.toSok.enter.fresh hp
  exact g1 μ1 F1 _ (k1.toSok.enter.mine f1 f2 f3) _ ⟨p, vs, ds, rfl, rfl, (k1.fresh hp).1, upd_same, rvs, f2, f3⟩

/-! ### arithmetic, + -/
/-- list + list, of lists that are read -/
def rCatR (K : PySem.W.Frag) : R2 := fun x y H Q => ∃ l b xs zs, x = .ref l ∧ y = .ref b ∧ SqL K H l xs ∧ SqL K H b zs ∧ xs.length + zs.length ≤ sizeLine ∧ ∀ p, H p = none → Q (.ref p) (upd H p (.lst (xs ++ zs)))
theorem op_catR : OpR X (binaryOp .Add) (rCatR X.K) := by
  intro pins s σ H x y v u Q I rx ry h
  obtain ⟨l, b, xs, zs, rfl, rfl, hl, hb, hz, q⟩ := h
  cases rx
  cases ry
  obtain ⟨its, r1, ⟨o1, n1, e1, c1, d1, t1⟩, z1⟩ := I.list hl
  obtain ⟨its2, r2, ⟨o2, n2, e2, c2, d2, t2⟩, z2⟩ := I.list hb
  have l1 := r1.length
  have l2 := r2.length
  obtain ⟨cls1, dd1, data1, sl1⟩ := o1
  obtain ⟨cls2, dd2, data2, sl2⟩ := o2
  simp only at c1 d1 t1 c2 d2 t2
  subst c1 d1 t1 c2 d2 t2
  refine PySem.concat_meets ⟨_, e1, rfl⟩ ⟨_, e2, rfl⟩ PySem.noFill_list_add PySem.seq_list_add PySem.F.slot_list_add PySem.F.entry_list_add (PySem.F.args_list_add_2 _ _)
    (PyProof.Rows.list_addW l b its.toArray its2.toArray n1 n2 none none sl1 sl2 (by simp; omega)) ⟨e1, e2, ?_⟩
  have ea : its.toArray ++ its2.toArray = (its ++ its2).toArray := by simp
  rw [ea]
  have I2 : Inv X pins σ (upd H s.heap.objs.size (.lst (xs ++ zs))) { s with heap := s.heap.push { cls := .type "list", data := .seq (its ++ its2).toArray } } :=
    I.laid (t' := s.toks) (o := .lst (xs ++ zs)) (fun b ob q => Heap.get?_push_of_some _ q) (Nat.le_refl _)
    ⟨by rw [List.length_append]; exact hz, _, _, r1.append r2, Heap.get?_push_size _ rfl⟩
  exact ⟨.ref _, _, I2, rfl, q _ (I.hok.fresh (Nat.le_refl _))⟩
end

section
variable {B : At} {X : Cx} {e a b c : Expr} {ma mb mc : Env → Sto → Mo D} {pos : Pos}
/-- what a value v of the data z makes of the wish: frozen | new -/
theorem done {σ : St} {μ : List Addr} {F H : Hp} {S : Sto} {z : D} {Q : VK} (g : Go B σ μ F H (some (.ok z S)) fun d _ μ' F' H' => ∀ v, Rep B.Γ μ' F' v d → Q v H') (k : Sok B.Γ μ S F H) {v : V} (h : Rep B.Γ μ F v z) : Q v H :=
  g.here k v h
theorem doneT {σ : St} {μ : List Addr} {F H : Hp} {S : Sto} {ds : List D} {xs : List V} {Q : VK} (g : Go B σ μ F H (some (.ok (.tup ds) S)) fun d _ μ' F' H' => ∀ v, Rep B.Γ μ' F' v d → Q v H') (k : Sok B.Γ μ S F H) (h : Reps B.Γ μ F xs ds) :
    ∀ p, H p = none → Q (.ref p) (upd H p (.tup xs)) := fun p hp =>
  g μ _ _ (k.enter.new hp) _ (.tup (SqT.of upd_same) (h.gr (k.enter.new hp).gr))
theorem doneL {σ : St} {μ : List Addr} {F H : Hp} {S : Sto} {ds : List D} {xs : List V} {Q : VK} (g : Go B σ μ F H (some (.ok (.lst ds) S)) fun d _ μ' F' H' => ∀ v, Rep B.Γ μ' F' v d → Q v H') (k : Sok B.Γ μ S F H) (h : Reps B.Γ μ F xs ds) :
    ∀ p, H p = none → Q (.ref p) (upd H p (.lst xs)) := fun p hp =>
  g μ _ _ (k.enter.new hp) _ (.lst (SqL.of upd_same) (h.gr (k.enter.new hp).gr))
theorem doneN {σ : St} {μ0 μ : List Addr} {F0 F H0 H : Hp} {S : Sto} {ds : List D} {xs : List V} {Q : VK} (g : Go B σ μ F H (some (.ok (.lst ds) S)) fun d _ μ' F' H' => ∀ v, New B.Γ H0 μ' F' H' v d → Q v H') (k : Kp B.Γ ⟨μ0, F0, H0⟩ μ S F H) (h : Reps B.Γ μ F xs ds) :
    ∀ p, H p = none → Q (.ref p) (upd H p (.lst xs)) := fun p hp => by
  obtain ⟨f1, f2, f3⟩ := k.toSok.enter.fresh hp
  exact g μ F _ (k.toSok.enter.mine f1 f2 f3) _ ⟨p, xs, ds, rfl, rfl, (k.fresh hp).1, upd_same, h, f2, f3⟩

theorem op_addAll : OpR X (binaryOp .Add) (fun x y H Q => ((∃ i j, x = .int i ∧ y = .int j ∧ Q (.int (i + j)) H) ∨ (∃ i j, x = .str i ∧ y = .str j ∧ i.length + j.length ≤ sizeLine ∧ Q (.str (i ++ j)) H)) ∨ (rCatR X.K x y H Q ∨ rCatA X.K x y H Q)) :=
  (op_add.or op_add_str).or (op_catR.or op_catA)
theorem s_add (hK : X.K = B.Γ.K) (ha : PE X a (tW B ma)) (hb : PE X b (tW B mb)) : PE X (.BinOp a .Add b pos) (tE B fun ρ S => rb (ma ρ S) fun x S => rb (mb ρ S) fun y S => lift (bop .add x y) S) := by
  refine (pe_op op_addAll ha hb).imp fun σ H Q ⟨μ, S, F, ρ, r, g⟩ => two r g fun x y S2 μ2 F2 H2 v w r2 k2 rv rw' g2 => ?_
  obtain ⟨z, hz, g2⟩ := g2.lift
  have le := r2.toSok.le
  match x, y, hz with
  | .int i, .int j, hz => cases hz; cases rv.int; cases rw'.int; exact .inl (.inl ⟨i, j, rfl, rfl, done g2 r2.toSok (.int _)⟩)
  | .str i, .str j, hz =>
    have hz : (if i.length + j.length ≤ maxLen then some (D.str (i ++ j)) else none) = some z := hz
    split at hz
    · cases hz; cases rv.str; cases rw'.str; exact .inl (.inr ⟨i, j, rfl, rfl, ‹_›, done g2 r2.toSok (.str _)⟩)
    · cases hz
  | .lst ds, .lst es, hz =>
    obtain ⟨hl, rfl⟩ := mkL_some hz
    obtain ⟨p, xs, rfl, h1, h2⟩ := rv.lst
    obtain ⟨q, ys, rfl, h3, h4⟩ := rw'.lst
    rw [hK]
    refine .inr (.inl ⟨p, q, xs, ys, rfl, rfl, h1.sq le, h3.sq le, ?_, doneL g2 r2.toSok (h2.append h4)⟩)
    rw [h2.length, h4.length, ← List.length_append]; exact hl
  | .tup ds, .tup es, hz =>
    obtain ⟨hl, rfl⟩ := mkT_some hz
    obtain ⟨p, xs, rfl, h1, h2⟩ := rv.tup
    obtain ⟨q, ys, rfl, h3, h4⟩ := rw'.tup
    rw [hK]
    refine .inr (.inr ⟨p, q, xs, ys, rfl, rfl, st_le le h1, st_le le h3, ?_, fun e => ?_, fun _ e => ?_, fun _ _ => doneT g2 r2.toSok (h2.append h4)⟩)
    · rw [h2.length, h4.length, ← List.length_append]; exact hl
    · subst e
      have : ds = [] := by have := h2.length; simpa using this.symm
      subst this
      exact done g2 r2.toSok (.tup h3 h4)
    · subst e
      have : es = [] := by have := h4.length; simpa using this.symm
      subst this
      refine done g2 r2.toSok (.tup h1 ?_)
      simpa using h2
/-- list + list: a new one -/
theorem s_cat (hK : X.K = B.Γ.K) (ha : PE X a (tW B ma)) (hb : PE X b (tW B mb)) : PE X (.BinOp a .Add b pos) (tN B fun ρ S => rb (ma ρ S) fun x S => rb (mb ρ S) fun y S => lift (catD x y) S) := by
  refine (pe_op op_catR ha hb).imp fun σ H Q ⟨μ, S, F, ρ, r, g⟩ => two r g fun x y S2 μ2 F2 H2 v w r2 k2 rv rw' g2 => ?_
  obtain ⟨z, hz, g2⟩ := g2.lift
  have le := r2.toSok.le
  match x, y, hz with
  | .lst ds, .lst es, hz =>
    obtain ⟨hl, rfl⟩ := mkL_some hz
    obtain ⟨p, xs, rfl, h1, h2⟩ := rv.lst
    obtain ⟨q, ys, rfl, h3, h4⟩ := rw'.lst
    rw [hK]
    refine ⟨p, q, xs, ys, rfl, rfl, h1.sq le, h3.sq le, ?_, doneN g2 k2 (h2.append h4)⟩
    rw [h2.length, h4.length, ← List.length_append]; exact hl
theorem s_sub (ha : PE X a (tW B ma)) (hb : PE X b (tW B mb)) : PE X (.BinOp a .Sub b pos) (tE B fun ρ S => rb (ma ρ S) fun x S => rb (mb ρ S) fun y S => lift (bop .sub x y) S) := by
  refine (pe_op op_sub ha hb).imp fun σ H Q ⟨μ, S, F, ρ, r, g⟩ => two r g fun x y S2 μ2 F2 H2 v w r2 k2 rv rw' g2 => ?_
  obtain ⟨z, hz, g2⟩ := g2.lift
  match x, y, hz with
  | .int i, .int j, hz => cases hz; cases rv.int; cases rw'.int; exact ⟨i, j, rfl, rfl, done g2 r2.toSok (.int _)⟩
theorem s_mul (ha : PE X a (tW B ma)) (hb : PE X b (tW B mb)) : PE X (.BinOp a .Mult b pos) (tE B fun ρ S => rb (ma ρ S) fun x S => rb (mb ρ S) fun y S => lift (bop .mul x y) S) := by
  refine (pe_op op_mul ha hb).imp fun σ H Q ⟨μ, S, F, ρ, r, g⟩ => two r g fun x y S2 μ2 F2 H2 v w r2 k2 rv rw' g2 => ?_
  obtain ⟨z, hz, g2⟩ := g2.lift
  match x, y, hz with
  | .int i, .int j, hz =>
    have hz : (if _ then _ else _) = some z := hz
    split at hz
    · cases hz; cases rv.int; cases rw'.int; exact ⟨i, j, rfl, rfl, ‹_›, done g2 r2.toSok (.int _)⟩
    · cases hz
theorem s_fdiv (ha : PE X a (tW B ma)) (hb : PE X b (tW B mb)) : PE X (.BinOp a .FloorDiv b pos) (tE B fun ρ S => rb (ma ρ S) fun x S => rb (mb ρ S) fun y S => lift (bop .fdiv x y) S) := by
  refine (pe_op op_fdiv ha hb).imp fun σ H Q ⟨μ, S, F, ρ, r, g⟩ => two r g fun x y S2 μ2 F2 H2 v w r2 k2 rv rw' g2 => ?_
  obtain ⟨z, hz, g2⟩ := g2.lift
  match x, y, hz with
  | .int i, .int j, hz =>
    have hz : (if _ then _ else _) = some z := hz
    split at hz
    · cases hz; cases rv.int; cases rw'.int; exact ⟨i, j, rfl, rfl, ‹_›, done g2 r2.toSok (.int _)⟩
    · cases hz
theorem s_mod (ha : PE X a (tW B ma)) (hb : PE X b (tW B mb)) : PE X (.BinOp a .Mod b pos) (tE B fun ρ S => rb (ma ρ S) fun x S => rb (mb ρ S) fun y S => lift (bop .mod x y) S) := by
  refine (pe_op op_mod ha hb).imp fun σ H Q ⟨μ, S, F, ρ, r, g⟩ => two r g fun x y S2 μ2 F2 H2 v w r2 k2 rv rw' g2 => ?_
  obtain ⟨z, hz, g2⟩ := g2.lift
  match x, y, hz with
  | .int i, .int j, hz =>
    have hz : (if _ then _ else _) = some z := hz
    split at hz
    · cases hz; cases rv.int; cases rw'.int; exact ⟨i, j, rfl, rfl, ‹_›, done g2 r2.toSok (.int _)⟩
    · cases hz
theorem s_pow (ha : PE X a (tW B ma)) (hb : PE X b (tW B mb)) : PE X (.BinOp a .Pow b pos) (tE B fun ρ S => rb (ma ρ S) fun x S => rb (mb ρ S) fun y S => lift (bop .pow x y) S) := by
  refine (pe_op op_pow ha hb).imp fun σ H Q ⟨μ, S, F, ρ, r, g⟩ => two r g fun x y S2 μ2 F2 H2 v w r2 k2 rv rw' g2 => ?_
  obtain ⟨z, hz, g2⟩ := g2.lift
  match x, y, hz with
  | .int i, .int j, hz =>
    have hz : (if _ then _ else _) = some z := hz
    split at hz
    · cases hz; cases rv.int; cases rw'.int; exact ⟨i, j, rfl, rfl, ‹_›, done g2 r2.toSok (.int _)⟩
    · cases hz
theorem s_neg (ha : PE X a (tW B ma)) : PE X (.UnaryOp .USub a pos) (tE B fun ρ S => rb (ma ρ S) fun x S => lift (negD x) S) := by
  refine (pe_un un_neg ha).imp fun σ H Q ⟨μ, S, F, ρ, r, g⟩ => ⟨μ, S, F, ρ, r, g.bind.mono fun x S1 μ1 F1 H1 k1 g1 v rv => ?_⟩
  obtain ⟨z, hz, g1⟩ := g1.lift
  match x, hz with
  | .int i, hz => cases hz; cases rv.int; exact ⟨i, rfl, done g1 k1.toSok (.int _)⟩
end
end Mi
end

section
set_option linter.all false
set_option maxRecDepth 100000
set_option Elab.async false
/-! Mi4: comparisons, tests, items, slices. -/
namespace Mi
open PySem L2

/-! ### data in the heap as the library reads it -/
mutual
theorem dp_of {Γ : Wd} {μ : List Addr} {F H : Hp} (le : ∀ a o, F a = some o → H a = some o) : ∀ (d : D) (v : V) (p : PyData), Rep Γ μ F v d → d.toPy = some p → Dp Γ.K H v p
  | .non, _, _, h, e => by cases h; cases e; exact .non
  | .bl b, _, _, h, e => by cases h; cases e; exact .bl b
  | .int i, _, _, h, e => by cases h; cases e; exact .int i
  | .str x, _, _, h, e => by cases h; cases e; exact .str x
  | .tup ds, _, _, h, e => by
    cases h with
    | tup h1 h2 =>
      unfold D.toPy at e
      cases q : D.toPys ds with
      | none => rw [q] at e; cases e
      | some ps => rw [q] at e; cases e; exact .tup (st_le le h1) (dps_of le ds _ ps h2 q)
  | .lst ds, _, _, h, e => by
    cases h with
    | lst h1 h2 =>
      unfold D.toPy at e
      cases q : D.toPys ds with
      | none => rw [q] at e; cases e
      | some ps => rw [q] at e; cases e; exact .lst (sq_le le h1) (dps_of le ds _ ps h2 q)
  | .loc _, _, _, _, e => by cases e
  | .fn _, _, _, _, e => by cases e
theorem dps_of {Γ : Wd} {μ : List Addr} {F H : Hp} (le : ∀ a o, F a = some o → H a = some o) : ∀ (ds : List D) (vs : List V) (ps : List PyData), Reps Γ μ F vs ds → D.toPys ds = some ps → DpAll Γ.K H vs ps
  | [], _, _, h, e => by
    cases h
    unfold D.toPys at e
    cases e; exact .nil
  | d :: ds, _, _, h, e => by
    cases h with
    | cons h1 h2 =>
      unfold D.toPys at e
      cases q : d.toPy with
      | none => rw [q] at e; cases e
      | some p =>
        cases q2 : D.toPys ds with
        | none => rw [q, q2] at e; cases e
        | some ps => rw [q, q2] at e; cases e; exact .cons (dp_of le d _ p h1 q) (dps_of le ds _ ps h2 q2)
end
theorem RepL.dp {Γ : Wd} {μ : List Addr} {F H : Hp} {v : V} {d : D} {p : PyData} (le : ∀ a o, F a = some o → H a = some o) (h : RepL Γ μ F H v d) (e : d.toPy = some p) : Dp Γ.K H v p := by
  rcases h with h | ⟨a, xs, ds, rfl, rfl, h1, _, h3⟩
  · exact dp_of le d v p h e
  · unfold D.toPy at e
    cases q : D.toPys ds with
    | none => rw [q] at e; cases e
    | some ps => rw [q] at e; cases e; exact .lst (SqL.of h1) (dps_of le ds _ ps h3 q)

section
variable {B : At} {X : Cx} {e a b c : Expr} {ma mb mc : Env → Sto → Mo D} {pos : Pos}

/-! ### ==, != -/
def rEqP (K : PySem.W.Frag) (ng : Bool) : R2 := fun x y H Q => ∃ d e, Dp K H x d ∧ Dp K H y e ∧ d.canLay0 = true ∧ e.canLay0 = true ∧ min d.depth e.depth ≤ 64 ∧ Q (.bl (if ng then !PyData.eqv d e else PyData.eqv d e)) H
theorem op_eqP (hu : X.A.units + 64 < cLine) : OpR X (compareOp .Eq) (rEqP X.K false) := by
  intro pins s σ H x y v u Q I rx ry h
  obtain ⟨d, e, hd, he, sd, se, hm, q⟩ := h
  obtain ⟨as, r1⟩ := Dp.reads I d x v hd rx
  obtain ⟨bs, r2⟩ := Dp.reads I e y u he ry
  exact SeqAt.compareEq_reads r1 r2 sd se (by omega) ⟨.bl _, H, I, rfl, q⟩
theorem op_neP (hu : X.A.units + 64 < cLine) : OpR X (compareOp .NotEq) (rEqP X.K true) := by
  intro pins s σ H x y v u Q I rx ry h
  obtain ⟨d, e, hd, he, sd, se, hm, q⟩ := h
  obtain ⟨as, r1⟩ := Dp.reads I d x v hd rx
  obtain ⟨bs, r2⟩ := Dp.reads I e y u he ry
  exact SeqAt.compareNe_reads r1 r2 sd se (by omega) ⟨.bl _, H, I, rfl, q⟩
theorem eqFl_some {Γ : Wd} {μ : List Addr} {F H : Hp} {x y : D} {k : Bool} (h : eqFl x y = some k) {v w : V} (rv : RepL Γ μ F H v x) (rw' : RepL Γ μ F H w y) : scal v w = true ∧ decide (v = w) = k := by
  cases x <;> cases y <;> first | (cases h; done) | skip
  · cases h; cases rv.non; cases rw'.non; exact ⟨rfl, by simp⟩
  · cases h; cases rv.non; cases rw'.bl; exact ⟨rfl, by simp⟩
  · cases h; cases rv.non; cases rw'.int; exact ⟨rfl, by simp⟩
  · cases h; cases rv.non; cases rw'.str; exact ⟨rfl, by simp⟩
  · cases h; cases rv.bl; cases rw'.non; exact ⟨rfl, by simp⟩
  · cases h; cases rv.bl; cases rw'.bl; exact ⟨rfl, by simp⟩
  · cases h; cases rv.bl; cases rw'.str; exact ⟨rfl, by simp⟩
  · cases h; cases rv.int; cases rw'.non; exact ⟨rfl, by simp⟩
  · cases h; cases rv.int; cases rw'.int; exact ⟨rfl, by simp⟩
  · cases h; cases rv.int; cases rw'.str; exact ⟨rfl, by simp⟩
  · cases h; cases rv.str; cases rw'.non; exact ⟨rfl, by simp⟩
  · cases h; cases rv.str; cases rw'.bl; exact ⟨rfl, by simp⟩
  · cases h; cases rv.str; cases rw'.int; exact ⟨rfl, by simp⟩
  · cases h; cases rv.str; cases rw'.str; exact ⟨rfl, by simp⟩
theorem eqD_some {Γ : Wd} {μ : List Addr} {F H : Hp} {x y : D} {k : Bool} (le : ∀ a o, F a = some o → H a = some o) (h : eqD x y = some k) {v w : V} (rv : RepL Γ μ F H v x) (rw' : RepL Γ μ F H w y) :
    (scal v w = true ∧ decide (v = w) = k) ∨ ∃ d e, Dp Γ.K H v d ∧ Dp Γ.K H w e ∧ d.canLay0 = true ∧ e.canLay0 = true ∧ min d.depth e.depth ≤ 64 ∧ PyData.eqv d e = k := by
  unfold eqD at h
  cases q : eqFl x y with
  | some b => rw [q] at h; cases h; exact .inl (eqFl_some q rv rw')
  | none =>
    rw [q] at h
    cases q1 : x.toPy with
    | none => rw [q1] at h; cases h
    | some p =>
      cases q2 : y.toPy with
      | none => rw [q1, q2] at h; cases h
      | some p2 =>
        rw [q1, q2] at h
        have h : eqPy p p2 = some k := h
        unfold eqPy at h
        split at h
        · rename_i hc
          cases h
          exact .inr ⟨p, p2, rv.dp le q1, rw'.dp le q2, hc.1, hc.2.1, hc.2.2, rfl⟩
        · cases h

/-! ### in -/
def rInP (K : PySem.W.Frag) (ng : Bool) : R2 := fun x y H Q => ∃ d ds, Dp K H x d ∧ (Dp K H y (.list ds) ∨ Dp K H y (.tuple ds)) ∧ d.canLay0 = true ∧ PyData.canLayAll0 ds = true ∧ min (PyData.depthAll ds) d.depth ≤ 64 ∧
  Q (.bl (if ng then !ds.any (fun z => PyData.eqv z d) else ds.any fun z => PyData.eqv z d)) H
theorem op_inP (hu : X.A.units + 65 < cLine) : OpR X (compareOp .In) (rInP X.K false) := by
  intro pins s σ H x y v u Q I rx ry h
  obtain ⟨d, ds, hd, he, sd, se, hm, q⟩ := h
  obtain ⟨as, r1⟩ := Dp.reads I d x v hd rx
  rcases he with he | he
  · obtain ⟨bs, r2⟩ := Dp.reads I _ y u he ry
    exact SeqAt.in_list_reads r2 r1 se sd (by omega) ⟨.bl _, H, I, rfl, q⟩
  · obtain ⟨bs, r2⟩ := Dp.reads I _ y u he ry
    exact SeqAt.in_tuple_reads r2 r1 se sd (by omega) ⟨.bl _, H, I, rfl, q⟩
theorem op_ninP (hu : X.A.units + 65 < cLine) : OpR X (compareOp .NotIn) (rInP X.K true) := by
  intro pins s σ H x y v u Q I rx ry h
  obtain ⟨d, ds, hd, he, sd, se, hm, q⟩ := h
  obtain ⟨as, r1⟩ := Dp.reads I d x v hd rx
  rcases he with he | he
  · obtain ⟨bs, r2⟩ := Dp.reads I _ y u he ry
    exact SeqAt.notIn_list_reads r2 r1 se sd (by omega) ⟨.bl _, H, I, rfl, q⟩
  · obtain ⟨bs, r2⟩ := Dp.reads I _ y u he ry
    exact SeqAt.notIn_tuple_reads r2 r1 se sd (by omega) ⟨.bl _, H, I, rfl, q⟩
theorem flat_V {Γ : Wd} {μ : List Addr} {F H : Hp} {x : D} {v : V} (h : x.flat = true) (r : RepL Γ μ F H v x) : flatV v = true := by
  cases x <;> first | (cases h; done) | skip
  · cases r.non; rfl
  · cases r.bl; rfl
  · cases r.int; rfl
  · cases r.str; rfl
theorem eqV_flat {Γ : Wd} {μ : List Addr} {F H : Hp} {x y : D} {v w : V} (hx : x.flat = true) (hy : y.flat = true) (r : RepL Γ μ F H v x) (r' : RepL Γ μ F H w y) : eqV v w = eqV1 x y := by
  cases x <;> first | (cases hx; done) | skip
  · cases r.non
    cases y <;> first | (cases hy; done) | skip
    · cases r'.non; rfl
    · cases r'.bl; rfl
    · cases r'.int; rfl
    · cases r'.str; rfl
  · cases r.bl
    cases y <;> first | (cases hy; done) | skip
    · cases r'.non; rfl
    · cases r'.bl; rfl
    · cases r'.int; rfl
    · cases r'.str; rfl
  · cases r.int
    cases y <;> first | (cases hy; done) | skip
    · cases r'.non; rfl
    · cases r'.bl; rfl
    · cases r'.int; rfl
    · cases r'.str; rfl
  · cases r.str
    cases y <;> first | (cases hy; done) | skip
    · cases r'.non; rfl
    · cases r'.bl; rfl
    · cases r'.int; rfl
    · cases r'.str; rfl
theorem in_flat {Γ : Wd} {μ : List Addr} {F H : Hp} {x : D} {v : V} (hx : x.flat = true) (r : RepL Γ μ F H v x) : ∀ {ds : List D} {xs : List V}, Reps Γ μ F xs ds → ds.all D.flat = true → xs.all flatV = true ∧ inV v xs = ds.any fun y => eqV1 y x
  | [], _, h, _ => by cases h; exact ⟨rfl, rfl⟩
  | d :: ds, _, h, f => by
    cases h with
    | cons h1 h2 =>
      rw [List.all_cons, Bool.and_eq_true] at f
      obtain ⟨i1, i2⟩ := in_flat hx r h2 f.2
      refine ⟨by rw [List.all_cons, flat_V (H := H) f.1 (.inl h1), i1]; rfl, ?_⟩
      unfold inV at i2 ⊢
      rw [List.any_cons, List.any_cons, i2, eqV_flat (H := H) f.1 hx (.inl h1) r]
/-- of lists and tuples at once -/
theorem RepL.seq {Γ : Wd} {μ : List Addr} {F H : Hp} {v : V} {d : D} {ds : List D} (le : ∀ a o, F a = some o → H a = some o) (h : RepL Γ μ F H v d) (e : d = .lst ds ∨ d = .tup ds) : ∃ a xs, v = .ref a ∧ (SqL Γ.K H a xs ∨ SqT Γ.K H a xs) ∧ Reps Γ μ F xs ds := by
  rcases e with rfl | rfl
  · obtain ⟨a, xs, rfl, h1, h2⟩ := h.lst
    exact ⟨a, xs, rfl, .inl (h1.sq le), h2⟩
  · obtain ⟨a, xs, rfl, h1, h2⟩ := h.tup
    exact ⟨a, xs, rfl, .inr (st_le le h1), h2⟩
theorem inD_some {Γ : Wd} {μ : List Addr} {F H : Hp} {x y : D} {ys : List D} {k : Bool} (le : ∀ a o, F a = some o → H a = some o) (hy : y = .lst ys ∨ y = .tup ys) (h : inD x ys = some k) {v w : V} (rv : RepL Γ μ F H v x) (rw' : RepL Γ μ F H w y) :
    (∃ p xs, w = .ref p ∧ (SqL Γ.K H p xs ∨ SqT Γ.K H p xs) ∧ flatV v = true ∧ xs.all flatV = true ∧ inV v xs = k) ∨
    (∃ d ds, Dp Γ.K H v d ∧ (Dp Γ.K H w (.list ds) ∨ Dp Γ.K H w (.tuple ds)) ∧ d.canLay0 = true ∧ PyData.canLayAll0 ds = true ∧ min (PyData.depthAll ds) d.depth ≤ 64 ∧ (ds.any fun z => PyData.eqv z d) = k) := by
  unfold inD at h
  split at h
  · rename_i hf
    rw [Bool.and_eq_true] at hf
    cases h
    obtain ⟨a, xs, rfl, h1, h2⟩ := rw'.seq le hy
    obtain ⟨i1, i2⟩ := in_flat hf.1 rv h2 hf.2
    exact .inl ⟨a, xs, rfl, h1, flat_V hf.1 rv, i1, i2⟩
  · cases q1 : x.toPy with
    | none => rw [q1] at h; cases h
    | some p =>
      cases q2 : D.toPys ys with
      | none => rw [q1, q2] at h; cases h
      | some ps =>
        rw [q1, q2] at h
        have h : (if p.canLay0 = true ∧ PyData.canLayAll0 ps = true ∧ min (PyData.depthAll ps) p.depth ≤ 64 then some (ps.any fun q => PyData.eqv q p) else none) = some k := h
        split at h
        · rename_i hc
          cases h
          refine .inr ⟨p, ps, rv.dp le q1, ?_, hc.1, hc.2.1, hc.2.2, rfl⟩
          rcases hy with rfl | rfl
          · exact .inl (rw'.dp le (by unfold D.toPy; rw [q2]; rfl))
          · exact .inr (rw'.dp le (by unfold D.toPy; rw [q2]; rfl))
        · cases h

/-! ### < of data -/
def rLtP (K : PySem.W.Frag) : R2 := fun x y H Q => ∃ d e, Dp K H x d ∧ Dp K H y e ∧ PySem.W.alike d e = true ∧ d ≠ .none ∧ min d.depth e.depth ≤ 64 ∧ Q (.bl (PySem.W.dataLt d e)) H
theorem op_ltP (hu : X.A.units + 64 < cLine) : OpR X (compareOp .Lt) (rLtP X.K) := by
  intro pins s σ H x y v u Q I rx ry h
  obtain ⟨d, e, hd, he, sd, se, hm, q⟩ := h
  obtain ⟨as, r1⟩ := Dp.reads I d x v hd rx
  obtain ⟨bs, r2⟩ := Dp.reads I e y u he ry
  exact PySem.W.rcLt_alike d e X.A s v u as bs r1 r2 sd se (by omega) X.prog X.w X.xe _ ⟨.bl _, H, I, rfl, q⟩

/-! ### all comparisons -/
def cmpOp : Cop → CmpOp
  | .eq => .Eq | .ne => .NotEq | .lt => .Lt | .le => .LtE | .gt => .Gt | .ge => .GtE | .inn => .In | .nin => .NotIn
def rCop (K : PySem.W.Frag) : Cop → R2
  | .eq => fun x y H Q => rEq x y H Q ∨ rEqP K false x y H Q
  | .ne => fun x y H Q => rNe x y H Q ∨ rEqP K true x y H Q
  | .lt => fun x y H Q => ((∃ i j, x = .int i ∧ y = .int j ∧ Q (.bl (decide (i < j))) H) ∨ (∃ i j, x = .str i ∧ y = .str j ∧ Q (.bl (decide (i.cps.toList < j.cps.toList))) H)) ∨ rLtP K x y H Q
  | .le => fun x y H Q => ∃ i j, x = .int i ∧ y = .int j ∧ Q (.bl (decide (i ≤ j))) H
  | .gt => fun x y H Q => ∃ i j, x = .int i ∧ y = .int j ∧ Q (.bl (decide (j < i))) H
  | .ge => fun x y H Q => ∃ i j, x = .int i ∧ y = .int j ∧ Q (.bl (decide (j ≤ i))) H
  | .inn => fun x y H Q => (rIn K false x y H Q ∨ rInP K false x y H Q) ∨ ∃ i j, x = .str i ∧ y = .str j ∧ Q (.bl (inS i j)) H
  | .nin => fun x y H Q => (rIn K true x y H Q ∨ rInP K true x y H Q) ∨ ∃ i j, x = .str i ∧ y = .str j ∧ Q (.bl (!inS i j)) H
theorem op_cop (hu : X.A.units + 65 < cLine) (o : Cop) : OpR X (compareOp (cmpOp o)) (rCop X.K o) := by
  cases o with
  | eq => exact op_eq.or (op_eqP (by omega))
  | ne => exact op_ne.or (op_neP (by omega))
  | lt => exact (op_lt.or op_lt_str).or (op_ltP (by omega))
  | le => exact op_le
  | gt => exact op_gt
  | ge => exact op_ge
  | inn => exact (op_in_seq.or (op_inP hu)).or op_in_str
  | nin => exact (op_notIn_seq.or (op_ninP hu)).or op_notIn_str
theorem rCop_some {Γ : Wd} {μ : List Addr} {F H : Hp} {o : Cop} {x y : D} {k : Bool} (le : ∀ a o, F a = some o → H a = some o) (h : cop o x y = some k) {v w : V} (rv : RepL Γ μ F H v x) (rw' : RepL Γ μ F H w y) {Q : VK} (q : Q (.bl k) H) : rCop Γ.K o v w H Q := by
  cases o with
  | eq =>
    rcases eqD_some le h rv rw' with ⟨h1, h2⟩ | ⟨d, e, h1, h2, h3, h4, h5, h6⟩
    · exact .inl ⟨h1, by rw [h2]; exact q⟩
    · exact .inr ⟨d, e, h1, h2, h3, h4, h5, by rw [h6]; exact q⟩
  | ne =>
    have h : (eqD x y).map (!·) = some k := h
    cases q0 : eqD x y with
    | none => rw [q0] at h; cases h
    | some j =>
      rw [q0] at h; cases h
      rcases eqD_some le q0 rv rw' with ⟨h1, h2⟩ | ⟨d, e, h1, h2, h3, h4, h5, h6⟩
      · exact .inl ⟨h1, by rw [h2]; exact q⟩
      · exact .inr ⟨d, e, h1, h2, h3, h4, h5, by rw [h6]; exact q⟩
  | lt =>
    have h : ltD x y = some k := h
    match x, y, h with
    | .int i, .int j, h => cases h; cases rv.int; cases rw'.int; exact .inl (.inl ⟨i, j, rfl, rfl, q⟩)
    | .str i, .str j, h => cases h; cases rv.str; cases rw'.str; exact .inl (.inr ⟨i, j, rfl, rfl, q⟩)
    | .tup ds, .tup es, h =>
      unfold ltD at h
      cases q1 : D.toPys ds with
      | none => simp only [q1] at h; cases h
      | some ps =>
        cases q2 : D.toPys es with
        | none => simp only [q1, q2] at h; cases h
        | some qs =>
          simp only [q1, q2] at h
          split at h
          · rename_i hc
            cases h
            exact .inr ⟨.tuple ps, .tuple qs, rv.dp le (by unfold D.toPy; rw [q1]; rfl), rw'.dp le (by unfold D.toPy; rw [q2]; rfl), hc.1, (fun z => nomatch z), hc.2, q⟩
          · cases h
  | le =>
    match x, y, h with
    | .int i, .int j, h => cases h; cases rv.int; cases rw'.int; exact ⟨i, j, rfl, rfl, q⟩
  | gt =>
    match x, y, h with
    | .int i, .int j, h => cases h; cases rv.int; cases rw'.int; exact ⟨i, j, rfl, rfl, q⟩
  | ge =>
    match x, y, h with
    | .int i, .int j, h => cases h; cases rv.int; cases rw'.int; exact ⟨i, j, rfl, rfl, q⟩
  | inn =>
    have go : ∀ ys, (y = .lst ys ∨ y = .tup ys) → inD x ys = some k → rCop Γ.K .inn v w H Q := fun ys hy h => by
      rcases inD_some le hy h rv rw' with ⟨p, xs, h1, h2, h3, h4, h5⟩ | ⟨d, e, h1, h2, h3, h4, h5, h6⟩
      · exact .inl (.inl ⟨p, xs, h1, h2, h3, h4, by rw [h5]; exact q⟩)
      · exact .inl (.inr ⟨d, e, h1, h2, h3, h4, h5, by rw [h6]; exact q⟩)
    cases y with
    | lst ys => exact go ys (.inl rfl) (by cases x <;> exact h)
    | tup ys => exact go ys (.inr rfl) (by cases x <;> exact h)
    | str j =>
      cases x <;> first | (cases h; done) | skip
      rename_i i
      cases h; cases rv.str; cases rw'.str
      exact .inr ⟨i, j, rfl, rfl, q⟩
    | _ => cases x <;> cases h
  | nin =>
    have go : ∀ ys j, (y = .lst ys ∨ y = .tup ys) → inD x ys = some j → (!j) = k → rCop Γ.K .nin v w H Q := fun ys j hy hin e => by
      subst e
      rcases inD_some le hy hin rv rw' with ⟨p, xs, h1, h2, h3, h4, h5⟩ | ⟨d, e, h1, h2, h3, h4, h5, h6⟩
      · exact .inl (.inl ⟨p, xs, h1, h2, h3, h4, by rw [h5]; exact q⟩)
      · exact .inl (.inr ⟨d, e, h1, h2, h3, h4, h5, by rw [h6]; exact q⟩)
    have go2 : ∀ ys, (y = .lst ys ∨ y = .tup ys) → (inD x ys).map (!·) = some k → rCop Γ.K .nin v w H Q := fun ys hy h => by
      cases q0 : inD x ys with
      | none => rw [q0] at h; cases h
      | some j => rw [q0] at h; exact go ys j hy q0 (Option.some.inj h)
    cases y with
    | lst ys => exact go2 ys (.inl rfl) (by cases x <;> exact h)
    | tup ys => exact go2 ys (.inr rfl) (by cases x <;> exact h)
    | str j =>
      cases x <;> first | (cases h; done) | skip
      rename_i i
      cases h; cases rv.str; cases rw'.str
      exact .inr ⟨i, j, rfl, rfl, q⟩
    | _ => cases x <;> cases h
theorem s_cmp {o : Cop} (hu : X.A.units + 65 < cLine) (hK : X.K = B.Γ.K) (ha : PE X a (tW B ma)) (hb : PE X b (tW B mb)) (hm : behindInMarks (cmpOp o) b = false) :
    PE X (.Compare a [cmpOp o] [b] pos) (tE B fun ρ S => rb (ma ρ S) fun x S => rb (mb ρ S) fun y S => lift ((cop o x y).map .bl) S) := by
  refine (pe_cmpR (op_cop hu o) ha hb hm).imp fun σ H Q ⟨μ, S, F, ρ, r, g⟩ => two r g fun x y S2 μ2 F2 H2 v w r2 k2 rv rw' g2 => ?_
  obtain ⟨z, hz, g2⟩ := g2.lift
  obtain ⟨k, hk, rfl⟩ := Option.map_eq_some_iff.mp hz
  rw [hK]
  exact rCop_some r2.toSok.le hk rv rw' (done g2 r2.toSok (.bl k))
theorem s_cmpT {o : Cop} (hu : X.A.units + 65 < cLine) (hK : X.K = B.Γ.K) (ha : PE X a (tW B ma)) (hb : PE X b (tW B mb)) (hm : behindInMarks (cmpOp o) b = false) :
    PT X (.Compare a [cmpOp o] [b] pos) (tTt B fun ρ S => rb (rb (ma ρ S) fun x S => rb (mb ρ S) fun y S => lift ((cop o x y).map D.bl) S) fun (d : D) S => lift d.truth S) := by
  refine (pt_cmpR (op_cop hu o) ha hb hm).imp fun σ H Q ⟨μ, S, F, ρ, r, g⟩ => ?_
  refine two r g.bind fun x y S2 μ2 F2 H2 v w r2 k2 rv rw' g2 => ?_
  obtain ⟨z, hz, g2⟩ := g2.lift
  obtain ⟨k, hk, rfl⟩ := Option.map_eq_some_iff.mp hz
  rw [hK]
  exact rCop_some r2.toSok.le hk rv rw' ⟨k, rfl, (g2.here r2.toSok).here r2.toSok⟩
end
end Mi
end

section
set_option linter.all false
set_option maxRecDepth 100000
set_option Elab.async false
/-! MiC: xs.count(y) of flat values. -/
namespace Mi
open PySem PySem.Spec PyProof.Rows L2
section
variable {X : Cx}
theorem count_eqU {x : V} : ∀ {xs : List V} {us : List Value}, Vals xs us → xs.all flatV = true → us.countP (eqU x) = xs.countP fun y => eqV y x
  | _, _, .nil, _ => rfl
  | _, _, .cons r t, f => by
    rw [List.all_cons, Bool.and_eq_true] at f
    rw [List.countP_cons, List.countP_cons, eqU_of r f.1, count_eqU t f.2]
def rCnt : V → List V → Hp → VK → Prop := fun x vs H Q => ∃ l xs y, x = .ref l ∧ vs = [y] ∧ H l = some (.lst xs) ∧ xs.all flatV = true ∧ flatV y = true ∧ Q (.int (xs.countP fun z => eqV z y : Nat)) H
theorem mt_cnt : MtM X "list.count" rCnt := by
  intro pins s σ H x vs v us Q I rx rv ⟨l, xs, y, hx, hv, hH, f1, f2, q⟩
  subst hx hv; cases rx
  obtain ⟨u, rfl, ru⟩ := rv.one
  obtain ⟨z, its, n, r, hl, e⟩ := I.lstM hH
  refine call_meets PySem.F.slot_list_count ⟨_, e, rfl⟩ PySem.F.entry_list_count (PySem.F.args_list_count_2 _ _) (PySem.SeqAt.list_countAt l its.toArray n none #[] u (eqU y)) ⟨e, fun w hw => mem_eqAt ru f2 r f1 w (by simpa using hw), ?_⟩
  refine ⟨.int _, H, I.tok _, ⟨_, rfl⟩, ?_⟩
  rw [show its.toArray.toList.countP (eqU y) = its.countP (eqU y) by simp, count_eqU r f1]
  exact q
end
end Mi
end

section
set_option linter.all false
set_option maxRecDepth 100000
set_option Elab.async false
/-! MiR: xs[::-1] of a tuple. -/
namespace Mi
open PySem L2 PyProof.Rows HT

section
variable {prog : Program} {w : World} {A : Around} {E : Value → Shared → Prop} {s : Shared}
theorem rev_adjust (n : Nat) : Builtin.Slice.sliceAdjust none none (-1) (n : Int) = ((n : Int) - 1, -1) := by
  unfold Builtin.Slice.sliceAdjust; simp
theorem rev_places (n : Nat) : Builtin.Slice.slicePlaces ((n : Int) - 1) (-1) (-1) = n := by
  unfold Builtin.Slice.slicePlaces
  have h1 : ¬ ((-1 : Int) > 0) := by omega
  simp only [h1, if_false]
  have : (-(-1 : Int)) = 1 := by omega
  rw [this, Int.ediv_one]
  split <;> omega
theorem rev_applied {sl : Addr} {vs : Value} {n : Nat} {Q : Int × Int × Nat → Shared → Prop} (hs : s.heap.IsSliceOf sl .none .none vs) (ps : IsPart vs (some (-1))) (h : Q ((n : Int) - 1, -1, n) s) :
    wpAny (model prog w) A (Builtin.Slice.sliceApplied (.ref sl) (pure (n : Int))) Q E s := by
  obtain ⟨os, hos, hcs, hds⟩ := id hs
  unfold Builtin.Slice.sliceApplied Builtin.Slice.sliceFields
  refine wpAny_bind (wpAny_bind (wpAny_field hos hds (x := .none) rfl (wpAny_bind (wpAny_field hos hds (x := .none) rfl (wpAny_bind (wpAny_field hos hds (x := vs) rfl (wpAny_pure ?_)))))))
  refine wpAny_bind (slicePart_ ps ?_)
  show wpAny _ _ (if ((-1 : Int) == 0) = true then _ else _) _ _ s
  rw [if_neg (by decide)]
  refine wpAny_bind (slicePart_none (wpAny_bind (slicePart_none (wpAny_bind (wpAny_pure ?_)))))
  show wpAny _ _ (match Builtin.Slice.sliceAdjust none none (-1) (n : Int) with | (lo, hi) => pure (lo, (-1 : Int), Builtin.Slice.slicePlaces lo hi (-1))) _ _ s
  rw [rev_adjust]
  show wpAny _ _ (pure ((n : Int) - 1, (-1 : Int), Builtin.Slice.slicePlaces ((n : Int) - 1) (-1) (-1))) _ _ s
  rw [rev_places]
  exact wpAny_pure h
theorem rev_pick (xs : Array Value) : ((List.range xs.size).filterMap fun (k : Nat) => xs[(((xs.size : Int) - 1) + (k : Int) * (-1)).toNat]?).toArray = xs.toList.reverse.toArray := by
  have e : (List.range xs.size).filterMap (fun (k : Nat) => xs[(((xs.size : Int) - 1) + (k : Int) * (-1)).toNat]?) = xs.toList.reverse := by
    have e1 : (List.range xs.size).filterMap (fun (k : Nat) => xs[(((xs.size : Int) - 1) + (k : Int) * (-1)).toNat]?) = ((List.range xs.size).map fun k => xs.size - 1 - k).filterMap fun k => xs[k]? := by
      rw [List.filterMap_map]
      congr 1
      funext k
      have : (((xs.size : Int) - 1) + (k : Int) * (-1)).toNat = xs.size - 1 - k := by omega
      rw [this]; rfl
    rw [e1, PySem.W.krv_range, List.filterMap_reverse, PySem.W.krv_all]
  rw [e]
theorem rev_getItem {t sl : Addr} {items : Array Value} {vs : Value} {Q : Value → Shared → Prop} (ht : IsTup s.heap t items) (hs : s.heap.IsSliceOf sl .none .none vs) (ps : IsPart vs (some (-1)))
    (h : Q (.ref s.heap.objs.size) { s with heap := s.heap.push { cls := .type "tuple", data := .seq items.toList.reverse.toArray } }) (hsz : items.size ≤ sizeLine) : wpAny (model prog w) A (getItem (.ref t) (.ref sl)) Q E s := by
  have htake : sizeOk (.seq items.toList.reverse.toArray) := by
    show items.toList.reverse.toArray.size ≤ sizeLine
    rw [List.size_toArray, List.length_reverse, Array.length_toList]; exact hsz
  obtain ⟨os, hos, hcs, hds⟩ := id hs
  have hTs : s.TypeIs (.ref sl) "slice" := ⟨os, hos, hcs⟩
  unfold getItem
  try with_reducible refine wpAny_holding ?_
  first | refine wpAny_bind (wpAny_pure ?_) | skip
  refine wpAny_bind (wpAny_sequenceKey ht.typeIs (by decide) ?_)
  refine wpAny_bind (wpAny_callSpecial?_slot (name := Str.ofString "__getitem__") ht.typeIs PyProof.Rows.slot_tuple_getitem (wpAny_call_entry PyProof.Rows.slot_tuple_getitem ht.typeIs entry_tuple_getitem ?_ (args_tuple_getitem _ _)))
  show wpAny _ _ (Builtin.Tuple.tupleItemsOf (.ref t) >>= _) _ _ s
  refine wpAny_bind (tupleItemsOf_ ht ?_)
  refine wpAny_bind (wpAny_typeOf hTs ?_)
  rw [if_pos (by decide)]
  refine wpAny_bind (rev_applied hs ps ?_)
  have hno : ¬ ((((items.size : Int) - 1 == 0 && (-1 : Int) == 1) && items.size == items.size) = true) := by
    intro q
    rw [Bool.and_eq_true, Bool.and_eq_true] at q
    exact absurd q.1.2 (by decide)
  show wpAny _ _ (if (((items.size : Int) - 1 == 0 && (-1 : Int) == 1) && items.size == items.size) = true then _ else _) _ _ s
  rw [if_neg hno, rev_pick]
  first
    | exact wpAny_bind (m := Builtin.Tuple.tupleExact _) (wpAny_newObj_type (wpAny_pure ⟨_, rfl, wpAny_pure h⟩) htake)
    | exact wpAny_bind (m := Builtin.Tuple.tupleExact _) (wpAny_newObj_type (wpAny_bind (wpAny_pure (wpAny_pure ⟨_, rfl, wpAny_pure h⟩))) htake)
    | exact wpAny_bind (wpAny_bind (m := Builtin.Tuple.tupleExact _) (wpAny_newObj_type (wpAny_pure (wpAny_pure ⟨_, rfl, wpAny_pure h⟩)) htake))
    | exact wpAny_bind (wpAny_bind (m := Builtin.Tuple.tupleExact _) (wpAny_newObj_type (wpAny_pure ⟨_, rfl, wpAny_pure h⟩) htake))
end
section
variable {X : Cx}
def tRevT (K : PySem.W.Frag) (te : TE) : TE := fun σ H Q => te σ H fun x H1 => ∃ a xs, x = .ref a ∧ SqT K H1 a xs ∧ ∀ p, H1 p = none → Q (.ref p) (upd H1 p (.tup xs.reverse))
theorem pe_revT {e : Expr} {te : TE} {k : Nat} {p1 p2 p3 pos : Pos} (he : PE X e te) : PE X (.Subscript e (.Slice none none (some (.UnaryOp .USub (.Constant (.int 1) k p1) p2)) p3) pos) (tRevT X.K te) := by
  refine ⟨fun pins s σ H Q I h => Subscript_ (thn (he.run pins s σ H _ I h) fun v s1 ⟨x, H1, I1, r1, a, xs, ex, hx, q⟩ => ?_)⟩
  subst ex; cases r1
  have hst : PO X (some (.UnaryOp .USub (.Constant (.int 1) k p1) p2)) (tPart (tUn (rU fun i => .int (-i)) (tC (.int 1)))) := po_some (pe_un un_neg pe_int)
  refine wpAny_Slice (thn (po_none.run pins s1 σ H1 (fun o H2 => o = none ∧ H2 = H1) I1 ⟨rfl, rfl⟩) fun vl s2 ⟨l, H2, I2, pl, el, e2⟩ => ?_)
  subst el e2
  refine thn (po_none.run pins s2 σ H2 (fun o H3 => o = none ∧ H3 = H2) I2 ⟨rfl, rfl⟩) fun vu s3 ⟨u, H3, I3, pu, eu, e3⟩ => ?_
  subst eu e3
  refine thn (hst.run pins s3 σ H3 (fun o H4 => o = some (-1) ∧ H4 = H3) I3 ⟨1, rfl, -1, rfl, rfl, rfl⟩) fun vs s4 ⟨o, H4, I4, ps, eo, e4⟩ => ?_
  subst eo e4
  cases pl; cases pu
  have I5 : Inv X pins σ H4 { s4 with heap := s4.heap.push { cls := .type "slice", data := .fields #[.none, .none, vs] } } := I4.kept (t' := s4.toks) fun b ob q => Heap.get?_push_of_some _ q
  obtain ⟨its, r, ht, hz⟩ := I5.tuple hx
  show wpAny (model X.prog X.w) X.A (subscriptTail e (.Slice none none (some (.UnaryOp .USub (.Constant (.int 1) k p1) p2)) p3) (.ref a) (.ref s4.heap.objs.size)) (EP X pins σ Q) X.xe { s4 with heap := s4.heap.push { cls := .type "slice", data := .fields #[.none, .none, vs] } }
  refine tail_any (ops := [.ref a, .ref s4.heap.objs.size]) ht.typeIs (PyProof.Rows.slot_tuple_getitem.lookup) ?_ (by with_unfolding_all rfl)
  refine rev_getItem ht (Heap.IsSliceOf.new _ .none .none vs) ps ?_ (by rw [List.size_toArray, ← r.length]; exact hz)
  refine ⟨.ref _, _, I5.laid (t' := s4.toks) (o := .tup xs.reverse) (fun b ob q => Heap.get?_push_of_some _ q) (Nat.le_refl _) ?_, rfl, q _ (I5.hok.fresh (Nat.le_refl _))⟩
  exact ⟨by rw [List.length_reverse]; exact hz, _, r.reverse, IsTup.new _ _⟩
end
end Mi
end

section
set_option linter.all false
set_option maxRecDepth 100000
set_option Elab.async false
/-! MiT: sorted of a list of tuples whose first is empty. -/
namespace PySem.W
open PySem PySem.Calls PyProof.Rows PySem.SeqAt

section
variable {prog : Program} {w : World} {A : Around} {E : Value → Shared → Prop} {s : Shared}
theorem mi_tuple_lt {Q : Value → Shared → Prop} {l b : Addr} {items items2 : Array Value} {e r : Nat → Bool} (hl : s.heap.IsTuple l items) (hb : s.heap.IsTuple b items2) (he : ∀ j (h1 : j < items.size) (h2 : j < items2.size), EqAt A.in1 s items[j] items2[j] (e j))
    (hr : ∀ j (h1 : j < items.size) (h2 : j < items2.size), e j = false → RcLt A.in1 s items[j] items2[j] (r j)) (h : Q (.bool (firstLt e r (decide (items.size < items2.size)) (List.range (min items.size items2.size)))) s) :
    wpAny (model prog w) A (call (.builtin "tuple.__lt__") [.ref l, .ref b]) Q E s := by
  obtain ⟨⟨c1, d1, t1, s1⟩, o1, k1, n1, q1⟩ := id hl; obtain ⟨⟨c2, d2, t2, s2⟩, o2, k2, n2, q2⟩ := id hb
  simp only at k1 q1 k2 q2; subst k1 q1 k2 q2
  exact call_meets F.slot_tuple_lt ⟨_, o1, rfl⟩ F.entry_tuple_lt (F.args_tuple_lt_2 _ _) (tuple_ltAt l b items items2 n1 n2 d1 d2 s1 s2 e r) ⟨o1, o2, he, hr, h⟩
theorem mi_oneLt_tup {xs ys : List PyData} {a b : Value} {as bs : List Addr} {Q : Bool → Shared → Prop} (ra : Reads s.heap a (.tuple xs) as) (rb : Reads s.heap b (.tuple ys) bs) (hal : alikeAll xs ys = true) (hu : A.units + min (PyData.tuple xs).depth (PyData.tuple ys).depth < cLine)
    (hq : Q (dataLt (.tuple xs) (.tuple ys)) s) : wpAny (model prog w) A (oneLt' true a b) Q E s := by
  cases ra with
  | @tuple l o vs n _ as₁ h1 h2 h3 h4 =>
    cases rb with
    | @tuple l' o' vs' n' _ bs₁ k1 k2 k3 k4 =>
      have z1 : vs.size = xs.length := by simpa using ReadsAll.length _ _ _ h4
      have z2 : vs'.size = ys.length := by simpa using ReadsAll.length _ _ _ k4
      rw [dataLt_tuple, ← firstLt_toks xs ys hal, ← z1, ← z2] at hq
      rw [oneLt'_eq]; simp only [if_true]
      refine wpAny_bind (wpAny_cRoomFor (room_here hu) (wpAny_bind (wpAny_callSpecialIfBound?_slot (T := "tuple") ⟨_, h1, h2⟩ F.slot_tuple_lt (mi_tuple_lt (e := pairEq xs ys) (r := fun j => dataLt (xs.getD j .none) (ys.getD j .none)) ⟨_, h1, h2, _, h3⟩ ⟨_, k1, k2, _, k3⟩ (fun j j1 j2 => ?_) (fun j j1 j2 hj => ?_) (wpAny_truthy_bool hq)))))
      · have t := eqAt_alikeAll xs ys A.in1 s vs.toList vs'.toList _ _ h4 k4 hal (room_in hu) j (by simpa using j1) (by simpa using j2); simpa using t
      · have t := rcLt_alikeAll xs ys A.in1 s vs.toList vs'.toList _ _ h4 k4 hal (room_in hu) j (by simpa using j1) (by simpa using j2) hj; simpa using t
/-- what the firsts come to -/
theorem mi_firsts {M : Model} : ∀ (vs : List Value) (ds : List PyData) {Q : List (Option Value) → Shared → Prop}, EachIs (fun v d => ∃ as, Reads s.heap v d as) vs ds → (∀ d ∈ ds, ∃ xs, d = .tuple xs) →
    (∀ bs, (∀ r, ds = .tuple [] :: r → ∃ br, bs = none :: br) → Q bs s) → wpAny M A (vs.mapM firstOfTuple') Q E s
  | _, _, Q, .nil, _, h => by rw [List.mapM_nil]; exact wpAny_pure (h [] fun r e => nomatch e)
  | _, _, Q, .cons (a := v) (b := d) (as := vs) (bs := ds) hv t, hd, h => by
    obtain ⟨as, r⟩ := hv
    obtain ⟨xs, rfl⟩ := hd _ (.head _)
    rw [List.mapM_cons]
    cases r with
    | @tuple l o its n _ as₁ h1 h2 h3 h4 =>
      rw [kas_first_eq]
      refine wpAny_bind (wpAny_bind (wpAny_typeOf (⟨_, h1, h2⟩ : s.TypeIs (.ref l) "tuple") ?_))
      rw [if_neg (by decide)]
      refine wpAny_bind (listItems_at h1 h3 (wpAny_pure (wpAny_bind (mi_firsts vs ds t (fun d m => hd d (.tail _ m)) fun bs _ => wpAny_pure (h _ fun r e => ?_)))))
      obtain ⟨e1, e2⟩ := List.cons.inj e
      have e1 : xs = [] := PyData.tuple.inj e1
      subst e1
      obtain ⟨its⟩ := its
      cases its with
      | nil => exact ⟨bs, rfl⟩
      | cons _ _ => have h4 : ReadsAll s.heap (_ :: _) [] _ := h4; cases h4
theorem mi_kind {M : Model} {vs : List Value} {ds : List PyData} {Q : SortKind → Shared → Prop} (e : EachIs (fun v d => ∃ as, Reads s.heap v d as) vs (.tuple [] :: ds)) (hd : ∀ d ∈ PyData.tuple [] :: ds, ∃ xs, d = .tuple xs) (h : Q oneType' s) : wpAny M A (keyKind' vs.toArray) Q E s := by
  have hT : ∀ v ∈ vs, Looks M s.heap (typeOf v) (.type "tuple") := fun v hv => by
    obtain ⟨d, hm, as, r⟩ := e.left v hv
    obtain ⟨xs, rfl⟩ := hd d hm
    exact looks_reads r
  rw [keyKind'_eq, List.mapM_toArray, map_eq_pure_bind]
  refine wpAny_bind (wpAny_bind (mi_firsts vs _ e hd fun bs hb => wpAny_pure ?_))
  obtain ⟨br, rfl⟩ := hb ds rfl
  rw [if_neg (by simp), if_neg (by simp), oneTypeOnly'_eq, List.mapM_toArray, map_eq_pure_bind]
  obtain ⟨v₁, rest, rfl⟩ : ∃ v₁ rest, vs = v₁ :: rest := by cases e with | cons _ _ => exact ⟨_, _, rfl⟩
  refine wpAny_bind (wpAny_bind (wpAny_bind (kas_mapM (r := Value.type "tuple") _ (fun v hv Q' hq => (hT v hv).here hq) (wpAny_pure ?_))))
  have hall : ((List.map (fun _ => Value.type "tuple") (v₁ :: rest)).toArray.all fun x => x == Value.type "tuple") = true := by
    simp only [List.all_toArray, List.all_map, List.all_eq_true]; intro _ _; exact beq_self_eq_true _
  rw [show (List.map (fun _ => Value.type "tuple") (v₁ :: rest)).toArray[0]? = some (Value.type "tuple") by simp]
  simp only [hall, if_true]
  exact wpAny_pure (wpAny_pure h)
theorem mi_sortsAt {vs : List Value} {ds : List PyData} (e : EachIs (fun v d => ∃ as, Reads s.heap v d as) vs (.tuple [] :: ds)) (hal : AllAlike (.tuple [] :: ds)) (hd : ∀ d ∈ PyData.tuple [] :: ds, ∃ xs, d = .tuple xs) (hu : ∀ d, d ∈ PyData.tuple [] :: ds → A.units + d.depth < cLine) :
    SortsAt prog w A s (dataKind s.heap (.tuple [] :: ds)) vs := by
  refine ⟨fun v hv => ?_, oneType', fun E x y a b Q ha hb hq => ?_, fun h2 E Q hq => mi_kind e hd hq⟩
  · obtain ⟨d, hm, as, r⟩ := e.left v hv; exact ⟨_, dataKind_some hal hm r⟩
  · obtain ⟨d, as, m1, ra, rfl⟩ := dataKind_inv ha
    obtain ⟨d', as', m2, rb, rfl⟩ := dataKind_inv hb
    obtain ⟨xs, rfl⟩ := hd d m1
    obtain ⟨ys, rfl⟩ := hd d' m2
    rw [keyLt'_oneType]
    exact mi_oneLt_tup ra rb (by simpa [alike] using hal _ m1 _ m2) (Nat.lt_of_le_of_lt (Nat.add_le_add_left (Nat.min_le_left _ _) _) (hu _ m1)) hq
end
section
variable {prog : Program} {w : World} {A : Around} {E : Value → Shared → Prop} {s : Shared} {β : Type} {vs : List Value} {bs : List β} {enc : β → PyData} {R : Value → β → Prop}
/-- sorted(xs), the first item the empty tuple -/
theorem mi_sorted_nil {l : Addr} {Q : Value → Shared → Prop} {dr : List PyData} (hl : s.heap.IsList l vs.toArray) (e : EachIs R vs bs) (er : EachIs (fun v b => ∃ as, Reads s.heap v (enc b) as) vs bs) (hal : AllAlike (bs.map enc)) (h0 : bs.map enc = .tuple [] :: dr) (hk : ∀ d ∈ bs.map enc, ∃ xs, d = .tuple xs) (hL : bs.length ≤ sizeLine)
    (hu : ∀ b, b ∈ bs → A.units + 2 + (enc b).depth < cLine) (h : ∀ out, out.length = bs.length → EachIs R out (bs.mergeSort (dataLe false enc)) → Q (.ref (s.heap.objs.size + 1)) { s with heap := sortedAll s.heap vs (List.toArray out) }) :
    wpAny (model prog w) A (call (.builtin "sorted") [.ref l]) Q E s := by
  have er' : EachIs (fun v b => ∃ as, Reads (sortingHeap (copyHeap s.heap vs) (s.heap.objs.size + 1) vs) v (enc b) as) vs bs := er.mono fun _ _ ⟨as, r⟩ => ⟨as, PyProof.Rows.Reads.keeps (fun _ _ => sorting_copy_old) r⟩
  have em := each_map (R := fun v d => ∃ as, Reads (sortingHeap (copyHeap s.heap vs) (s.heap.objs.size + 1) vs) v d as) enc er'
  have S : SortsAt prog w A.in1.in1 { s with heap := sortingHeap (copyHeap s.heap vs) (s.heap.objs.size + 1) vs } (dataKind (sortingHeap (copyHeap s.heap vs) (s.heap.objs.size + 1) vs) (bs.map enc)) vs := by
    have hub := bound_map (A := A.in1.in1) (enc := enc) (bs := bs) hu
    rw [h0] at em hal hk hub ⊢
    exact mi_sortsAt (s := { s with heap := sortingHeap (copyHeap s.heap vs) (s.heap.objs.size + 1) vs }) em hal hk hub
  exact sorted_vals hl S (by rw [e.length]; exact hL) (h _ (by rw [sortVals_length false rfl]; exact e.length) (sortVals_data false e er' hal))
end
end PySem.W
end

section
set_option linter.all false
set_option maxRecDepth 100000
set_option Elab.async false
/-! MiS: sorted of lists of data. -/
namespace Mi
open PySem L2

section
variable {X : Cx} {pins : List (Addr × Obj)} {σ : L2.St} {H : Hp} {s : Shared}
theorem each_zip (I : Inv X pins σ H s) : ∀ {vs : List V} {ps : List PyData} {us : List Value}, DpAll X.K H vs ps → Vals vs us → PySem.W.EachIs (fun u (b : V × PyData) => RelV b.1 u) us (vs.zip ps) ∧
    PySem.W.EachIs (fun u (b : V × PyData) => ∃ as, Reads s.heap u b.2 as) us (vs.zip ps)
  | _, _, _, .nil, .nil => ⟨.nil, .nil⟩
  | _, _, _, .cons h t, .cons r rs => by
    obtain ⟨h1, h2⟩ := each_zip I t rs
    exact ⟨.cons r h1, .cons (Dp.reads I _ _ _ h r) h2⟩
theorem each_vals : ∀ {bs : List (V × PyData)} {us : List Value}, PySem.W.EachIs (fun u (b : V × PyData) => RelV b.1 u) us bs → Vals (bs.map (·.1)) us
  | _, _, .nil => .nil
  | _, _, .cons h t => .cons h (each_vals t)
theorem dpAll_len : ∀ {K : PySem.W.Frag} {H : Hp} {vs : List V} {ps : List PyData}, DpAll K H vs ps → vs.length = ps.length
  | _, _, _, _, .nil => rfl
  | _, _, _, _, .cons _ t => by simp [dpAll_len t]
theorem zip_snd {α β : Type} : ∀ {xs : List α} {ys : List β}, xs.length = ys.length → (xs.zip ys).map (·.2) = ys
  | [], [], _ => rfl
  | _ :: xs, _ :: ys, h => by simp [zip_snd (xs := xs) (ys := ys) (by simpa using h)]
theorem zip_fst {α β : Type} : ∀ {xs : List α} {ys : List β}, xs.length = ys.length → (xs.zip ys).map (·.1) = xs
  | [], [], _ => rfl
  | _ :: xs, _ :: ys, h => by simp [zip_fst (xs := xs) (ys := ys) (by simpa using h)]
end
section
variable {X : Cx}
theorem call_sortedD (hu : X.A.units + 65 < cLine) : CallR X (.builtin "sorted") (fun xs H Q => ∃ (a : Addr) (vs : List V) (ps : List PyData), xs = [.ref a] ∧ SqL X.K H a vs ∧ DpAll X.K H vs ps ∧ PySem.W.AllAlike ps ∧ (PySem.W.Sortable ps ∨ ∃ dr, ps = .tuple [] :: dr ∧ ∀ d ∈ ps, ∃ xs, d = .tuple xs) ∧ (∀ p ∈ ps, p.depth ≤ 60) ∧
    ∀ p, H p = none → Q (.ref p) (upd H p (.lst (sortV (vs.zip ps))))) := by
  intro pins s σ H xs us Q I r h
  obtain ⟨a, vs, ps, rfl, hs, hd, hal, hso, hdep, q⟩ := h
  obtain ⟨its, rv, hl, hz⟩ := I.list hs
  rw [Vals.ref1 r]
  have hlen := dpAll_len hd
  obtain ⟨e1, e2⟩ := each_zip I hd rv
  have hm : (vs.zip ps).map (·.2) = ps := zip_snd hlen
  have hu' : ∀ b ∈ vs.zip ps, X.A.units + 2 + b.2.depth < cLine := fun b hb => by
    have : b.2 ∈ ps := by rw [← hm]; exact List.mem_map.mpr ⟨b, hb, rfl⟩
    have := hdep _ this
    omega
  have fin : ∀ out : List Value, out.length = (vs.zip ps).length → PySem.W.EachIs (fun u (b : V × PyData) => RelV b.1 u) out ((vs.zip ps).mergeSort (PySem.W.dataLe false (·.2))) →
      EP X pins σ Q (.ref (s.heap.objs.size + 1)) { s with heap := PyProof.Rows.sortedAll s.heap its out.toArray } := fun out ho eo => by
    obtain ⟨ep, he'⟩ := PyProof.Rows.sortedAll_at s.heap its out.toArray
    have hv : Vals (sortV (vs.zip ps)) out := each_vals eo
    have hzl : (sortV (vs.zip ps)).length ≤ sizeLine := by
      unfold sortV
      rw [List.length_map, List.length_mergeSort, List.length_zip]
      omega
    exact ⟨.ref _, _, I.laid (t' := s.toks) (o := .lst (sortV (vs.zip ps))) (fun _ _ => PyProof.Rows.sortedAll_old) (Nat.le_succ _) ⟨hzl, out, ep, hv, he'⟩, rfl, q _ (I.hok.fresh (Nat.le_succ _))⟩
  rcases hso with hso | ⟨dr, h0, hk⟩
  · exact PySem.W.sorted_data (enc := fun b : V × PyData => b.2) hl.isList e1 e2 (by rw [hm]; exact hal) (by rw [hm]; exact hso) (by rw [List.length_zip]; omega) hu' fin
  · exact PySem.W.mi_sorted_nil (enc := fun b : V × PyData => b.2) hl.isList e1 e2 (by rw [hm]; exact hal) (by rw [hm]; exact h0) (by rw [hm]; exact hk) (by rw [List.length_zip]; omega) hu' fin
end

theorem sort_reps {Γ : Wd} {μ : List Addr} {F : Hp} {vs : List V} {ds : List D} {ps : List PyData} (h : Reps Γ μ F vs ds) (hl : ds.length = ps.length) : Reps Γ μ F (sortV (vs.zip ps)) (sortV (ds.zip ps)) := by
  obtain ⟨zs, h1, h2, h3⟩ : ∃ zs : List ((V × D) × PyData), vs.zip ps = zs.map (fun t => (t.1.1, t.2)) ∧ ds.zip ps = zs.map (fun t => (t.1.2, t.2)) ∧ ∀ t ∈ zs, Rep Γ μ F t.1.1 t.1.2 := by
    clear hl
    induction ds generalizing vs ps with
    | nil => cases h; exact ⟨[], rfl, rfl, fun _ z => nomatch z⟩
    | cons d ds ih =>
      cases h with
      | cons r t =>
        rename_i v vs
        cases ps with
        | nil => exact ⟨[], rfl, rfl, fun _ z => nomatch z⟩
        | cons p ps =>
          obtain ⟨zs, a1, a2, a3⟩ := ih (ps := ps) t
          exact ⟨((v, d), p) :: zs, by simp [a1], by simp [a2], fun t ht => by
            rcases List.mem_cons.mp ht with z | z
            · subst z; exact r
            · exact a3 t z⟩
  unfold sortV
  rw [h1, h2]
  have m1 : (zs.mergeSort (PySem.W.dataLe false (·.2))).map (fun t => (t.1.1, t.2)) = (zs.map (fun t => (t.1.1, t.2))).mergeSort (PySem.W.dataLe false (·.2)) := List.map_mergeSort (fun a _ b _ => rfl)
  have m2 : (zs.mergeSort (PySem.W.dataLe false (·.2))).map (fun t => (t.1.2, t.2)) = (zs.map (fun t => (t.1.2, t.2))).mergeSort (PySem.W.dataLe false (·.2)) := List.map_mergeSort (fun a _ b _ => rfl)
  rw [← m1, ← m2, List.map_map, List.map_map]
  have h4 : ∀ t ∈ zs.mergeSort (PySem.W.dataLe false (·.2)), Rep Γ μ F t.1.1 t.1.2 := fun t ht => h3 t (List.mem_mergeSort.mp ht)
  revert h4
  generalize zs.mergeSort (PySem.W.dataLe false (·.2)) = ys
  intro h4
  induction ys with
  | nil => exact .nil
  | cons t ys ih => exact .cons (h4 t (by simp)) (ih fun u hu => h4 u (by simp [hu]))
theorem toPys_len : ∀ {ds : List D} {ps : List PyData}, D.toPys ds = some ps → ds.length = ps.length
  | [], ps, h => by unfold D.toPys at h; cases h; rfl
  | d :: ds, ps, h => by
    unfold D.toPys at h
    split at h
    · rename_i p ps' h1 h2
      cases h
      simp [toPys_len h2]
    · cases h
theorem sortable_of {ps : List PyData} (h : sortableB ps = true) : PySem.W.Sortable ps ∨ ∃ dr, ps = .tuple [] :: dr ∧ ∀ d ∈ ps, ∃ xs, d = .tuple xs := by
  unfold sortableB at h
  rw [Bool.or_eq_true, Bool.or_eq_true, List.all_eq_true, List.all_eq_true] at h
  rcases h with (h | h) | h
  · refine .inl (.inl fun p hp => ?_)
    have := h p hp
    split at this
    · exact ⟨_, _, rfl⟩
    · cases this
  · refine .inl (.inr fun p hp => ?_)
    have := h p hp
    split at this
    · cases this
    · cases this
    · rename_i n1 n2
      exact ⟨fun e => n1 e, fun xs e => n2 xs e⟩
  · split at h
    · rename_i r
      refine .inr ⟨r, rfl, fun d hd => ?_⟩
      rcases List.mem_cons.mp hd with e | hd
      · exact ⟨[], e⟩
      · have := (List.all_eq_true.mp h) d hd
        split at this
        · exact ⟨_, rfl⟩
        · cases this
    · cases h
theorem alike_of {ps : List PyData} (h : (ps.all fun p => ps.all fun q => PySem.W.alike p q) = true) : PySem.W.AllAlike ps := fun p hp q hq => by
  rw [List.all_eq_true] at h
  have := h p hp
  rw [List.all_eq_true] at this
  exact this q hq
end Mi
end

section
set_option linter.all false
set_option maxRecDepth 100000
set_option Elab.async false
/-! Mi5: truth, and, or, items, slices, built-in functions, dicts with text keys. -/
namespace Mi
open PySem L2
section
variable {X : Cx}
theorem call_str_strX : CallR X (.type "str") (fun xs H Q => ∃ a, xs = [.str a] ∧ Q (.str a) H) := by
  intro pins s σ H xs us Q I r h
  obtain ⟨a, rfl, q⟩ := h
  obtain ⟨u, rfl, t, rfl⟩ := vals1 r
  exact PySem.P.str_of_str ⟨.str a, H, I, ⟨t, rfl⟩, q⟩
end
section
variable {B : At} {X : Cx} {e a b c : Expr} {ma mb mc : Env → Sto → Mo D} {pos : Pos}

/-- one operand, then something -/
theorem one {α : Type} {σ : St} {H : Hp} {ρ : Env} {μ : List Addr} {S : Sto} {F : Hp} {f : D → Sto → Mo α} {P : α → Sto → List Addr → Hp → Hp → Prop} {R : V → Hp → Prop}
    (r : Rel B.Γ B.E μ S F H ρ σ) (g : Go B σ μ F H (rb (ma ρ S) f) P)
    (h : ∀ x S2 μ2 F2 H2 v, Rel B.Γ B.E μ2 S2 F2 H2 ρ σ → Kp B.Γ ⟨μ, F, H⟩ μ2 S2 F2 H2 → RepL B.Γ μ2 F2 H2 v x → Go B σ μ2 F2 H2 (f x S2) P → R v H2) :
    tW B ma σ H R := ⟨μ, S, F, ρ, r, g.bind.mono fun x S1 μ1 F1 H1 k1 g1 v rv => h x S1 μ1 F1 H1 v (r.step k1) k1 rv g1⟩

/-! ### is None -/
theorem isNon_of {Γ : Wd} {μ : List Addr} {F H : Hp} {v : V} {d : D} (h : RepL Γ μ F H v d) : decide (v = .non) = isNonD d := by
  rcases h with h | ⟨_, _, _, rfl, rfl, _⟩
  · cases h <;> rfl
  · rfl
theorem s_isN {j p2} (ha : PE X a (tW B ma)) : PE X (.Compare a [.Is] [.Constant .none j p2] pos) (tE B fun ρ S => rb (ma ρ S) fun x S => some (.ok (.bl (if false then !isNonD x else isNonD x)) S)) := by
  refine (pe_cmp (pc_isN ha) rfl).imp fun σ H Q ⟨μ, S, F, ρ, r, g⟩ => one r g fun x S2 μ2 F2 H2 v r2 k2 rv g2 => ?_
  rw [isNon_of rv]
  exact done g2 r2.toSok (.bl _)
theorem s_isNn {j p2} (ha : PE X a (tW B ma)) : PE X (.Compare a [.IsNot] [.Constant .none j p2] pos) (tE B fun ρ S => rb (ma ρ S) fun x S => some (.ok (.bl (if true then !isNonD x else isNonD x)) S)) := by
  refine (pe_cmp (pc_notN ha) rfl).imp fun σ H Q ⟨μ, S, F, ρ, r, g⟩ => one r g fun x S2 μ2 F2 H2 v r2 k2 rv g2 => ?_
  rw [isNon_of rv]
  exact done g2 r2.toSok (.bl _)

theorem s_isB {j p2} {b : Bool} (ha : PE X a (tW B ma)) : PE X (.Compare a [.Is] [.Constant (.bool b) j p2] pos) (tE B fun ρ S => rb (ma ρ S) fun x S => lift ((blD x).map fun c => .bl (decide (c = b))) S) := by
  refine (pe_cmpR op_is_bl ha (pe_bl (b := b) (j := j) (pos := p2)) rfl).imp fun σ H Q ⟨μ, S, F, ρ, r, g⟩ => one r g fun x S2 μ2 F2 H2 v r2 k2 rv g2 => ?_
  obtain ⟨z, hz, g3⟩ := g2.lift
  obtain ⟨c, hc, rfl⟩ := Option.map_eq_some_iff.mp hz
  obtain rfl : x = .bl c := by cases x <;> first | (cases hc; rfl) | cases hc
  have e : v = .bl c := by
    rcases rv with h | ⟨_, _, _, _, h, _⟩
    · cases h; rfl
    · cases h
  subst e
  exact ⟨c, b, rfl, rfl, done g3 r2.toSok (.bl _)⟩

/-! ### truth -/
theorem truth_of {Γ : Wd} {μ : List Addr} {F H : Hp} {v : V} {d : D} {k : Bool} (le : ∀ a o, F a = some o → H a = some o) (h : RepL Γ μ F H v d) (e : d.truth = some k) : TruV Γ.K v H k := by
  cases d with
  | non => cases e; cases h.non; exact rfl
  | bl b => cases e; cases h.bl; exact rfl
  | int i => cases e; cases h.int; exact rfl
  | str x =>
    have e : (if x.length ≤ maxLen then some ((x.length : Int) != 0) else none) = some k := e
    split at e
    · cases e; cases h.str; exact ⟨‹_›, rfl⟩
    · cases e
  | tup ds =>
    cases e
    obtain ⟨a, xs, rfl, h1, h2⟩ := h.tup
    refine .inr (.inl ⟨xs, st_le le h1, ?_⟩)
    have := h2.length
    cases ds <;> cases xs <;> first | rfl | simp at this
  | lst ds =>
    cases e
    obtain ⟨a, xs, rfl, h1, h2⟩ := h.lst
    refine .inl ⟨xs, h1.sq le, ?_⟩
    have := h2.length
    cases ds <;> cases xs <;> first | rfl | simp at this
  | loc n => cases e
  | fn n => cases e
/-- a test that is its value's truth -/
theorem s_truth (hK : X.K = B.Γ.K) (ha : PE X a (tW B ma)) (he : ∀ whole, isTrue a X.env whole = (do let v ← whole; standAt a.pos; holding [v] (truthy v))) :
    PT X a (tTt B fun ρ S => rb (ma ρ S) fun (x : D) S => lift x.truth S) := by
  refine (pt_truth ha he).imp fun σ H Q ⟨μ, S, F, ρ, r, g⟩ => one r g fun x S2 μ2 F2 H2 v r2 k2 rv g2 => ?_
  obtain ⟨k, hk, g2⟩ := g2.lift
  exact ⟨k, by rw [hK]; exact truth_of r2.toSok.le rv hk, g2.here r2.toSok⟩
theorem s_notT {m : Env → Sto → Mo Bool} (ha : PT X a (tTt B m)) : PT X (.UnaryOp .Not a pos) (tTt B fun ρ S => rb (m ρ S) fun b S => some (.ok (!b) S)) := by
  refine (pt_not ha).imp fun σ H Q ⟨μ, S, F, ρ, r, g⟩ => ⟨μ, S, F, ρ, r, g.bind.mono fun b S1 μ1 F1 H1 k1 g1 => ?_⟩
  exact g1.here k1.toSok
theorem s_one {k : Bool} {op : BoolOp} {m : Env → Sto → Mo Bool} (h1 : PT X a (tTt B m)) (hw : PT X a (tTt B m) → ∀ t, PT X a t → PW X (.BoolOp op [a] pos) t) :
    PW X (.BoolOp op [a] pos) (tTt B fun ρ S => rb (m ρ S) fun b S => if b = k then some (.ok k S) else some (.ok b S)) := by
  refine (hw h1 _ h1).imp fun σ H Q ⟨μ, S, F, ρ, r, g⟩ => ⟨μ, S, F, ρ, r, g.bind.mono fun b S1 μ1 F1 H1 k1 g1 => ?_⟩
  split at g1
  · rename_i e; subst e; exact g1.here k1.toSok
  · exact g1.here k1.toSok
theorem s_andT {m ms : Env → Sto → Mo Bool} {rest : List Expr} (h1 : PT X a (tTt B m)) (h2 : PW X (.BoolOp .And (b :: rest) pos) (tTt B ms)) :
    PW X (.BoolOp .And (a :: b :: rest) pos) (tTt B fun ρ S => rb (m ρ S) fun b S => if b = true then ms ρ S else some (.ok b S)) := by
  refine (pw_and h1 h2).imp fun σ H Q ⟨μ, S, F, ρ, r, g⟩ => ⟨μ, S, F, ρ, r, g.bind.mono fun b S1 μ1 F1 H1 k1 g1 => ?_⟩
  cases b with
  | true => exact ⟨μ1, S1, F1, ρ, r.step k1, g1⟩
  | false => exact Go.here (P := fun b _ _ _ H' => Q b H') g1 k1.toSok
theorem s_orT {m ms : Env → Sto → Mo Bool} {rest : List Expr} (h1 : PT X a (tTt B m)) (h2 : PW X (.BoolOp .Or (b :: rest) pos) (tTt B ms)) :
    PW X (.BoolOp .Or (a :: b :: rest) pos) (tTt B fun ρ S => rb (m ρ S) fun b S => if b = false then ms ρ S else some (.ok b S)) := by
  refine (pw_or h1 h2).imp fun σ H Q ⟨μ, S, F, ρ, r, g⟩ => ⟨μ, S, F, ρ, r, g.bind.mono fun b S1 μ1 F1 H1 k1 g1 => ?_⟩
  cases b with
  | false => exact ⟨μ1, S1, F1, ρ, r.step k1, g1⟩
  | true => exact Go.here (P := fun b _ _ _ H' => Q b H') g1 k1.toSok

/-! ### and, or, not of bools as values -/
theorem blD_some {x : D} {k : Bool} (h : blD x = some k) : x = .bl k := by
  cases x <;> first | (cases h; done) | skip
  cases h; rfl
theorem s_not (ha : PE X a (tW B ma)) : PE X (.UnaryOp .Not a pos) (tE B fun ρ S => rb (ma ρ S) fun x S => lift ((blD x).map fun b => .bl (!b)) S) := by
  refine (pe_not ha).imp fun σ H Q ⟨μ, S, F, ρ, r, g⟩ => one r g fun x S2 μ2 F2 H2 v r2 k2 rv g2 => ?_
  obtain ⟨z, hz, g2⟩ := g2.lift
  obtain ⟨k, hk, rfl⟩ := Option.map_eq_some_iff.mp hz
  cases blD_some hk
  cases rv.bl
  exact ⟨k, rfl, done g2 r2.toSok (.bl _)⟩
/-- the value's form of a run to a bool -/
def asV (m : Env → Sto → Mo Bool) : Env → Sto → Mo D := fun ρ S => rb (m ρ S) fun b S => some (.ok (.bl b) S)
theorem rb_assoc {α β γ : Type} (o : Mo α) (f : α → Sto → Mo β) (h : β → Sto → Mo γ) : rb (rb o f) h = rb o fun a S => rb (f a S) h := by
  match o with
  | none => rfl
  | some (.ok a S) => rfl
  | some (.ex x S) => rfl
theorem s_oneV {k : Bool} {op : BoolOp} (h1 : PE X a (tW B ma)) : PE X (.BoolOp op [a] pos) (tE B (asV fun ρ S => rb (ma ρ S) fun x S => rb (lift (blD x) S) fun b S => if b = k then some (.ok k S) else some (.ok b S))) := by
  refine (pe_one h1).imp fun σ H Q ⟨μ, S, F, ρ, r, g⟩ => ?_
  unfold asV at g
  rw [rb_assoc] at g
  refine one r g fun x S2 μ2 F2 H2 v r2 k2 rv g2 => ?_
  rw [rb_assoc] at g2
  obtain ⟨z, hz, g3⟩ := g2.bind.lift
  cases blD_some hz
  cases rv.bl
  have g4 := g3.here r2.toSok
  split at g4
  · rename_i e; subst e; exact done g4 r2.toSok (.bl _)
  · exact done g4 r2.toSok (.bl _)
theorem s_andV {ms : Env → Sto → Mo Bool} {rest : List Expr} (h1 : PE X a (tW B ma)) (h2 : PE X (.BoolOp .And (b :: rest) pos) (tE B (asV ms))) :
    PE X (.BoolOp .And (a :: b :: rest) pos) (tE B (asV fun ρ S => rb (ma ρ S) fun x S => rb (lift (blD x) S) fun b S => if b = true then ms ρ S else some (.ok b S))) := by
  refine (pe_and h1 h2).imp fun σ H Q ⟨μ, S, F, ρ, r, g⟩ => ?_
  unfold asV at g
  rw [rb_assoc] at g
  refine one r g fun x S2 μ2 F2 H2 v r2 k2 rv g2 => ?_
  rw [rb_assoc] at g2
  obtain ⟨z, hz, g3⟩ := g2.bind.lift
  cases blD_some hz
  cases rv.bl
  refine ⟨z, rfl, ?_⟩
  have g4 := g3.here r2.toSok
  cases z with
  | true => exact ⟨μ2, S2, F2, ρ, r2, g4⟩
  | false => exact done g4 r2.toSok (.bl _)
theorem s_orV {ms : Env → Sto → Mo Bool} {rest : List Expr} (h1 : PE X a (tW B ma)) (h2 : PE X (.BoolOp .Or (b :: rest) pos) (tE B (asV ms))) :
    PE X (.BoolOp .Or (a :: b :: rest) pos) (tE B (asV fun ρ S => rb (ma ρ S) fun x S => rb (lift (blD x) S) fun b S => if b = false then ms ρ S else some (.ok b S))) := by
  refine (pe_or h1 h2).imp fun σ H Q ⟨μ, S, F, ρ, r, g⟩ => ?_
  unfold asV at g
  rw [rb_assoc] at g
  refine one r g fun x S2 μ2 F2 H2 v r2 k2 rv g2 => ?_
  rw [rb_assoc] at g2
  obtain ⟨z, hz, g3⟩ := g2.bind.lift
  cases blD_some hz
  cases rv.bl
  refine ⟨z, rfl, ?_⟩
  have g4 := g3.here r2.toSok
  cases z with
  | false => exact ⟨μ2, S2, F2, ρ, r2, g4⟩
  | true => exact done g4 r2.toSok (.bl _)
/-- a if t else b -/
theorem s_ite {m : Env → Sto → Mo Bool} (hc : PT X c (tTt B m)) (ha : PE X a (tE B ma)) (hb : PE X b (tE B mb)) : PE X (.IfExp c a b pos) (tE B fun ρ S => rb (m ρ S) fun k S => if k = true then ma ρ S else mb ρ S) := by
  refine (pe_ifExp hc ha hb).imp fun σ H Q ⟨μ, S, F, ρ, r, g⟩ => ⟨μ, S, F, ρ, r, g.bind.mono fun k S1 μ1 F1 H1 k1 g1 => ?_⟩
  cases k with
  | true => exact ⟨μ1, S1, F1, ρ, r.step k1, g1⟩
  | false => exact ⟨μ1, S1, F1, ρ, r.step k1, g1⟩

/-! ### chains -/
theorem s_cmp2 {o o' : Cop} (hu : X.A.units + 65 < cLine) (hK : X.K = B.Γ.K) (ha : PE X a (tW B ma)) (hb : PE X b (tW B mb)) (hc : PE X c (tW B mc)) (hm : lastMarks [cmpOp o, cmpOp o'] [b, c] = false) :
    PE X (.Compare a [cmpOp o, cmpOp o'] [b, c] pos) (tE B fun ρ S => rb (ma ρ S) fun x S => rb (mb ρ S) fun y S => rb (lift (cop o x y) S) fun k S =>
      if k = true then rb (mc ρ S) fun z S => lift ((cop o' y z).map .bl) S else some (.ok (.bl false) S)) := by
  refine (pe_chain (op_cop hu o) (op_cop hu o') ha hb hc hm).imp fun σ H Q ⟨μ, S, F, ρ, r, g⟩ => two r g fun x y S2 μ2 F2 H2 v w r2 k2 rv rw' g2 => ?_
  obtain ⟨k, hk, g3⟩ := g2.bind.lift
  have g4 := g3.here r2.toSok
  rw [hK]
  refine rCop_some (Q := fun z H3 => _) r2.toSok.le hk rv rw' ⟨k, rfl, ?_⟩
  cases k with
  | true =>
    rw [if_pos rfl]
    rw [if_pos rfl] at g4
    refine one r2 g4 fun z S3 μ3 F3 H3 u r3 k3 ru g5 => ?_
    obtain ⟨t, ht, g6⟩ := g5.lift
    obtain ⟨k', hk', rfl⟩ := Option.map_eq_some_iff.mp ht
    exact rCop_some r3.toSok.le hk' (rw'.kp k3) ru (done g6 r3.toSok (.bl k'))
  | false =>
    rw [if_neg Bool.false_ne_true]
    rw [if_neg Bool.false_ne_true] at g4
    exact done g4 r2.toSok (.bl false)

/-! ### items and slices -/
theorem atD_V {Γ : Wd} {μ : List Addr} {F : Hp} {xs : List V} {ds : List D} {i : Int} {d : D} (r : Reps Γ μ F xs ds) (h : atD ds i = some d) : ∃ v, atI xs i = some v ∧ Rep Γ μ F v d := by
  unfold atD atI at h
  unfold atI
  rw [r.length]
  cases q : ixN ds.length i with
  | none => rw [q] at h; cases h
  | some j => rw [q] at h; exact r.get h
theorem s_idx (hK : X.K = B.Γ.K) (ha : PE X a (tW B ma)) (hb : PE X b (tW B mb)) (hs : PlainIx b) : PE X (.Subscript a b pos) (tE B fun ρ S => rb (ma ρ S) fun x S => rb (mb ρ S) fun y S => lift (idxD x y) S) := by
  refine (pe_ix (ix_list.or ix_tup) ha hb hs).imp fun σ H Q ⟨μ, S, F, ρ, r, g⟩ => two r g fun x y S2 μ2 F2 H2 v w r2 k2 rv rw' g2 => ?_
  obtain ⟨z, hz, g3⟩ := g2.lift
  clear g2
  match x, y, hz with
  | .lst ds, .int i, hz =>
    obtain ⟨p, xs, rfl, h1, h2⟩ := rv.lst
    cases rw'.int
    obtain ⟨u, h3, h4⟩ := atD_V h2 hz
    rw [hK]
    exact .inl ⟨p, xs, i, u, rfl, rfl, h1.sq r2.toSok.le, h3, done g3 r2.toSok h4⟩
  | .tup ds, .int i, hz =>
    obtain ⟨p, xs, rfl, h1, h2⟩ := rv.tup
    cases rw'.int
    obtain ⟨u, h3, h4⟩ := atD_V h2 hz
    rw [hK]
    exact .inr ⟨p, xs, i, u, rfl, rfl, st_le r2.toSok.le h1, h3, done g3 r2.toSok h4⟩
/-- an optional part of a slice -/
def oI (m : Env → Sto → Mo D) : Env → Sto → Mo (Option Int) := fun ρ S => rb (m ρ S) fun d S => match d with
  | .int i => some (.ok (some i) S)
  | _ => none
theorem s_no : PO X none (tOo B fun _ S => some (.ok none S)) := po_none.imp fun σ H Q ⟨μ, S, F, ρ, r, g⟩ => g.here r.toSok
theorem s_so (ha : PE X a (tW B ma)) : PO X (some a) (tOo B (oI ma)) := by
  refine (po_some ha).imp fun σ H Q ⟨μ, S, F, ρ, r, g⟩ => one r g fun x S2 μ2 F2 H2 v r2 k2 rv g2 => ?_
  match x, g2 with
  | .int i, g2 => cases rv.int; exact ⟨i, rfl, g2.here r2.toSok⟩
theorem cut_rep {Γ : Wd} {μ : List Addr} {F : Hp} {xs : List V} {ds : List D} (r : Reps Γ μ F xs ds) (lo hi : Option Int) : Reps Γ μ F (cutV xs lo hi) (cutG ds lo hi) := by
  unfold cutV cutG
  rw [r.length]
  exact (r.drop _).take _
theorem cut_all {ds : List D} {lo hi : Option Int} (h : HT.sIx ds.length 0 lo = 0 ∧ HT.sIx ds.length ds.length hi = ds.length) : cutG ds lo hi = ds := by
  unfold cutG
  rw [h.1, h.2, List.drop_zero, Nat.sub_zero, List.take_length]
theorem s_slc (hK : X.K = B.Γ.K) {lo hi : Option Expr} {ml mh : Env → Sto → Mo (Option Int)} {p2 : Pos} (ha : PE X a (tW B ma)) (hl : PO X lo (tOo B ml)) (hh : PO X hi (tOo B mh)) :
    PE X (.Subscript a (.Slice lo hi none p2) pos) (tE B fun ρ S => rb (ma ρ S) fun x S => rb (ml ρ S) fun l S => rb (mh ρ S) fun h S => lift (slcD x l h) S) := by
  refine (pe_slice (sl_list.or (sl_tupA.or sl_str)) ha hl hh).imp fun σ H Q ⟨μ, S, F, ρ, r, g⟩ => one r g fun x S1 μ1 F1 H1 v r1 k1 rv g1 => ?_
  refine ⟨μ1, S1, F1, ρ, r1, g1.bind.mono fun l S2 μ2 F2 H2 k2 g2 => ?_⟩
  refine ⟨μ2, S2, F2, ρ, r1.step k2, g2.bind.mono fun h S3 μ3 F3 H3 k3 g3 => ?_⟩
  obtain ⟨z, hz, g4⟩ := g3.lift
  clear g g1 g2 g3
  have rv := (rv.kp k2).kp k3
  have le := k3.toSok.le
  rw [hK]
  match x, hz with
  | .lst ds, hz =>
    cases hz
    obtain ⟨p, xs, rfl, h1, h2⟩ := rv.lst
    exact .inl ⟨p, xs, rfl, h1.sq le, doneL g4 k3.toSok (cut_rep h2 l h)⟩
  | .tup ds, hz =>
    cases hz
    obtain ⟨p, xs, rfl, h1, h2⟩ := rv.tup
    refine .inr (.inl ⟨p, xs, rfl, st_le le h1, fun e => ?_, fun _ => doneT g4 k3.toSok (cut_rep h2 l h)⟩)
    rw [h2.length] at e
    rw [cut_all e] at g4
    exact done g4 k3.toSok (.tup h1 h2)
  | .str x, hz =>
    have hz : (if x.length ≤ maxLen then some (D.str (cutS x l h)) else none) = some z := hz
    split at hz
    · cases hz
      cases rv.str
      exact .inr (.inr ⟨x, rfl, ‹_›, done g4 k3.toSok (.str _)⟩)
    · cases hz
theorem PE.or2 {t t' : TE} (h : PE X e t) (h' : PE X e t') : PE X e (fun σ H Q => t σ H Q ∨ t' σ H Q) := ⟨fun pins s σ H Q I q => q.elim (h.run pins s σ H Q I) (h'.run pins s σ H Q I)⟩
theorem s_rev (hK : X.K = B.Γ.K) {k : Nat} {p1 p2 p3 : Pos} (ha : PE X a (tW B ma)) : PE X (.Subscript a (.Slice none none (some (.UnaryOp .USub (.Constant (.int 1) k p1) p2)) p3) pos) (tE B fun ρ S => rb (ma ρ S) fun x S => lift (revD x) S) := by
  refine (PE.or2 (pe_revL ha) (pe_revT ha)).imp fun σ H Q ⟨μ, S, F, ρ, r, g⟩ => ?_
  have hb := g.bind
  match q : ma ρ S, hb with
  | some (.ex x S'), hb => exact .inl ⟨μ, S, F, ρ, r, by rw [q]; exact hb⟩
  | some (.ok d S'), hb =>
    cases d with
    | tup ds =>
      refine .inr ⟨μ, S, F, ρ, r, ?_⟩
      rw [q]
      intro μ1 F1 H1 k1 v rv
      obtain ⟨p, xs, rfl, h1, h2⟩ := rv.tup
      rw [hK]
      exact ⟨p, xs, rfl, st_le k1.toSok.le h1, doneT (hb μ1 F1 H1 k1) k1.toSok h2.reverse⟩
    | lst ds =>
      refine .inl ⟨μ, S, F, ρ, r, ?_⟩
      rw [q]
      intro μ1 F1 H1 k1 v rv
      obtain ⟨p, xs, rfl, h1, h2⟩ := rv.lst
      rw [hK]
      exact ⟨p, xs, rfl, h1.sq k1.toSok.le, doneL (hb μ1 F1 H1 k1) k1.toSok h2.reverse⟩
    | _ =>
      refine .inl ⟨μ, S, F, ρ, r, ?_⟩
      rw [q]
      intro μ1 F1 H1 k1 v rv
      exact (hb μ1 F1 H1 k1).elim

/-! ### built-in functions of one value -/
theorem bls_V {Γ : Wd} {μ : List Addr} {F : Hp} : ∀ {ds : List D} {xs : List V} {bs : List Bool}, Reps Γ μ F xs ds → bls ds = some bs → xs = bs.map V.bl
  | [], _, _, h, e => by cases h; cases e; rfl
  | d :: ds, _, bs, h, e => by
    cases h with
    | cons h1 h2 =>
      cases d <;> first | (cases e; done) | skip
      rename_i b
      have e : (bls ds).map (b :: ·) = some bs := e
      obtain ⟨cs, hc, rfl⟩ := Option.map_eq_some_iff.mp e
      cases h1
      rw [bls_V h2 hc]; rfl
def bltId : Blt → Value
  | .len => .builtin "len" | .tuple => .type "tuple" | .list => .type "list" | .int => .type "int" | .all => .builtin "all" | .any => .builtin "any"
  | .sorted => .builtin "sorted" | .repr => .builtin "repr" | .str => .type "str"
/-- those that hand on a value (a new list is frozen) -/
theorem s_len (hK : X.K = B.Γ.K) {p : Pos} (hg : Gl X "len") (hm : X.mg "len" = none) (ha : PE X a (tW B ma)) (st : starEach [a] X.env = [(false, eval a X.env)]) :
    PE X (.Call (.Name "len" p) [a] [] pos) (tE B fun ρ S => rb (ma ρ S) fun x S => lift (bltD .len x) S) := by
  refine (pe_callB (call_len_seq.or call_len_str) hg hm PySem.boot_len (pa_cons ha pa_nil st) (he := st)).imp fun σ H Q ⟨μ, S, F, ρ, r, g⟩ => one r g fun x S1 μ1 F1 H1 v r1 k1 rv g1 => ?_
  obtain ⟨z, hz, g4⟩ := g1.lift
  clear g g1
  have le := k1.toSok.le
  match x, hz with
  | .lst ds, hz =>
    cases hz
    obtain ⟨p, xs, rfl, h1, h2⟩ := rv.lst
    rw [hK]
    exact .inl ⟨p, xs, rfl, .inl (h1.sq le), by rw [h2.length]; exact done g4 k1.toSok (.int _)⟩
  | .tup ds, hz =>
    cases hz
    obtain ⟨p, xs, rfl, h1, h2⟩ := rv.tup
    rw [hK]
    exact .inl ⟨p, xs, rfl, .inr (st_le le h1), by rw [h2.length]; exact done g4 k1.toSok (.int _)⟩
  | .str x, hz =>
    have hz : (if x.length ≤ maxLen then some (D.int x.length) else none) = some z := hz
    split at hz
    · cases hz; cases rv.str
      exact .inr ⟨x, rfl, ‹_›, done g4 k1.toSok (.int _)⟩
    · cases hz
theorem s_int {p : Pos} (hg : Gl X "int") (hm : X.mg "int" = none) (ha : PE X a (tW B ma)) (st : starEach [a] X.env = [(false, eval a X.env)]) :
    PE X (.Call (.Name "int" p) [a] [] pos) (tE B fun ρ S => rb (ma ρ S) fun x S => lift (bltD .int x) S) := by
  refine (pe_callTy call_int1 hg hm (by decide +kernel) (pa_cons ha pa_nil st) (he := st)).imp fun σ H Q ⟨μ, S, F, ρ, r, g⟩ => one r g fun x S1 μ1 F1 H1 v r1 k1 rv g1 => ?_
  obtain ⟨z, hz, g4⟩ := g1.lift
  clear g g1
  match x, hz with
  | .int i, hz => cases hz; cases rv.int; exact .inl ⟨i, rfl, done g4 k1.toSok (.int _)⟩
  | .bl b, hz => cases hz; cases rv.bl; exact .inr ⟨b, rfl, done g4 k1.toSok (.int _)⟩
theorem s_tuple (hK : X.K = B.Γ.K) {p : Pos} (hg : Gl X "tuple") (hm : X.mg "tuple" = none) (ha : PE X a (tW B ma)) (st : starEach [a] X.env = [(false, eval a X.env)]) :
    PE X (.Call (.Name "tuple" p) [a] [] pos) (tE B fun ρ S => rb (ma ρ S) fun x S => lift (bltD .tuple x) S) := by
  refine (pe_callTy call_tuple_of hg hm (by decide +kernel) (pa_cons ha pa_nil st) (he := st)).imp fun σ H Q ⟨μ, S, F, ρ, r, g⟩ => one r g fun x S1 μ1 F1 H1 v r1 k1 rv g1 => ?_
  obtain ⟨z, hz, g4⟩ := g1.lift
  clear g g1
  have le := k1.toSok.le
  rw [hK]
  match x, hz with
  | .lst ds, hz =>
    obtain ⟨hl, rfl⟩ := mkT_some hz
    obtain ⟨p, xs, rfl, h1, h2⟩ := rv.lst
    exact ⟨p, xs, rfl, .inl ⟨h1.sq le, doneT g4 k1.toSok h2⟩⟩
  | .tup ds, hz =>
    cases hz
    obtain ⟨p, xs, rfl, h1, h2⟩ := rv.tup
    exact ⟨p, xs, rfl, .inr ⟨st_le le h1, done g4 k1.toSok (.tup h1 h2)⟩⟩
theorem s_list (hK : X.K = B.Γ.K) {p : Pos} (hg : Gl X "list") (hm : X.mg "list" = none) (ha : PE X a (tW B ma)) (st : starEach [a] X.env = [(false, eval a X.env)]) :
    PE X (.Call (.Name "list" p) [a] [] pos) (tN B fun ρ S => rb (ma ρ S) fun x S => lift (bltD .list x) S) := by
  refine (pe_callTy call_list_of hg hm (by decide +kernel) (pa_cons ha pa_nil st) (he := st)).imp fun σ H Q ⟨μ, S, F, ρ, r, g⟩ => one r g fun x S1 μ1 F1 H1 v r1 k1 rv g1 => ?_
  obtain ⟨z, hz, g4⟩ := g1.lift
  clear g g1
  have le := k1.toSok.le
  rw [hK]
  match x, hz with
  | .lst ds, hz =>
    obtain ⟨hl, rfl⟩ := mkL_some hz
    obtain ⟨p, xs, rfl, h1, h2⟩ := rv.lst
    exact ⟨p, xs, rfl, .inl (h1.sq le), doneN g4 k1 h2⟩
  | .tup ds, hz =>
    obtain ⟨hl, rfl⟩ := mkL_some hz
    obtain ⟨p, xs, rfl, h1, h2⟩ := rv.tup
    exact ⟨p, xs, rfl, .inr (st_le le h1), doneN g4 k1 h2⟩
theorem s_all (hK : X.K = B.Γ.K) (hcm : X.calm = true) {p : Pos} (hg : Gl X "all") (hm : X.mg "all" = none) (ha : PE X a (tW B ma)) (st : starEach [a] X.env = [(false, eval a X.env)]) :
    PE X (.Call (.Name "all" p) [a] [] pos) (tE B fun ρ S => rb (ma ρ S) fun x S => lift (bltD .all x) S) := by
  refine (pe_callB (cr_all hcm) hg hm (by decide +kernel) (pa_cons ha pa_nil st) (he := st)).imp fun σ H Q ⟨μ, S, F, ρ, r, g⟩ => one r g fun x S1 μ1 F1 H1 v r1 k1 rv g1 => ?_
  obtain ⟨z, hz, g4⟩ := g1.lift
  clear g g1
  rw [hK]
  match x, hz with
  | .lst ds, hz =>
    have hz : (bls ds).map (fun bs => D.bl (bs.all id)) = some z := hz
    obtain ⟨bs, hb, rfl⟩ := Option.map_eq_some_iff.mp hz
    obtain ⟨p, xs, rfl, h1, h2⟩ := rv.lst
    exact ⟨p, bs, rfl, by rw [← bls_V h2 hb]; exact h1.sq k1.toSok.le, done g4 k1.toSok (.bl _)⟩
theorem s_any (hK : X.K = B.Γ.K) (hcm : X.calm = true) {p : Pos} (hg : Gl X "any") (hm : X.mg "any" = none) (ha : PE X a (tW B ma)) (st : starEach [a] X.env = [(false, eval a X.env)]) :
    PE X (.Call (.Name "any" p) [a] [] pos) (tE B fun ρ S => rb (ma ρ S) fun x S => lift (bltD .any x) S) := by
  refine (pe_callB (cr_any hcm) hg hm (by decide +kernel) (pa_cons ha pa_nil st) (he := st)).imp fun σ H Q ⟨μ, S, F, ρ, r, g⟩ => one r g fun x S1 μ1 F1 H1 v r1 k1 rv g1 => ?_
  obtain ⟨z, hz, g4⟩ := g1.lift
  clear g g1
  rw [hK]
  match x, hz with
  | .lst ds, hz =>
    have hz : (bls ds).map (fun bs => D.bl (bs.any id)) = some z := hz
    obtain ⟨bs, hb, rfl⟩ := Option.map_eq_some_iff.mp hz
    obtain ⟨p, xs, rfl, h1, h2⟩ := rv.lst
    exact ⟨p, bs, rfl, by rw [← bls_V h2 hb]; exact h1.sq k1.toSok.le, done g4 k1.toSok (.bl _)⟩

/-! ### isinstance against a built-in class -/
def ityS : Ity → String
  | .str => "str" | .int => "int" | .bool => "bool" | .tuple => "tuple" | .list => "list"
theorem ity_list {K : PySem.W.Frag} {H : Hp} {a : Addr} {xs : List V} (h : SqL K H a xs) : TyX K H (.ref a) (.type "list") := by
  rcases h with (h | ⟨o, h⟩) | ⟨o, its, n, h1, h2, _⟩
  · exact .base (.lst h)
  · exact .base (.frz h)
  · exact .kList h1 h2
theorem ity_tup {K : PySem.W.Frag} {H : Hp} {a : Addr} {xs : List V} (h : SqT K H a xs) : TyX K H (.ref a) (.type "tuple") := by
  rcases h with (h | ⟨o, h⟩) | ⟨o, its, n, h1, h2, _⟩
  · exact .base (.tup h)
  · exact .fTuple h
  · exact .kTuple h1 h2
theorem tyN_ok {Γ : Wd} {μ : List Addr} {F H : Hp} {v : V} {d : D} {n : String} (le : ∀ a o, F a = some o → H a = some o) (h : RepL Γ μ F H v d) (e : tyN d = some n) : TyX Γ.K H v (.type n) := by
  cases d <;> first | (cases e; done) | skip
  · cases e; cases h.non; exact .base .non
  · cases e; cases h.bl; exact .base (.bl _)
  · cases e; cases h.int; exact .base (.int _)
  · cases e; cases h.str; exact .base (.str _)
  · cases e
    obtain ⟨a, xs, rfl, h1, h2⟩ := h.tup
    exact ity_tup (st_le le h1)
  · cases e
    obtain ⟨a, xs, rfl, h1, h2⟩ := h.lst
    exact ity_list (h1.sq le)
theorem ity_kit (t : Ity) : ∀ n ∈ ["NoneType", "bool", "int", "str", "tuple", "list"], kitB n (ityS t) = some (decide (n = ityS t) || (decide (n = "bool") && decide (ityS t = "int"))) := by
  cases t <;> decide +kernel
theorem s_isa (hK : X.K = B.Γ.K) {t : Ity} {p p2 : Pos} (hg : Gl X "isinstance") (hm : X.mg "isinstance" = none) (ha : PE X a (tW B ma)) (hc : PE X (.Name (Str.ofString (ityS t)) p2) (tC (.ty (ityS t))))
    (st : starEach [a, .Name (Str.ofString (ityS t)) p2] X.env = (false, eval a X.env) :: starEach [.Name (Str.ofString (ityS t)) p2] X.env) :
    PE X (.Call (.Name "isinstance" p) [a, .Name (Str.ofString (ityS t)) p2] [] pos) (tE B fun ρ S => rb (ma ρ S) fun x S => lift ((tyN x).map fun _ => .bl (isaD t x)) S) := by
  refine (pe_callB call_isi hg hm (by decide +kernel) (pa_cons ha (pa_cons hc pa_nil) st) (he := st)).imp fun σ H Q ⟨μ, S, F, ρ, r, g⟩ => one r g fun x S1 μ1 F1 H1 v r1 k1 rv g1 => ?_
  obtain ⟨z, hz, g4⟩ := g1.lift
  clear g g1
  obtain ⟨n, hn, rfl⟩ := Option.map_eq_some_iff.mp hz
  rw [hK]
  refine ⟨v, .ty (ityS t), .type n, .type (ityS t), isaD t x, rfl, .ty _, tyN_ok k1.toSok.le rv hn, kit_ty ?_, done g4 k1.toSok (.bl _)⟩
  have key : ∀ b, isaD t x = b → kitB n (ityS t) = some b := fun b hb => by
    rw [ity_kit t n (by cases x <;> first | (cases hn; done) | (cases hn; simp))]
    rw [← hb]
    cases x <;> first | (cases hn; done) | (cases hn; cases t <;> rfl)
  exact key _ rfl

/-! ### repr, str -/
mutual
theorem toPy_nodict : ∀ (d : D) (p : PyData), d.toPy = some p → p.hasDict = false
  | .non, p, h => by cases h; rfl
  | .bl b, p, h => by cases h; rfl
  | .int i, p, h => by cases h; rfl
  | .str x, p, h => by cases h; rfl
  | .tup ds, p, h => by
    obtain ⟨ps, h1, rfl⟩ := Option.map_eq_some_iff.mp (show (D.toPys ds).map PyData.tuple = some p by unfold D.toPy at h; exact h)
    simp only [PyData.hasDict]
    exact toPys_nodict ds ps h1
  | .lst ds, p, h => by
    obtain ⟨ps, h1, rfl⟩ := Option.map_eq_some_iff.mp (show (D.toPys ds).map PyData.list = some p by unfold D.toPy at h; exact h)
    simp only [PyData.hasDict]
    exact toPys_nodict ds ps h1
  | .loc n, p, h => by cases h
  | .fn n, p, h => by cases h
theorem toPys_nodict : ∀ (ds : List D) (ps : List PyData), D.toPys ds = some ps → PyData.hasDictAll ps = false
  | [], ps, h => by unfold D.toPys at h; cases h; rfl
  | d :: ds, ps, h => by
    unfold D.toPys at h
    split at h
    · rename_i p ps' h1 h2
      cases h
      simp only [PyData.hasDictAll, toPy_nodict d _ h1, toPys_nodict ds _ h2, Bool.or_self]
    · cases h
end
theorem call_reprD (hgu : X.A.guards = some []) (hu : X.A.units + 65 < cLine) : CallR X (.builtin "repr") (fun xs H Q => ∃ v p, xs = [v] ∧ Dp X.K H v p ∧ p.hasDict = false ∧ p.showable = true ∧ p.depth ≤ 60 ∧ p.shown.length ≤ sizeLine ∧ Q (.str p.shown) H) := by
  intro pins s σ H xs us Q I r h
  obtain ⟨v, p, rfl, hp, hnd, hs, hd, hz, q⟩ := h
  obtain ⟨u, rfl, rv⟩ := vals1 r
  obtain ⟨as, rr⟩ := Dp.reads I p v u hp rv
  cases hp with
  | non => cases rv; exact PySem.P.repr_of_none ⟨.str _, H, I.tok _, ⟨_, rfl⟩, q⟩
  | bl b => cases rv; exact PySem.P.repr_of_bool ⟨.str _, H, I.tok _, ⟨_, rfl⟩, q⟩
  | int i =>
    obtain ⟨t, rfl⟩ := rv
    exact PySem.P.repr_of_int (by simpa [PyData.showable] using hs) ⟨.str _, H, I.tok _, ⟨_, rfl⟩, q⟩
  | str x =>
    obtain ⟨t, rfl⟩ := rv
    exact PySem.P.repr_of_str ⟨.str _, H, I.tok _, ⟨_, rfl⟩, q⟩ (by simpa [PyData.shown] using hz)
  | lst h1 h2 =>
    cases rv
    exact repr_of_reads' rr hs (PyData.noDict_hsm hnd) hgu (by omega) (fun _ _ e => e) (fun h' u tk hk => ⟨.str _, H, I.kept (t' := tk) hk, ⟨_, rfl⟩, q⟩) hz
  | tup h1 h2 =>
    cases rv
    exact repr_of_reads' rr hs (PyData.noDict_hsm hnd) hgu (by omega) (fun _ _ e => e) (fun h' u tk hk => ⟨.str _, H, I.kept (t' := tk) hk, ⟨_, rfl⟩, q⟩) hz
theorem s_repr (hK : X.K = B.Γ.K) (hgu : X.A.guards = some []) (hu : X.A.units + 65 < cLine) {p : Pos} (hg : Gl X "repr") (hm : X.mg "repr" = none) (ha : PE X a (tW B ma)) (st : starEach [a] X.env = [(false, eval a X.env)]) :
    PE X (.Call (.Name "repr" p) [a] [] pos) (tE B fun ρ S => rb (ma ρ S) fun x S => lift (bltD .repr x) S) := by
  refine (pe_callB (call_reprD hgu hu) hg hm (by decide +kernel) (pa_cons ha pa_nil st) (he := st)).imp fun σ H Q ⟨μ, S, F, ρ, r, g⟩ => one r g fun x S1 μ1 F1 H1 v r1 k1 rv g1 => ?_
  obtain ⟨z, hz, g4⟩ := g1.lift
  have hz : reprD x = some z := by cases x <;> exact hz
  unfold reprD at hz
  cases q : x.toPy with
  | none => simp only [q] at hz; cases hz
  | some pd =>
    simp only [q] at hz
    split at hz
    · rename_i hc
      cases hz
      rw [hK]
      exact ⟨v, pd, rfl, rv.dp k1.toSok.le q, toPy_nodict x pd q, hc.1, hc.2.1, hc.2.2, done g4 k1.toSok (.str _)⟩
    · cases hz
theorem s_str {p : Pos} (hg : Gl X "str") (hm : X.mg "str" = none) (ha : PE X a (tW B ma)) (st : starEach [a] X.env = [(false, eval a X.env)]) :
    PE X (.Call (.Name "str" p) [a] [] pos) (tE B fun ρ S => rb (ma ρ S) fun x S => lift (bltD .str x) S) := by
  refine (pe_callTy (call_str_int.or call_str_strX) hg hm (by decide +kernel) (pa_cons ha pa_nil st) (he := st)).imp fun σ H Q ⟨μ, S, F, ρ, r, g⟩ => one r g fun x S1 μ1 F1 H1 v r1 k1 rv g1 => ?_
  obtain ⟨z, hz, g4⟩ := g1.lift
  cases x <;> first | (cases hz; done) | skip
  · rename_i i
    have hz : (if i.natAbs.log2 < 1920 then some (D.str (toString i)) else none) = some z := hz
    split at hz
    · cases hz; cases rv.int
      exact .inl ⟨i, rfl, ‹_›, done g4 k1.toSok (.str _)⟩
    · cases hz
  · rename_i y
    cases hz; cases rv.str
    exact .inr ⟨y, rfl, done g4 k1.toSok (.str _)⟩

/-! ### sorted -/
theorem s_sorted (hK : X.K = B.Γ.K) (hu : X.A.units + 65 < cLine) {p : Pos} (hg : Gl X "sorted") (hm : X.mg "sorted" = none) (ha : PE X a (tW B ma)) (st : starEach [a] X.env = [(false, eval a X.env)]) :
    PE X (.Call (.Name "sorted" p) [a] [] pos) (tN B fun ρ S => rb (ma ρ S) fun x S => lift (bltD .sorted x) S) := by
  refine (pe_callB (call_sortedD hu) hg hm (by decide +kernel) (pa_cons ha pa_nil st) (he := st)).imp fun σ H Q ⟨μ, S, F, ρ, r, g⟩ => one r g fun x S1 μ1 F1 H1 v r1 k1 rv g1 => ?_
  obtain ⟨z, hz, g4⟩ := g1.lift
  clear g g1
  match x, hz with
  | .lst ds, hz =>
    have hz : sortD ds = some z := hz
    unfold sortD at hz
    cases q : D.toPys ds with
    | none => simp only [q] at hz; cases hz
    | some ps =>
      simp only [q] at hz
      split at hz
      · rename_i hc
        cases hz
        obtain ⟨p, xs, rfl, h1, h2⟩ := rv.lst
        rw [hK]
        refine ⟨p, xs, ps, rfl, h1.sq k1.toSok.le, dps_of k1.toSok.le ds xs ps h2 q, alike_of hc.1, sortable_of hc.2.1, fun p hp => ?_, doneN g4 k1 (sort_reps h2 (toPys_len q))⟩
        have := (List.all_eq_true.mp hc.2.2) p hp
        exact of_decide_eq_true this
      · cases hz
end
end Mi
end

section
set_option linter.all false
set_option maxRecDepth 100000
set_option Elab.async false
/-! MiK0: keys that are tuples of texts, numbers and tuples: the small questions that a set asks of them. -/
namespace Mi
open PySem PySem.Spec PyProof.Rows L2

/-- the tuple at b is the key k, not too deep -/
def KA (h : Heap) (k : NestedKey) (b : Addr) : Prop := NestedIs h k (.ref b) ∧ k.depth ≤ 7
section
variable {h h' : Heap} {k k' : NestedKey} {a b : Addr}
theorem KA.mv (x : KA h k b) (m : ∀ c o vs n, h.get? c = some o → o.data = .seq vs n → h'.get? c = some o) : KA h' k b := ⟨NestedIs.at m _ _ x.1, x.2⟩
theorem KA.up (x : KA h k b) (m : ∀ c o, h.get? c = some o → h'.get? c = some o) : KA h' k b := x.mv fun c o _ _ e _ => m c o e
theorem KA.uniq (x : KA h k b) (y : KA h k' b) : k = k' := NestedIs.inj _ _ _ x.1 y.1
/-- the key stays when the set at a changes -/
theorem KA.past {o : Obj} {es : Array (Int × Value)} {ep : Nat} {t : SetTable} (x : KA h k b) (ho : h.get? a = some o) (hd : o.data = .set es ep t) (m : Heap.SameBut a h h') : KA h' k b :=
  x.mv fun c u _ _ e q => by
    refine (m.2 c fun z => ?_).trans e
    subst z
    rw [ho] at e
    cases e
    rw [hd] at q
    cases q
end
theorem nested_each {h : Heap} : ∀ {ks : List NestedKey} {vs : List Value}, NestedAll h ks vs → ∀ v ∈ vs, ∃ k, NestedIs h k v ∧ k.depth ≤ NestedKey.depthAll ks
  | [], _, x, v, hv => by cases x; cases hv
  | k :: ks, _, x, v, hv => by
    cases x with
    | cons x1 x2 =>
      have e : NestedKey.depthAll (k :: ks) = max k.depth (NestedKey.depthAll ks) := rfl
      rcases List.mem_cons.mp hv with z | z
      · subst z; exact ⟨k, x1, by rw [e]; exact Nat.le_max_left ..⟩
      · obtain ⟨k', y1, y2⟩ := nested_each x2 v z
        exact ⟨k', y1, by rw [e]; exact Nat.le_trans y2 (Nat.le_max_right ..)⟩

section
variable {P : Program} {w : World} {A : Around} {E : Value → Shared → Prop} {s : Shared}
/-- no key is of a class statement -/
theorem key_noCls : ∀ (n : Nat) (k : NestedKey) (v : Value) (Q : Bool → Shared → Prop), NestedIs s.heap k v → k.depth ≤ n → Q false s → wpAny (model P w) A (ofAClassStatement n v) Q E s := by
  intro n
  induction n with
  | zero =>
    intro k v Q x hn hq
    cases x with
    | tup _ _ _ _ => simp [NestedKey.depth] at hn
    | _ => exact wpAny_pure hq
  | succ n ih =>
    intro k v Q x hn hq
    cases x with
    | @tup a o vs c ks ho hc hd hk =>
      have hn' : NestedKey.depthAll ks ≤ n := Nat.le_of_succ_le_succ hn
      unfold ofAClassStatement
      refine wpAny_bind (wpAny_typeOf ⟨o, ho, hc⟩ ?_)
      have e : (("tuple" : String) == "tuple") = true := by decide
      simp only [e, if_true]
      refine wpAny_bind (wpAny_pure ?_)
      simp only [Bool.not_true, Bool.false_eq_true, if_false]
      refine wpAny_bind (wpAny_seqItems ho hd ?_)
      dsimp only
      refine wpAny_bind ?_
      rw [← Array.forIn_toList]
      refine wpAny_forIn_list _ (fun rest r s' => s' = s ∧ r.1 = none ∧ ∀ v ∈ rest, ∃ k, NestedIs s.heap k v ∧ k.depth ≤ n) _ (fun v rest r s' q => ?turn) (fun r s' q => ?fin) _ _ ⟨rfl, rfl, fun v hv => ?init⟩
      case turn =>
        obtain ⟨e1, e2, e3⟩ := q
        subst e1
        obtain ⟨k', y1, y2⟩ := e3 v List.mem_cons_self
        refine wpAny_bind (ih k' v _ y1 y2 ?_)
        simp only [Bool.false_eq_true, if_false]
        exact wpAny_pure ⟨rfl, rfl, fun u hu => e3 u (List.mem_cons_of_mem _ hu)⟩
      case fin =>
        obtain ⟨e1, e2, _⟩ := q
        subst e1
        obtain ⟨r1, r2⟩ := r
        cases e2
        exact wpAny_pure hq
      case init =>
        obtain ⟨k', y1, y2⟩ := nested_each hk v hv
        exact ⟨k', y1, Nat.le_trans y2 hn'⟩
    | _ => exact wpAny_pure hq
/-- whether a key's hash hangs on its value alone: one of both -/
theorem key_byVal : ∀ (n : Nat) (k : NestedKey) (v : Value) (Q : Bool → Shared → Prop), NestedIs s.heap k v → (∀ b, Q b s) → wpAny (model P w) A (hashByValue n v) Q E s := by
  intro n
  induction n with
  | zero =>
    intro k v Q x hq
    cases x <;> exact wpAny_pure (hq _)
  | succ n ih =>
    intro k v Q x hq
    cases x with
    | @tup a o vs c ks ho hc hd hk =>
      unfold hashByValue
      refine wpAny_bind (wpAny_specialOf (T := "tuple") ⟨o, ho, hc⟩ F.slot_tuple_hash.lookup ?_)
      show wpAny _ _ (seqItems? (.ref a) >>= _) _ _ s
      refine wpAny_bind (wpAny_seqItems ho hd ?_)
      refine wpAny_bind ?_
      show wpAny _ _ (forIn vs _ _) _ _ s
      rw [← Array.forIn_toList]
      refine wpAny_forIn_list _ (fun rest r s' => s' = s ∧ ∀ v ∈ rest, ∃ k, NestedIs s.heap k v) _ (fun v rest r s' q => ?turn) (fun r s' q => ?fin) _ _ ⟨rfl, fun v hv => ?init⟩
      case turn =>
        obtain ⟨e1, e3⟩ := q
        subst e1
        obtain ⟨k', y1⟩ := e3 v List.mem_cons_self
        refine wpAny_bind (ih k' v _ y1 fun b => ?_)
        cases b with
        | true => exact wpAny_pure ⟨rfl, fun u hu => e3 u (List.mem_cons_of_mem _ hu)⟩
        | false => exact wpAny_pure (wpAny_pure (hq _))
      case fin =>
        obtain ⟨e1, _⟩ := q
        subst e1
        obtain ⟨r1, r2⟩ := r
        cases r1 with
        | none => exact wpAny_pure (hq _)
        | some z => exact wpAny_pure (hq _)
      case init =>
        obtain ⟨k', y1, _⟩ := nested_each hk v hv
        exact ⟨k', y1⟩
    | _ => exact wpAny_pure (hq _)
/-- looking a key up among keys shows nothing of the table -/
theorem key_unseen {k : NestedKey} {b : Addr} {Q : Bool → Shared → Prop} (hk : KA s.heap k b) {ys : List Value} (hy : ∀ y ∈ ys, ∃ k' c, y = Value.ref c ∧ KA s.heap k' c) (hq : Q false s) :
    wpAny (model P w) A (searchCouldBeSeen (.ref b) ys) Q E s := by
  unfold searchCouldBeSeen
  refine wpAny_bind (wpAny_forIn_list _ (fun rest r s' => s' = s ∧ r.1 = none ∧ ∀ y ∈ rest, ∃ k' c, y = Value.ref c ∧ KA s.heap k' c) _ (fun v rest r s' q => ?turn) (fun r s' q => ?fin) _ _ ⟨rfl, rfl, hy⟩)
  case turn =>
    obtain ⟨e1, e2, e3⟩ := q
    subst e1
    obtain ⟨k', c, rfl, hc⟩ := e3 v List.mem_cons_self
    have more : ∀ y ∈ rest, ∃ k' c, y = Value.ref c ∧ KA s'.heap k' c := fun u hu => e3 u (List.mem_cons_of_mem _ hu)
    dsimp only
    by_cases very : (b == c || (carriedByValue (.ref b) && carriedByValue (.ref c))) = true
    · exact wp_if_pos very (wpAny_pure ⟨rfl, rfl, more⟩)
    · refine wp_if_neg very (wpAny_bind (quiet_key k _ 8 s' hk.1 (Nat.le_succ_of_le hk.2) _ _ _ ?_))
      simp only [Bool.not_true, Bool.false_eq_true, if_false]
      refine wpAny_bind (quiet_key k' _ 8 s' hc.1 (Nat.le_succ_of_le hc.2) _ _ _ ?_)
      simp only [Bool.not_true, Bool.false_eq_true, if_false]
      refine wpAny_bind (key_noCls 8 k _ _ hk.1 (Nat.le_succ_of_le hk.2) ?_)
      simp only [Bool.false_eq_true, if_false]
      refine wpAny_bind (key_noCls 8 k' _ _ hc.1 (Nat.le_succ_of_le hc.2) ?_)
      simp only [Bool.false_eq_true, if_false]
      exact wpAny_pure ⟨rfl, rfl, more⟩
  case fin =>
    obtain ⟨e1, e2, _⟩ := q
    subst e1
    obtain ⟨r1, r2⟩ := r
    cases e2
    exact wpAny_pure hq
end
end Mi
end

section
set_option linter.all false
set_option maxRecDepth 100000
set_option Elab.async false
/-! MiK1: a set of such keys: looking a key up. -/
namespace Mi
open PySem PySem.Spec PyProof.Rows L2

abbrev KL := List (Addr × NestedKey)
def khs (w : World) (L : KL) : List Int := L.map fun q => q.2.hash w
def krw (w : World) (q : Addr × NestedKey) : Int × Value := (q.2.hash w, Value.ref q.1)
/-- rows and table of a set that has the keys L -/
structure KT (w : World) (L : KL) (es : Array (Int × Value)) (t : SetTable) : Prop where
  rows : es.toList = L.map (krw w)
  tab : TabOk t (khs w L)
  nd : (L.map (·.2)).Nodup
  led : w.params.followText "set-order" = true ∨ t.led = true
  room : L.length * 5 < t.mask * 3
  few : L.length < 64
/-- where a search for the hash h is after c steps -/
def prb (m : Nat) (h : Int) (c : Nat) : SetTable.Probe := nth m (runAt m (SetTable.bits h % (m + 1)) (SetTable.bits h)) c
theorem prb_add (m : Nat) (h : Int) (c q : Nat) : nth m (prb m h c) q = prb m h (c + q) := (nth_add m c _ q).symm
theorem prb_dm (m : Nat) (h : Int) (c : Nat) : (prb m h c).dummy = none := by
  have go : ∀ (n : Nat) (p : SetTable.Probe), p.dummy = none → (nth m p n).dummy = none := fun n => by
    induction n with
    | zero => exact fun p e => e
    | succ n ih => exact fun p e => ih (adv m p) (by unfold adv; split <;> exact e)
  exact go c _ rfl

section
variable {P : Program} {w : World} {A : Around} {E : Value → Shared → Prop} {s : Shared} {a : Addr} {o : Obj} {L : KL} {es : Array (Int × Value)} {ep : Nat} {t : SetTable}
theorem KT.size (T : KT w L es t) : es.size = L.length := by
  rw [← Array.length_toList, T.rows, List.length_map]
theorem KT.psize (T : KT w L es t) : t.place.toList.length = L.length := by
  rw [Array.length_toList, T.tab.sz]; unfold khs; rw [List.length_map]
theorem KT.fits (T : KT w L es t) : t.fits es.size = true := by
  have e1 := T.psize
  have e2 := T.room
  rw [Array.length_toList] at e1
  unfold SetTable.fits SetTable.fill
  rw [T.tab.dm, T.size, Bool.and_eq_true, beq_iff_eq, decide_eq_true_eq]
  refine ⟨e1, ?_⟩
  show t.place.size + 0 ≤ t.mask
  omega
theorem KT.at (T : KT w L es t) {i : Nat} {q : Addr × NestedKey} (e : L[i]? = some q) : es[i]? = some (krw w q) := by
  rw [← Array.getElem?_toList, T.rows, List.getElem?_map, e]; rfl
theorem KT.hashAt (T : KT w L es t) {i : Nat} {q : Addr × NestedKey} (e : L[i]? = some q) : (es[i]?.map (·.1)).getD 0 = q.2.hash w := by
  rw [T.at e]; rfl
theorem KT.noGw (T : KT w L es t) : ¬ t.gaveWay = true := by
  unfold SetTable.gaveWay
  rw [mask_odd T.tab.mok]; decide
theorem KT.place_at (T : KT w L es t) {i j : Nat} (e : t.place.toList[i]? = some j) : ∃ q, L[i]? = some q := by
  have h1 := (List.getElem?_eq_some_iff.mp e).1
  rw [T.psize] at h1
  exact ⟨_, List.getElem?_eq_getElem h1⟩

/-- behind a candidate that is another key: the search goes on -/
theorem key_rest (T : KT w L es t) (ho : s.heap.get? a = some o) (hd : o.data = .set es ep t) (hL : ∀ q ∈ L, KA s.heap q.2 q.1) {x : Addr} {k : NestedKey} (hx : KA s.heap k x) (hu : A.units + 8 < cLine) {Q : SetFound → Shared → Prop}
    (hin : k ∈ L.map (·.2) → Q (.there none) s) {f i j : Nat} {q : Addr × NestedKey} {next : SetTable.Probe} (hq : L[i]? = some q) (hj : t.place.toList[i]? = some j) (h : Int)
    (hne : q.2 ≠ k → wpAny (model P w) A (setSearchFrom a (.ref x) h true f (some next)) Q E s) : wpAny (model P w) A (searchRest a (.ref x) h true f es t j i next) Q E s := by
  have hm : q ∈ L := List.mem_of_getElem? hq
  have hr : (nestedKind P w).room A := hu
  unfold searchRest
  rw [T.at hq]
  refine wpAny_bind (wpAny_holding ((nestedKind P w).eqBool hr (x := q.2) (y := k) ⟨(hL q hm).1, Nat.le_succ_of_le (hL q hm).2⟩ ⟨hx.1, Nat.le_succ_of_le hx.2⟩ ?_))
  refine wpAny_bind (wpAny_setState_of ho hd T.fits ?_)
  dsimp only
  by_cases e : q.2 = k
  · exact wp_if_pos (by simp [e]) (wpAny_pure (hin (List.mem_map.mpr ⟨q, hm, e⟩)))
  · refine wp_if_neg (by simp [e]) ?_
    try refine wpAny_bind (wpAny_pure ?_)
    rw [sameMem]
    have live : t.slot j = .live i := slot_live T.tab.ris hj
    simp only [if_true, live, T.at hq]
    refine wpAny_bind (wpAny_isSame_ref_self (wpAny_bind (wpAny_pure ?_)))
    simp only [if_true]
    exact wp_if_neg (by simp [e]) (hne e)

/-- the search from its c-th step on; K is the first empty place of the way -/
theorem key_from (T : KT w L es t) (ho : s.heap.get? a = some o) (hd : o.data = .set es ep t) (hL : ∀ q ∈ L, KA s.heap q.2 q.1) {x : Addr} {k : NestedKey} (hx : KA s.heap k x) (hu : A.units + 8 < cLine) {K : Nat} (hKf : K < 10 * SetTable.turns t.mask)
    (hK : way t.mask (k.hash w) K ∉ t.place.toList) (hKb : ∀ c, c < K → way t.mask (k.hash w) c ∈ t.place.toList) {Q : SetFound → Shared → Prop}
    (hin : k ∈ L.map (·.2) → Q (.there none) s) (hout : k ∉ L.map (·.2) → Q (.free (way t.mask (k.hash w) K) false) s) :
    ∀ (f c : Nat) (st : Option SetTable.Probe), st.getD (t.probeStart (k.hash w)) = prb t.mask (k.hash w) c → c ≤ K → K < c + f →
      (∀ (i : Nat) q, L[i]? = some q → q.2 = k → ∃ c', (c ≤ c' ∧ c' < K) ∧ t.place.toList[i]? = some (way t.mask (k.hash w) c')) →
      wpAny (model P w) A (setSearchFrom a (.ref x) (k.hash w) true f st) Q E s := by
  intro f
  induction f with
  | zero => intro c st _ h1 h2; omega
  | succ f ih =>
    intro c st hst hc hf hre
    rw [setSearchFrom_succ]
    refine wpAny_bind (wpAny_setState_of ho hd T.fits ?_)
    dsimp only
    refine wp_if_neg T.noGw ?_
    try refine wpAny_bind (wpAny_pure ?_)
    have jj : ∀ q, (nth t.mask (prb t.mask (k.hash w) c) q).j = way t.mask (k.hash w) (c + q) := fun q => congrArg SetTable.Probe.j (prb_add ..)
    have cK : c + (K - c) = K := by omega
    have spec := go_spec t T.tab.ris T.tab.dm (fun i => (es[i]?.map (·.1)).getD 0) (k.hash w) (10 * SetTable.turns t.mask) (K - c) (prb t.mask (k.hash w) c) (prb_dm ..) (by omega)
      (fun q hq => by rw [jj]; exact hKb _ (by omega)) (by rw [jj, cK]; exact hK)
    rcases spec with ⟨q, i, hq, hi, hh, hno, hpr⟩ | ⟨hno, hpr⟩
    · have met : t.probe (fun i => (es[i]?.map (·.1)).getD 0) (k.hash w) (st.getD (t.probeStart (k.hash w))) = some (.candidate (way t.mask (k.hash w) (c + q)) i (prb t.mask (k.hash w) (c + (q + 1)))) := by
        rw [hst, ← jj, ← prb_add]
        exact hpr
      rw [met]
      dsimp only
      rw [jj] at hi
      obtain ⟨p, hp⟩ := T.place_at hi
      have rest : wpAny (model P w) A (searchRest a (.ref x) (k.hash w) true f es t (way t.mask (k.hash w) (c + q)) i (prb t.mask (k.hash w) (c + (q + 1)))) Q E s := by
        refine key_rest T ho hd hL hx hu hin hp hi _ fun other => ih (c + (q + 1)) _ rfl (by omega) (by omega) fun i0 p0 h0 hk0 => ?_
        obtain ⟨c', ⟨a1, a2⟩, a3⟩ := hre i0 p0 h0 hk0
        refine ⟨c', ⟨?_, a2⟩, a3⟩
        -- the place c' is not passed: before it stands no key of this hash, and at it stands another
        rcases Nat.lt_trichotomy c' (c + q) with z | z | z
        · refine absurd ?_ (hno (c' - c) i0 (by omega) (by rw [jj, show c + (c' - c) = c' by omega]; exact a3))
          exact (T.hashAt h0).trans (congrArg (NestedKey.hash w) hk0)
        · rw [z] at a3
          have s1 := slot_live T.tab.ris a3
          rw [slot_live T.tab.ris hi] at s1
          injection s1 with s1
          rw [← s1, hp] at h0
          cases h0
          exact absurd hk0 other
        · omega
      by_cases hl : t.led = true
      · refine wp_if_neg (by simp [hl]) ?_
        try refine wpAny_bind (wpAny_pure ?_)
        exact rest
      · refine wp_if_pos (by simp [hl]) (wpAny_bind (key_unseen hx (fun y hy => ?_) ?_))
        · obtain ⟨e, he, rfl⟩ := List.mem_map.mp hy
          have he1 : e ∈ es.toList := by
            have : e ∈ es ∧ e.1 = k.hash w := by simpa using he
            simpa using this.1
          rw [T.rows] at he1
          obtain ⟨p2, hp2, rfl⟩ := List.mem_map.mp he1
          exact ⟨p2.2, p2.1, rfl, hL p2 hp2⟩
        · refine wp_if_neg (by decide) ?_
          try refine wpAny_bind (wpAny_pure ?_)
          exact rest
    · have met : t.probe (fun i => (es[i]?.map (·.1)).getD 0) (k.hash w) (st.getD (t.probeStart (k.hash w))) = some (.empty (way t.mask (k.hash w) K) none) := by
        rw [hst, show way t.mask (k.hash w) K = (nth t.mask (prb t.mask (k.hash w) c) (K - c)).j by rw [jj, cK]]
        exact hpr
      rw [met]
      refine wpAny_pure (hout fun hm => ?_)
      obtain ⟨p0, h0, hk0⟩ := List.mem_map.mp hm
      obtain ⟨i0, h1⟩ := List.getElem?_of_mem h0
      obtain ⟨c', ⟨a1, a2⟩, a3⟩ := hre i0 p0 h1 hk0
      refine hno (c' - c) i0 (by omega) (by rw [jj, show c + (c' - c) = c' by omega]; exact a3) ?_
      exact (T.hashAt h1).trans (congrArg (NestedKey.hash w) hk0)

/-- the search that adding makes -/
theorem key_search (T : KT w L es t) (ho : s.heap.get? a = some o) (hd : o.data = .set es ep t) (hL : ∀ q ∈ L, KA s.heap q.2 q.1) {x : Addr} {k : NestedKey} (hx : KA s.heap k x) (hu : A.units + 8 < cLine) {Q : SetFound → Shared → Prop}
    (hin : k ∈ L.map (·.2) → Q (.there none) s)
    (hout : ∀ K, k ∉ L.map (·.2) → way t.mask (k.hash w) K ∉ t.place.toList → (∀ c, c < K → way t.mask (k.hash w) c ∈ t.place.toList) → Q (.free (way t.mask (k.hash w) K) false) s) :
    wpAny (model P w) A (setSearch a (.ref x) (k.hash w) true) Q E s := by
  have rm := T.room
  obtain ⟨K, hKf, hK, hKb⟩ := T.tab.first (by unfold khs; rw [List.length_map]; omega) (k.hash w)
  have hbig : K < 100000 := by
    have : SetTable.turns t.mask ≤ 142 := by
      unfold SetTable.turns
      rcases T.tab.mok with e | e | e <;> omega
    omega
  unfold setSearch
  refine key_from T ho hd hL hx hu hKf hK hKb hin (fun hn => hout K hn hK hKb) 100000 0 none rfl (Nat.zero_le _) (by omega) fun i p hp hk => ?_
  have hi : (khs w L)[i]? = some (k.hash w) := by unfold khs; rw [List.getElem?_map, hp, ← hk]; rfl
  have hil : i < t.place.toList.length := by
    rw [T.psize]; exact (List.getElem?_eq_some_iff.mp hp).1
  have hj := List.getElem?_eq_getElem hil
  obtain ⟨c, hc, e⟩ := T.tab.before hK hi hj
  exact ⟨c, ⟨Nat.zero_le _, hc⟩, by rw [hj, e]⟩
end
end Mi
end

section
set_option linter.all false
set_option maxRecDepth 100000
set_option Elab.async false
/-! MiK2: a set of such keys: a key comes in; the table grows. -/
namespace Mi
open PySem PySem.Spec PyProof.Rows L2

/-- the set at a has the keys L -/
def KS (w : World) (h : Heap) (a : Addr) (L : KL) : Prop := ∃ o es ep t, h.get? a = some o ∧ o.ExactSet ∧ o.data = .set es ep t ∧ KT w L es t
theorem range_all {α : Type} : ∀ (l : List α), (List.range l.length).filterMap (fun i => l[i]?) = l
  | [] => rfl
  | x :: l => by
    rw [List.length_cons, List.range_succ_eq_map]
    have e : List.filterMap (fun i => (x :: l)[i]?) (List.map Nat.succ (List.range l.length)) = l := by
      rw [List.filterMap_map]; exact range_all l
    exact (List.filterMap_cons_some (f := fun i => (x :: l)[i]?) (a := 0) (b := x) rfl).trans (congrArg (x :: ·) e)
theorem rows_at {w : World} {L : KL} {es : Array (Int × Value)} (r : es.toList = L.map (krw w)) (i : Nat) : es[i]? = (L[i]?).map (krw w) := by
  rw [← Array.getElem?_toList, r, List.getElem?_map]
/-- rows in another order -/
theorem rows_order {w : World} {L : KL} {es : Array (Int × Value)} (r : es.toList = L.map (krw w)) (ord : List Nat) (lt : ∀ i ∈ ord, i < L.length) :
    ord.filterMap (fun i => es[i]?) = (ord.filterMap fun i => L[i]?).map (krw w) ∧ khs w (ord.filterMap fun i => L[i]?) = ord.map fun i => (es.map (·.1)).getD i 0 := by
  induction ord with
  | nil => exact ⟨rfl, rfl⟩
  | cons i ord ih =>
    obtain ⟨h1, h2⟩ := ih fun j hj => lt j (List.mem_cons_of_mem _ hj)
    have hi : i < L.length := lt i List.mem_cons_self
    have e := List.getElem?_eq_getElem hi
    have e2 : es[i]? = some (krw w L[i]) := by rw [rows_at r, e]; rfl
    unfold khs at h2 ⊢
    rw [List.filterMap_cons_some e2, List.filterMap_cons_some e, List.map_cons, List.map_cons, List.map_cons, h1, h2]
    refine ⟨rfl, congrArg (· :: _) ?_⟩
    have e3 : (es.map (·.1))[i]? = some (L[i].2.hash w) := by rw [Array.getElem?_map, e2]; rfl
    simp [Array.getD_eq_getD_getElem?, e3]

section
variable {P : Program} {w : World} {A : Around} {E : Value → Shared → Prop} {s : Shared} {a : Addr} {o : Obj} {L : KL} {es : Array (Int × Value)} {ep : Nat} {t : SetTable}
/-- the table grows -/
theorem key_relay (ho : s.heap.get? a = some o) (hex : o.ExactSet) (hd : o.data = .set es ep t) (r : es.toList = L.map (krw w)) (sz : t.place.size = L.length) (dm : t.dummies = #[]) (fl : L.length ≤ t.mask)
    (nd : (L.map (·.2)).Nodup) (led : w.params.followText "set-order" = true ∨ t.led = true) (few : L.length < 64) {want M : Nat} (hw : SetTable.sizeAbove want - 1 = M) (hM : MaskOk M) (h128 : SetTable.sizeAbove want ≤ 128) (rm : L.length * 5 < M * 3)
    {Q : Unit → Shared → Prop} (hQ : ∀ h' L', Heap.SameBut a s.heap h' → KS w h' a L' → L'.Perm L → Q () { s with heap := h' }) : wpAny (model P w) A (setRelay a want) Q E s := by
  have hn : es.size = L.length := by rw [← Array.length_toList, r, List.length_map]
  have fits : t.fits es.size = true := by
    unfold SetTable.fits SetTable.fill
    rw [dm, hn, Bool.and_eq_true, beq_iff_eq, decide_eq_true_eq]
    exact ⟨sz, by show t.place.size + 0 ≤ t.mask; omega⟩
  obtain ⟨t', ord, e, pm, T, em, el, ep', ed⟩ := relaid_ok t (hs := es.map (·.1)) (wanted := want) hw hM (by rw [Array.size_map, hn]; omega)
  rw [Array.size_map, hn] at pm
  obtain ⟨r1, r2⟩ := rows_order r ord.toList fun i hi => List.mem_range.mp (pm.mem_iff.mp hi)
  have pL : (ord.toList.filterMap fun i => L[i]?).Perm L := by
    have z := pm.filterMap fun i => L[i]?
    rw [range_all] at z
    exact z
  rw [← r2] at T
  generalize ord.toList.filterMap (fun i => L[i]?) = L' at r1 T pL
  have hes : (ord.filterMap (es[·]?)).toList = L'.map (krw w) := by
    first | (rw [Array.toList_filterMap]; exact r1) | simpa using r1
  generalize hq : ord.filterMap (es[·]?) = es' at hes
  have hs2 : es'.size = L.length := by rw [← Array.length_toList, hes, List.length_map, pL.length_eq]
  rw [setRelay_eq]
  refine wpAny_bind (wpAny_setState_of ho hd fits ?_)
  dsimp only
  refine wp_if_neg (by rw [sizeLine_eq]; omega) ?_
  try refine wpAny_bind (wpAny_pure ?_)
  rw [e]
  dsimp only
  rw [hq]
  refine wpAny_bind (wp_if_neg (by rw [hs2, hn]; simp) ?_)
  try refine wpAny_bind (wpAny_pure ?_)
  refine wpAny_pure (wpAny_storeSet_of ho hd ?_ (by rw [hs2, sizeLine_eq]; omega))
  refine hQ _ L' (Heap.SameBut.update ..) ⟨_, es', ep + 1, t', store_at ho hd, ⟨hex.1, hex.2.1, hex.2.2⟩, rfl, hes, T, (pL.map (·.2)).nodup_iff.mpr nd, by rw [el]; exact led, by rw [pL.length_eq, em]; exact rm, by rw [pL.length_eq]; exact few⟩ pL

theorem tab_plain {hs : List Int} (T : TabOk t hs) (b : Bool) : TabOk { t with plain := b } hs := ⟨T.ris, T.dm, T.sz, T.mok, T.bd, T.reach⟩
/-- a key comes in -/
theorem key_add (T : KT w L es t) (ho : s.heap.get? a = some o) (hex : o.ExactSet) (hd : o.data = .set es ep t) (hL : ∀ q ∈ L, KA s.heap q.2 q.1) {x : Addr} {k : NestedKey} (hx : KA s.heap k x) (hu : A.units + 8 < cLine) (few : L.length + 1 < 64) {Q : Bool → Shared → Prop}
    (hQ : ∀ b h' L', Heap.SameBut a s.heap h' → KS w h' a L' → (k ∈ L.map (·.2) → L' = L) → (k ∉ L.map (·.2) → L'.Perm ((x, k) :: L)) → Q b { s with heap := h' }) :
    wpAny (model P w) A (setAddHashed a (.ref x) (k.hash w)) Q E s := by
  have rm := T.room
  unfold setAddHashed
  refine wpAny_holding ?_
  rw [show (100000 : Nat) = 99999 + 1 from rfl, setAddHashedIn_succ]
  refine wpAny_bind (wpAny_setState_of ho hd T.fits ?_)
  dsimp only
  refine wp_if_neg (by simp [byScan, Value.scannable]) ?_
  try refine wpAny_bind (wpAny_pure ?_)
  refine wpAny_bind (key_search T ho hd hL hx hu (fun hm => ?old) fun K hm hK hb => ?new)
  case old => exact wpAny_pure (hQ false s.heap L (Heap.SameBut.refl a s.heap) ⟨o, es, ep, t, ho, hex, hd, T⟩ (fun _ => rfl) fun z => absurd hm z)
  case new =>
    dsimp only
    refine wpAny_bind (wpAny_setState_of ho hd T.fits ?_)
    dsimp only
    obtain ⟨q1, q2, q3, q4, q5, q6, q7, q8, q9⟩ := T.tab.put hK hb
    have hkl : (khs w L).length = L.length := by unfold khs; rw [List.length_map]
    rw [hkl] at q2 q9
    generalize hp : SetTable.below t.place (way t.mask (k.hash w) K) = p at q1 q2 q3
    have hin : (SetTable.insertAt es p (k.hash w, Value.ref x)).toList = (L.take p ++ (x, k) :: L.drop p).map (krw w) := by
      rw [SetTable.toList_insertAt, T.rows, List.map_append, List.map_cons, List.map_take, List.map_drop]; rfl
    have hhs : khs w (L.take p ++ (x, k) :: L.drop p) = (khs w L).take p ++ k.hash w :: (khs w L).drop p := by
      unfold khs; rw [List.map_append, List.map_cons, List.map_take, List.map_drop]
    rw [← hhs] at q3
    have pm := put_perm L p (x, k)
    generalize L.take p ++ (x, k) :: L.drop p = L1 at hin q3 pm
    have nd1 : (L1.map (·.2)).Nodup := by
      refine (pm.map (·.2)).nodup_iff.mpr ?_
      rw [List.map_cons]
      exact List.nodup_cons.mpr ⟨hm, T.nd⟩
    have len1 : L1.length = L.length + 1 := pm.length_eq
    generalize hpt : t.put (way t.mask (k.hash w) K) = pt at q1 q3 q4 q5 q6 q9
    obtain ⟨t1, p1⟩ := pt
    dsimp only at q1 q3 q4 q5 q6 q9 ⊢
    subst q1
    -- whatever the answer about the value, the rest is the same
    have tail : ∀ t2 : SetTable, (t2 = t1 ∨ t2 = { t1 with plain := false }) → wpAny (model P w) A (do
        storeSet a (SetTable.insertAt es p1 (k.hash w, Value.ref x)) t2
        if !false && t2.tooFull then setRelay a (SetTable.grown (es.size + 1))
        return true) Q E s := by
      intro t2 ht2
      have T2 : TabOk t2 (khs w L1) := by
        rcases ht2 with rfl | rfl
        · exact q3
        · exact tab_plain q3 _
      have em : t2.mask = t.mask := by rcases ht2 with rfl | rfl <;> exact q4
      have el : t2.led = t.led := by rcases ht2 with rfl | rfl <;> exact q5
      have ef : t2.fill = L.length + 1 := by rcases ht2 with rfl | rfl <;> exact q9
      have ld : w.params.followText "set-order" = true ∨ t2.led = true := by rw [el]; exact T.led
      have hes : (SetTable.insertAt es p1 (k.hash w, Value.ref x)).size = L.length + 1 := by rw [← Array.length_toList, hin, List.length_map, len1]
      generalize SetTable.insertAt es p1 (k.hash w, Value.ref x) = es1 at hin hes
      refine wpAny_bind (wpAny_storeSet_of ho hd ?_ (by rw [hes, sizeLine_eq]; omega))
      have sb : Heap.SameBut a s.heap (s.heap.update a (Obj.putSet es1 t2)) := Heap.SameBut.update ..
      have ho1 := store_at (es' := es1) (t' := t2) ho hd
      generalize s.heap.update a (Obj.putSet es1 t2) = h1 at sb ho1
      by_cases hf : t2.tooFull = true
      · have full : (L.length + 1) * 5 ≥ t.mask * 3 := by
          have z := hf
          unfold SetTable.tooFull at z
          rw [decide_eq_true_eq, ef, em] at z
          exact z
        have place : (t.mask = 7 ∧ L.length = 4) ∨ (t.mask = 31 ∧ L.length = 18) := by
          rcases T.tab.mok with e | e | e <;> rw [e] at full rm <;> omega
        have go : ∀ M, SetTable.sizeAbove (SetTable.grown (L.length + 1)) - 1 = M → MaskOk M → SetTable.sizeAbove (SetTable.grown (L.length + 1)) ≤ 128 → L1.length * 5 < M * 3 →
            wpAny (model P w) A (setRelay a (SetTable.grown (L.length + 1))) (fun _ s' => wpAny (model P w) A (pure true) Q E s') E { s with heap := h1 } := fun M m1 m2 m3 m4 =>
          key_relay (s := { s with heap := h1 }) ho1 ⟨hex.1, hex.2.1, hex.2.2⟩ rfl hin (by rw [T2.sz]; unfold khs; rw [List.length_map]) T2.dm (by rw [len1, em]; rcases place with ⟨e, e2⟩ | ⟨e, e2⟩ <;> omega) nd1 ld (by rw [len1]; exact few) m1 m2 m3 m4
            fun h2 L2 sb2 K2 pm2 => wpAny_pure (hQ true h2 L2 (sb.trans sb2) K2 (fun z => absurd z hm) fun _ => pm2.trans pm)
        have c : (!false && t2.tooFull) = true := by rw [hf]; rfl
        have run : wpAny (model P w) A (setRelay a (SetTable.grown (es.size + 1))) (fun _ s' => wpAny (model P w) A (pure true) Q E s') E { s with heap := h1 } := by
          rw [T.size]
          rcases place with ⟨_, e2⟩ | ⟨_, e2⟩
          · exact go 31 (by rw [e2, size_20]) (.inr (.inl rfl)) (by rw [e2, size_20]; decide) (by omega)
          · exact go 127 (by rw [e2, size_76]) (.inr (.inr rfl)) (by rw [e2, size_76]; decide) (by omega)
        first
          | exact wp_if_pos c (wpAny_bind run)
          | exact wpAny_bind (wp_if_pos c run)
      · have c : ¬ (!false && t2.tooFull) = true := by simp [hf]
        have fin : wpAny (model P w) A (pure true) Q E { s with heap := h1 } := by
          refine wpAny_pure (hQ true h1 L1 sb ⟨_, es1, ep + 1, t2, ho1, ⟨hex.1, hex.2.1, hex.2.2⟩, rfl, hin, T2, nd1, ld, ?_, by rw [len1]; exact few⟩ (fun z => absurd z hm) fun _ => pm)
          have z := hf
          unfold SetTable.tooFull at z
          rw [decide_eq_true_eq, ef, em] at z
          rw [len1, em]
          omega
        first
          | exact wp_if_neg c fin
          | exact wpAny_bind (wp_if_neg c (wpAny_pure fin))
    by_cases hpl : t1.plain = true
    · have ask : wpAny (model P w) A (hashByValue 8 (.ref x)) (fun b s' => wpAny (model P w) A (do
          let t := if b then t1 else { t1 with plain := false }
          storeSet a (SetTable.insertAt es p1 (k.hash w, Value.ref x)) t
          if !false && t.tooFull then setRelay a (SetTable.grown (es.size + 1))
          return true) Q E s') E s := key_byVal 8 k _ _ hx.1 fun b => by
        cases b with
        | true => exact tail t1 (.inl rfl)
        | false => exact tail { t1 with plain := false } (.inr rfl)
      first
        | exact wp_if_pos hpl (wpAny_bind ask)
        | exact wpAny_bind (wp_if_pos hpl ask)
    · have ask := tail t1 (.inl rfl)
      first
        | exact wp_if_neg hpl (wpAny_bind (wpAny_pure ask))
        | exact wpAny_bind (wp_if_neg hpl (wpAny_pure ask))
        | exact wp_if_neg hpl ask
end
end Mi
end

section
set_option linter.all false
set_option maxRecDepth 100000
set_option Elab.async false
/-! MiK3: set(xs) of a list or a tuple of such keys. -/
namespace Mi
open PySem PySem.Spec PyProof.Rows L2

/-- what the set has behind the first i things -/
structure KGot (ks : KL) (i : Nat) (L : KL) : Prop where
  sub : ∀ q ∈ L, q ∈ ks.take i
  all : ∀ q ∈ ks.take i, q.2 ∈ L.map (·.2)
  len : L.length ≤ i
theorem KGot.zero (ks : KL) : KGot ks 0 [] := ⟨fun q h => (by cases h), fun q h => (by simp at h), Nat.le_refl 0⟩
theorem KGot.next {ks L L' : KL} {i : Nat} {x : Addr × NestedKey} (g : KGot ks i L) (e : ks[i]? = some x) (h1 : x.2 ∈ L.map (·.2) → L' = L) (h2 : x.2 ∉ L.map (·.2) → L'.Perm (x :: L)) : KGot ks (i + 1) L' := by
  have tk : ks.take (i + 1) = ks.take i ++ [x] := by rw [List.take_succ, e]; rfl
  by_cases c : x.2 ∈ L.map (·.2)
  · rw [h1 c]
    refine ⟨fun q hq => by rw [tk]; exact List.mem_append_left _ (g.sub q hq), fun q hq => ?_, Nat.le_succ_of_le g.len⟩
    rw [tk] at hq
    rcases List.mem_append.mp hq with z | z
    · exact g.all q z
    · rw [List.mem_singleton.mp z]; exact c
  · have pm := h2 c
    refine ⟨fun q hq => ?_, fun q hq => ?_, by rw [pm.length_eq]; exact Nat.succ_le_succ g.len⟩
    · rw [tk]
      rcases List.mem_cons.mp (pm.mem_iff.mp hq) with z | z
      · rw [z]; exact List.mem_append_right _ (List.mem_singleton.mpr rfl)
      · exact List.mem_append_left _ (g.sub q z)
    · rw [(pm.map (·.2)).mem_iff, List.map_cons]
      rw [tk] at hq
      rcases List.mem_append.mp hq with z | z
      · exact List.mem_cons_of_mem _ (g.all q z)
      · rw [List.mem_singleton.mp z]; exact List.mem_cons_self
/-- a set as it is made -/
def setNew (w : World) : Obj := { cls := .type "set", dict := none, data := .set #[] 0 (.fresh 0 0 (!w.params.followText "set-order")) }
theorem ks_new {w : World} {h : Heap} {a : Addr} (e : h.get? a = some (setNew w)) : KS w h a [] :=
  ⟨_, #[], 0, _, e, ⟨rfl, rfl, rfl⟩, rfl, rfl, ⟨List.Pairwise.nil, rfl, rfl, .inl rfl, fun x hx => (by cases hx), fun i h j hi => (by simp [khs] at hi)⟩, List.nodup_nil, by
    show _ ∨ (!w.params.followText "set-order") = true
    cases w.params.followText "set-order"
    · exact .inr rfl
    · exact .inl rfl, by show 0 * 5 < 7 * 3; decide, by show 0 < 64; decide⟩
theorem KS.mv {w : World} {h h' : Heap} {a : Addr} {L : KL} (x : KS w h a L) (m : ∀ o, h.get? a = some o → h'.get? a = some o) : KS w h' a L := by
  obtain ⟨o, es, ep, t, e, r⟩ := x
  exact ⟨o, es, ep, t, m o e, r⟩

section
variable {P : Program} {w : World} {A : Around} {E : Value → Shared → Prop} {s : Shared}
/-- the loop of set.update -/
theorem key_loop {I : Addr} {fp wr : List Addr} {G : Array GenState → Array GenState → Prop} {n : Nat} {Pv : Nat → Value → Prop} {St : Nat → Shared → Prop} {R : Result → Shared → Prop}
    (W : WalksS P w A.in1 I fp wr G n Pv St) (S : Addr) (hSf : S ∉ fp) (ks : KL) (hn : n = ks.length) (few : ks.length < 64) (hval : ∀ i v, Pv i v → ∃ q, ks[i]? = some q ∧ v = .ref q.1)
    (h0 : Heap) (hk : ∀ q ∈ ks, KA h0 q.2 q.1) (hS0 : h0.get? S = none) (hw0 : ∀ b ∈ wr, h0.get? b = none) (hu : A.in1.units + 8 < cLine) :
    ∀ (m i : Nat) (s : Shared) (L : KL), i + m = n → St i s → (∀ b o, h0.get? b = some o → s.heap.get? b = some o) → KS w s.heap S L → KGot ks i L →
      (∀ s' L', Moved (S :: wr) G s s' → KS w s'.heap S L' → KGot ks n L' → (∀ b o, h0.get? b = some o → s'.heap.get? b = some o) → R (.ok (.ret .none)) s') →
      codeAny (model P w) A (.builtin "set.update.loop" ⟨[.ref S, .ref I], []⟩) R s := by
  have hSw : S ∉ wr := fun z => hSf (W.sub _ z)
  have wider : ∀ b ∈ wr, b ∈ S :: wr := fun b hb => List.mem_cons_of_mem _ hb
  have past : ∀ {s s' : Shared}, Moved wr G s s' → (∀ b o, h0.get? b = some o → s.heap.get? b = some o) → ∀ b o, h0.get? b = some o → s'.heap.get? b = some o := fun mv kp b o e =>
    mv.heap b o (fun z => by rw [hw0 b z] at e; cases e) (kp b o e)
  intro m
  induction m with
  | zero =>
    intro i s L him hst kp K g hR
    obtain rfl : i = n := him
    refine codeAny_builtin F.entry_set_update_loop ?_
    rw [Around.under_plainId F.plain_set_update_loop _]
    show wpAny _ A.in1 (pyNext (.ref I) >>= _) _ _ s
    refine wpAny_bind (W.done s _ _ hst fun s' mv => ?_)
    show wpAny _ A.in1 (ret Value.none) _ _ s'
    exact wpAny_pure (hR s' L (mv.mono wider) (K.mv fun o e => mv.heap S o hSw e) g (past mv kp))
  | succ m ih =>
    intro i s L him hst kp K g hR
    have lt : i < n := by omega
    refine codeAny_builtin F.entry_set_update_loop ?_
    rw [Around.under_plainId F.plain_set_update_loop _]
    show wpAny _ A.in1 (pyNext (.ref I) >>= _) _ _ s
    refine wpAny_bind (W.item i s _ _ lt hst fun v s' hP hst' mv => ?_)
    obtain ⟨q, hq, rfl⟩ := hval i v hP
    have kp' := past mv kp
    have hx : KA s'.heap q.2 q.1 := (hk q (List.mem_of_getElem? hq)).up kp'
    have hL : ∀ p ∈ L, KA s'.heap p.2 p.1 := fun p hp => (hk p (List.mem_of_mem_take (g.sub p hp))).up kp'
    obtain ⟨o, es, ep, t, ho, hex, hd, T⟩ := K.mv fun o e => mv.heap S o hSw e
    show wpAny _ A.in1 (holding [Value.ref q.1] (setAdd S (.ref q.1)) >>= _) _ _ s'
    refine wpAny_bind (wpAny_holding ?_)
    unfold setAdd
    refine wpAny_holding (wpAny_bind (pyHash_key q.2 _ A.in1 s' _ hx.1 (by have := hx.2; omega) ?_))
    refine key_add (s := { s' with toks := s'.toks + q.2.draws }) T ho hex hd hL hx hu (by have := g.len; omega) fun b h' L' sb K' c1 c2 => ?_
    have kp2 : ∀ b o, h0.get? b = some o → h'.get? b = some o := fun b o e => (sb.2 b (fun z => by rw [z, hS0] at e; cases e)).trans (kp' b o e)
    refine wpAny_pure ⟨plainId_quiet F.plain_set_update_loop _, ih (i + 1) _ L' (by omega) (W.frame _ s' _ _ hst' (Nat.le_add_right _ _) fun b hb o e => ?_) kp2 K' (g.next hq c1 c2) fun s2 L2 mv2 K2 g2 kp3 => ?_⟩
    · rw [sb.2 b (fun z : b = S => hSf (by rw [← z]; exact hb))]; exact e
    · refine hR s2 L2 (Moved.trans W.gtrans ((mv.mono wider).then_heap (Nat.le_add_right _ _) fun b o hb e => ?_) mv2) K2 g2 kp3
      rw [sb.2 b (fun z : b = S => hb (by rw [z]; exact List.mem_cons_self))]; exact e

set_option maxRecDepth 100000 in
set_option maxHeartbeats 3200000 in
/-- set(xs), xs a list of keys -/
theorem call_keys_list {l : Addr} {items : Array Value} (ks : KL) {Q : Value → Shared → Prop} (hh : A.handled = none) (hl : s.heap.IsList l items) (hit : items.toList = ks.map fun q => Value.ref q.1) (hk : ∀ q ∈ ks, KA s.heap q.2 q.1) (few : ks.length < 64) (hu : A.units + 16 < cLine)
    (hQ : ∀ (h' : Heap) (tk : Nat) L, KS w h' s.heap.objs.size L → KGot ks ks.length L → (∀ b o, s.heap.get? b = some o → h'.get? b = some o) → Q (.ref s.heap.objs.size) { s with heap := h', toks := tk }) :
    wpAny (model P w) A (call (.type "set") [.ref l]) Q E s := by
  have hn : items.size = ks.length := by rw [← Array.length_toList, hit, List.length_map]
  obtain ⟨c, tl, hmro⟩ := F.called_set.mro
  have m1 := F.called_set.made
  have m2 := F.called_set.sub
  refine wpAny_call (codeAny_of_tree ?_)
  show wpAny _ _ (callAny (.type "set") _) _ _ _
  refine wpAny_pure ⟨Code.quiet_builtin _ (by decide +kernel), codeAny_builtin F.entry_type_call ?_⟩
  rw [Around.under_plain (weight_type_call_type "set" [.ref l] []) rfl]
  have m3 := F.called_set.notType
  have m4 := F.called_set.canCreate
  have m5 := F.typeCall_set_1 (.ref l)
  repeat (any_goals (first | assumption | wp_step))
  refine codeAny_mono (code_set_led1 (.ref l) (E := E) (Q₁ := fun obj s₁ => obj = .ref s.heap.objs.size ∧ s₁ = { s with heap := s.heap.push (setNew w) }) ⟨rfl, rfl⟩) fun r s₁ hr => ?_
  match r, hr with
  | .error e, hr => exact hr
  | .ok (.ret obj), hr =>
    obtain ⟨rfl, rfl⟩ := hr
    have hS : (s.heap.push (setNew w)).get? s.heap.objs.size = some (setNew w) := Heap.get?_push_size _ rfl
    have hT : Shared.TypeIs { s with heap := s.heap.push (setNew w) } (.ref s.heap.objs.size) "set" := ⟨_, hS, rfl⟩
    have i1 := F.called_set.init.lookup
    have i2 := F.called_set.init.bind (.ref s.heap.objs.size)
    repeat (any_goals (first | assumption | wp_step))
    refine codeAny_mono (codeAny_call_builtin (R := wants (fun r s₂ => r = .none ∧ ∃ h' tk L, s₂ = { s with heap := h', toks := tk } ∧ KS w h' s.heap.objs.size L ∧ KGot ks ks.length L ∧ ∀ b o, s.heap.get? b = some o → h'.get? b = some o) E)
      F.called_set.init.plain F.entry_set_init (check_set_init_1 hT ?ini)) fun r₂ s₂ hr₂ => ?aft
    case ini =>
      obtain ⟨ol, hol, hcl, nl, hdl⟩ := hl
      obtain ⟨ocls, odict, odata, oslots⟩ := ol
      simp only at hcl hdl
      subst hcl; subst hdl
      have lS : l < s.heap.objs.size := Heap.lt_size hol
      have hol1 : (s.heap.push (setNew w)).get? l = some { cls := .type "list", dict := odict, data := .seq items nl, slots := oslots } := Heap.get?_push_of_some _ hol
      have isl : (s.heap.push (setNew w)).IsList l items := ⟨_, hol1, rfl, nl, rfl⟩
      have z1 := F.sub_list_set
      have z2 := F.sub_list_frozenset
      have z3 : (Value.type "list" == Value.type "dict") = false := by decide
      unfold Builtin.«set.__init__» noKeywords Builtin.Frozenset.updateFrom
      generalize hPI : pyIter = PI
      wp_walk
      subst hPI
      refine wpAny_pyIter_list isl (wpAny_bind (wpAny_runValue ?_))
      have no3 : A.in1.in1.in1.handled = none := by simp [hh]
      have sz1 : (s.heap.push (setNew w)).objs.size = s.heap.objs.size + 1 := Heap.size_push ..
      have lI : l ≠ (s.heap.push (setNew w)).objs.size := by rw [sz1]; exact Nat.ne_of_lt (Nat.lt_succ_of_lt lS)
      have hSf : s.heap.objs.size ∉ [(s.heap.push (setNew w)).objs.size, l] := by
        rw [sz1]
        intro z
        rcases List.mem_cons.mp z with z | z
        · exact Nat.ne_of_lt (Nat.lt_succ_self _) z
        · exact Nat.ne_of_gt lS (List.mem_singleton.mp z)
      have fresh : ∀ b, s.heap.objs.size ≤ b → s.heap.get? b = none := fun b hb => Heap.get?_none_of_le hb
      refine key_loop ((Walks.list no3 _ l lI items).toS) s.heap.objs.size hSf ks hn few (fun i v hv => ?_) s.heap hk (fresh _ (Nat.le_refl _)) (fun b hb => fresh b (by
          rw [List.mem_singleton.mp hb, sz1]; exact Nat.le_succ _)) (by simp only [Around.in1_units]; omega) items.size 0 _ [] (Nat.zero_add _) ⟨⟨_, Heap.get?_push_size _ rfl, rfl, rfl⟩, isl.push _⟩
        (fun b o e => Heap.get?_push_of_some _ (Heap.get?_push_of_some _ e)) (ks_new (Heap.get?_push_of_some _ hS)) (KGot.zero ks) fun s' L mv K g kp => ?_
      · have e : items.toList[i]? = some v := by rw [Array.getElem?_toList]; exact hv
        rw [hit, List.getElem?_map] at e
        obtain ⟨q, h1, h2⟩ := Option.map_eq_some_iff.mp e
        exact ⟨q, h1, h2.symm⟩
      · obtain ⟨h', g2, d', tk', os'⟩ := s'
        obtain rfl : g2 = s.gens := mv.gens
        obtain rfl : d' = s.drawn := mv.drawn
        obtain rfl : os' = s.os := mv.os
        rw [hn] at g
        refine wpAny_pure ?_
        show wpAny _ _ (ret Value.none) _ _ _
        exact wpAny_pure ⟨rfl, h', tk', L, rfl, K, g, kp⟩
    case aft =>
      match r₂, hr₂ with
      | .error e, hr₂ => exact hr₂
      | .ok (.ret r), hr₂ =>
        obtain ⟨rfl, h', tk, L, rfl, K, g, kp⟩ := hr₂
        repeat (any_goals (first | assumption | wp_step))
        exact hQ h' _ L K g kp

set_option maxRecDepth 100000 in
set_option maxHeartbeats 3200000 in
/-- set(xs), xs a tuple of keys -/
theorem call_keys_tuple {l : Addr} {items : Array Value} (ks : KL) {Q : Value → Shared → Prop} (hh : A.handled = none) (hl : s.heap.IsTuple l items) (hit : items.toList = ks.map fun q => Value.ref q.1) (hk : ∀ q ∈ ks, KA s.heap q.2 q.1) (few : ks.length < 64) (hu : A.units + 16 < cLine)
    (hQ : ∀ (h' : Heap) (tk : Nat) L, KS w h' s.heap.objs.size L → KGot ks ks.length L → (∀ b o, s.heap.get? b = some o → h'.get? b = some o) → Q (.ref s.heap.objs.size) { s with heap := h', toks := tk }) :
    wpAny (model P w) A (call (.type "set") [.ref l]) Q E s := by
  have hn : items.size = ks.length := by rw [← Array.length_toList, hit, List.length_map]
  obtain ⟨c, tl, hmro⟩ := F.called_set.mro
  have m1 := F.called_set.made
  have m2 := F.called_set.sub
  refine wpAny_call (codeAny_of_tree ?_)
  show wpAny _ _ (callAny (.type "set") _) _ _ _
  refine wpAny_pure ⟨Code.quiet_builtin _ (by decide +kernel), codeAny_builtin F.entry_type_call ?_⟩
  rw [Around.under_plain (weight_type_call_type "set" [.ref l] []) rfl]
  have m3 := F.called_set.notType
  have m4 := F.called_set.canCreate
  have m5 := F.typeCall_set_1 (.ref l)
  repeat (any_goals (first | assumption | wp_step))
  refine codeAny_mono (code_set_led1 (.ref l) (E := E) (Q₁ := fun obj s₁ => obj = .ref s.heap.objs.size ∧ s₁ = { s with heap := s.heap.push (setNew w) }) ⟨rfl, rfl⟩) fun r s₁ hr => ?_
  match r, hr with
  | .error e, hr => exact hr
  | .ok (.ret obj), hr =>
    obtain ⟨rfl, rfl⟩ := hr
    have hS : (s.heap.push (setNew w)).get? s.heap.objs.size = some (setNew w) := Heap.get?_push_size _ rfl
    have hT : Shared.TypeIs { s with heap := s.heap.push (setNew w) } (.ref s.heap.objs.size) "set" := ⟨_, hS, rfl⟩
    have i1 := F.called_set.init.lookup
    have i2 := F.called_set.init.bind (.ref s.heap.objs.size)
    repeat (any_goals (first | assumption | wp_step))
    refine codeAny_mono (codeAny_call_builtin (R := wants (fun r s₂ => r = .none ∧ ∃ h' tk L, s₂ = { s with heap := h', toks := tk } ∧ KS w h' s.heap.objs.size L ∧ KGot ks ks.length L ∧ ∀ b o, s.heap.get? b = some o → h'.get? b = some o) E)
      F.called_set.init.plain F.entry_set_init (check_set_init_1 hT ?ini)) fun r₂ s₂ hr₂ => ?aft
    case ini =>
      obtain ⟨ol, hol, hcl, nl, hdl⟩ := hl
      obtain ⟨ocls, odict, odata, oslots⟩ := ol
      simp only at hcl hdl
      subst hcl; subst hdl
      have lS : l < s.heap.objs.size := Heap.lt_size hol
      have hol1 : (s.heap.push (setNew w)).get? l = some { cls := .type "tuple", dict := odict, data := .seq items nl, slots := oslots } := Heap.get?_push_of_some _ hol
      have isl : (s.heap.push (setNew w)).IsTuple l items := ⟨_, hol1, rfl, nl, rfl⟩
      have z1 := F.sub_tuple_set
      have z2 := F.sub_tuple_frozenset
      have z3 : (Value.type "tuple" == Value.type "dict") = false := by decide
      unfold Builtin.«set.__init__» noKeywords Builtin.Frozenset.updateFrom
      generalize hPI : pyIter = PI
      wp_walk
      subst hPI
      refine wpAny_pyIter_tuple isl (wpAny_bind (wpAny_runValue ?_))
      have no3 : A.in1.in1.in1.handled = none := by simp [hh]
      have sz1 : (s.heap.push (setNew w)).objs.size = s.heap.objs.size + 1 := Heap.size_push ..
      have lI : l ≠ (s.heap.push (setNew w)).objs.size := by rw [sz1]; exact Nat.ne_of_lt (Nat.lt_succ_of_lt lS)
      have hSf : s.heap.objs.size ∉ [(s.heap.push (setNew w)).objs.size, l] := by
        rw [sz1]
        intro z
        rcases List.mem_cons.mp z with z | z
        · exact Nat.ne_of_lt (Nat.lt_succ_self _) z
        · exact Nat.ne_of_gt lS (List.mem_singleton.mp z)
      have fresh : ∀ b, s.heap.objs.size ≤ b → s.heap.get? b = none := fun b hb => Heap.get?_none_of_le hb
      refine key_loop ((Walks.tuple no3 _ l lI items).toS) s.heap.objs.size hSf ks hn few (fun i v hv => ?_) s.heap hk (fresh _ (Nat.le_refl _)) (fun b hb => fresh b (by
          rw [List.mem_singleton.mp hb, sz1]; exact Nat.le_succ _)) (by simp only [Around.in1_units]; omega) items.size 0 _ [] (Nat.zero_add _) ⟨⟨_, Heap.get?_push_size _ rfl, rfl, rfl⟩, isl.push _⟩
        (fun b o e => Heap.get?_push_of_some _ (Heap.get?_push_of_some _ e)) (ks_new (Heap.get?_push_of_some _ hS)) (KGot.zero ks) fun s' L mv K g kp => ?_
      · have e : items.toList[i]? = some v := by rw [Array.getElem?_toList]; exact hv
        rw [hit, List.getElem?_map] at e
        obtain ⟨q, h1, h2⟩ := Option.map_eq_some_iff.mp e
        exact ⟨q, h1, h2.symm⟩
      · obtain ⟨h', g2, d', tk', os'⟩ := s'
        obtain rfl : g2 = s.gens := mv.gens
        obtain rfl : d' = s.drawn := mv.drawn
        obtain rfl : os' = s.os := mv.os
        rw [hn] at g
        refine wpAny_pure ?_
        show wpAny _ _ (ret Value.none) _ _ _
        exact wpAny_pure ⟨rfl, h', tk', L, rfl, K, g, kp⟩
    case aft =>
      match r₂, hr₂ with
      | .error e, hr₂ => exact hr₂
      | .ok (.ret r), hr₂ =>
        obtain ⟨rfl, h', tk, L, rfl, K, g, kp⟩ := hr₂
        repeat (any_goals (first | assumption | wp_step))
        exact hQ h' _ L K g kp
end
end Mi
end

section
set_option linter.all false
set_option maxRecDepth 100000
set_option Elab.async false
/-! MiK4: sorted(set(xs)): keys as data, their order, the sorted list. -/
namespace Mi
open PySem PySem.Spec PyProof.Rows L2

section
variable {h : Heap}
mutual
theorem reads_key : ∀ (k : NestedKey) (u : Value) (as : List Addr), Reads h u k.data as → NestedIs h k u ∧ as = []
  | .none, u, as, r => by
    unfold NestedKey.data at r
    cases r; exact ⟨.none, rfl⟩
  | .num i, u, as, r => by
    unfold NestedKey.data at r
    cases r; exact ⟨.int _ _, rfl⟩
  | .text x, u, as, r => by
    unfold NestedKey.data at r
    cases r; exact ⟨.text _ _, rfl⟩
  | .tup ks, u, as, r => by
    unfold NestedKey.data at r
    cases r with
    | tuple h1 h2 h3 h4 =>
      obtain ⟨q1, q2⟩ := reads_keys ks _ _ h4
      exact ⟨.tup h1 h2 h3 q1, q2⟩
theorem reads_keys : ∀ (ks : List NestedKey) (us : List Value) (as : List Addr), ReadsAll h us (NestedKey.datas ks) as → NestedAll h ks us ∧ as = []
  | [], us, as, r => by
    unfold NestedKey.datas at r
    cases r; exact ⟨.nil, rfl⟩
  | k :: ks, us, as, r => by
    unfold NestedKey.datas at r
    cases r with
    | cons h1 h2 =>
      obtain ⟨a1, a2⟩ := reads_key k _ _ h1
      obtain ⟨b1, b2⟩ := reads_keys ks _ _ h2
      subst a2 b2
      exact ⟨.cons a1 b1, rfl⟩
end
end

/-! ### the order of alike data tells them apart -/
open PySem.W in
mutual
theorem toks_inj : ∀ (x y : PyData) (a b : List (Int ⊕ List Nat)), alike x y = true → keyToks x ++ a = keyToks y ++ b → x = y ∧ a = b
  | .none, y, a, b, hal, e => by
    cases y <;> first | (exact absurd hal (by unfold alike; decide)) | skip
    unfold keyToks at e
    exact ⟨rfl, e⟩
  | .bool x, y, a, b, hal, e => by
    cases y <;> first | (exact absurd hal (by unfold alike; decide)) | skip
    rename_i y
    unfold keyToks at e
    simp only [List.cons_append, List.nil_append, List.cons.injEq] at e
    refine ⟨?_, e.2⟩
    cases x <;> cases y <;> first | rfl | (exact absurd e.1 (by simp))
  | .int x, y, a, b, hal, e => by
    cases y <;> first | (exact absurd hal (by unfold alike; decide)) | skip
    unfold keyToks at e
    simp only [List.cons_append, List.nil_append, List.cons.injEq, Sum.inl.injEq] at e
    exact ⟨by rw [e.1], e.2⟩
  | .str x, y, a, b, hal, e => by
    cases y <;> first | (exact absurd hal (by unfold alike; decide)) | skip
    unfold keyToks at e
    simp only [List.cons_append, List.nil_append, List.cons.injEq, Sum.inr.injEq] at e
    exact ⟨by rw [str_of_cps e.1], e.2⟩
  | .list xs, y, a, b, hal, e => by
    cases y <;> first | (exact absurd hal (by unfold alike; decide)) | skip
    unfold keyToks at e
    unfold alike at hal
    obtain ⟨h1, h2⟩ := toksAll_inj xs _ a b hal e
    exact ⟨by rw [h1], h2⟩
  | .tuple xs, y, a, b, hal, e => by
    cases y <;> first | (exact absurd hal (by unfold alike; decide)) | skip
    unfold keyToks at e
    unfold alike at hal
    obtain ⟨h1, h2⟩ := toksAll_inj xs _ a b hal e
    exact ⟨by rw [h1], h2⟩
  | .dict _, y, a, b, hal, e => by
    cases y <;> exact absurd hal (by unfold alike; decide)
theorem toksAll_inj : ∀ (xs ys : List PyData) (a b : List (Int ⊕ List Nat)), alikeAll xs ys = true → keyToksAll xs ++ a = keyToksAll ys ++ b → xs = ys ∧ a = b
  | [], ys, a, b, _, e => by
    cases ys with
    | nil =>
      unfold keyToksAll at e
      simp only [List.cons_append, List.nil_append, List.cons.injEq] at e
      exact ⟨rfl, e.2⟩
    | cons y ys =>
      unfold keyToksAll at e
      simp at e
  | x :: xs, ys, a, b, hal, e => by
    cases ys with
    | nil =>
      unfold keyToksAll at e
      simp at e
    | cons y ys =>
      obtain ⟨h1, h2⟩ := alike_all_cons hal
      unfold keyToksAll at e
      simp only [List.cons_append, List.append_assoc, List.cons.injEq, true_and] at e
      obtain ⟨q1, q2⟩ := toks_inj x y _ _ h1 e
      obtain ⟨q3, q4⟩ := toksAll_inj xs ys a b h2 q2
      exact ⟨by rw [q1, q3], q4⟩
end
section
open PySem.W
variable {β : Type} {k : β → PyData}
theorem dLe_total (a b : β) : dataLe false k a b = true ∨ dataLe false k b a = true := by
  rw [dataLe_eq]
  show (!dataLt (k b) (k a)) = true ∨ (!dataLt (k a) (k b)) = true
  cases q : dataLt (k b) (k a) with
  | false => exact .inl rfl
  | true =>
    right
    cases q2 : dataLt (k a) (k b) with
    | false => rfl
    | true =>
      have := lex_trans (O := itemOrd) _ _ _ q q2
      rw [lex_irrefl] at this
      cases this
theorem dLe_trans (a b c : β) (h1 : dataLe false k a b = true) (h2 : dataLe false k b c = true) : dataLe false k a c = true := by
  rw [dataLe_eq] at h1 h2 ⊢
  have h1 : (!dataLt (k b) (k a)) = true := h1
  have h2 : (!dataLt (k c) (k b)) = true := h2
  show (!dataLt (k c) (k a)) = true
  rw [Bool.not_eq_true'] at h1 h2 ⊢
  cases q : dataLt (k c) (k a) with
  | false => rfl
  | true =>
    rcases lex_negTrans (O := itemOrd) _ (keyToks (k b)) _ q with z | z
    · have h2 : lexLt itemOrd (keyToks (k c)) (keyToks (k b)) = false := h2
      rw [z] at h2; cases h2
    · have h1 : lexLt itemOrd (keyToks (k b)) (keyToks (k a)) = false := h1
      rw [z] at h1; cases h1
theorem dLe_anti {a b : β} (hal : alike (k a) (k b) = true) (h1 : dataLe false k a b = true) (h2 : dataLe false k b a = true) : k a = k b := by
  rw [dataLe_eq] at h1 h2
  have h1 : (!dataLt (k b) (k a)) = true := h1
  have h2 : (!dataLt (k a) (k b)) = true := h2
  rw [Bool.not_eq_true'] at h1 h2
  have e := lex_total (O := itemOrd) _ _ h2 h1
  exact (toks_inj _ _ [] [] hal (by rw [e])).1
/-- two sorted rows of the same things are one -/
theorem sorted_one {l l' : List β} (pm : l.Perm l') (s1 : l.Pairwise fun a b => dataLe false k a b = true) (s2 : l'.Pairwise fun a b => dataLe false k a b = true) (anti : ∀ a ∈ l, ∀ b ∈ l, dataLe false k a b = true → dataLe false k b a = true → a = b) : l = l' :=
  pm.eq_of_pairwise (fun a b ha hb h1 h2 => anti a ha b (pm.mem_iff.mpr hb) h1 h2) s1 s2
end

/-- a row of images in another order comes of the things in another order -/
theorem exists_perm_map {α β : Type} {f : α → β} {vs : List β} {L : List α} (h : vs.Perm (L.map f)) : ∃ L1 : List α, vs = L1.map f ∧ L1.Perm L := by
  generalize e : L.map f = us at h
  induction h generalizing L with
  | nil => exact ⟨[], rfl, by rw [List.map_eq_nil_iff.mp e]⟩
  | @cons x l1 l2 p ih =>
    cases L with
    | nil => cases e
    | cons q L =>
      rw [List.map_cons] at e
      injection e with e1 e2
      obtain ⟨L1, h1, h2⟩ := ih e2
      exact ⟨q :: L1, by rw [List.map_cons, h1, e1], h2.cons q⟩
  | swap x y l =>
    match L, e with
    | q :: r :: L, e =>
      simp only [List.map_cons, List.cons.injEq] at e
      exact ⟨r :: q :: L, by simp [e.1, e.2.1, e.2.2], List.Perm.swap ..⟩
  | trans p1 p2 ih1 ih2 =>
    obtain ⟨L2, h1, h2⟩ := ih2 e
    obtain ⟨L1, h3, h4⟩ := ih1 h1.symm
    exact ⟨L1, h3, h4.trans h2⟩
theorem each_eq {α : Type} {f : α → Value} : ∀ {out : List Value} {bs : List α}, PySem.W.EachIs (fun v q => v = f q) out bs → out = bs.map f
  | _, _, .nil => rfl
  | _, _, .cons h t => by rw [List.map_cons, h, each_eq t]
mutual
theorem key_depth : ∀ k : NestedKey, k.data.depth ≤ k.depth
  | .none => Nat.zero_le _
  | .num _ => Nat.zero_le _
  | .text _ => Nat.zero_le _
  | .tup ks => by
    have := keys_depth ks
    unfold NestedKey.data NestedKey.depth PyData.depth
    omega
theorem keys_depth : ∀ ks : List NestedKey, PyData.depthAll (NestedKey.datas ks) ≤ NestedKey.depthAll ks
  | [] => Nat.zero_le _
  | k :: ks => by
    have h1 := key_depth k
    have h2 := keys_depth ks
    unfold NestedKey.datas NestedKey.depthAll PyData.depthAll
    omega
end
section
variable {P : Program} {w : World} {A : Around} {E : Value → Shared → Prop} {s : Shared} {a : Addr} {L : KL}
/-- sorted of such a set -/
theorem sorted_keys {Q : Value → Shared → Prop} (K : KS w s.heap a L) (hL : ∀ q ∈ L, Reads s.heap (.ref q.1) q.2.data []) (hh : A.handled = none) (hal : PySem.W.AllAlike (L.map fun q => q.2.data)) (hso : PySem.W.Sortable (L.map fun q => q.2.data)) (hdp : ∀ q ∈ L, q.2.depth ≤ 8) (hu : A.units + 20 < cLine)
    (hQ : ∀ s' p c (L' : KL), (∀ b o, s.heap.get? b = some o → s'.heap.get? b = some o) → s'.gens = s.gens → s'.os = s.os → s.heap.objs.size ≤ p → s'.heap.get? p = some (seqObj "list" (L'.map fun q => Value.ref q.1).toArray c) → L'.Perm L →
      L'.Pairwise (fun q r => PySem.W.dataLe false (fun x : Addr × NestedKey => x.2.data) q r = true) → Q (.ref p) s') :
    wpAny (model P w) A (call (.builtin "sorted") [.ref a]) Q E s := by
  obtain ⟨o, es, ep, t, ho, hex, hd, T⟩ := K
  have few := T.few
  refine Calls.call_function_entry kind_sorted plain_sorted entry_sorted (args_sorted1 _) ?_
  unfold Builtin.«sorted»
  refine wpAny_bind (m := checkCount "sorted" 1 1 _) (wpAny_pure ?_)
  refine wpAny_bind (collect_set (A := A.in1) hh ⟨o, ho, hex.1, hd⟩ T.fits (by rw [T.size]; unfold scanBound; omega) T.tab.ris T.led fun s1 vs k1 hz g1 o1 pm => ?_)
  have pm : vs.Perm (L.map fun q => Value.ref q.1) := by
    rw [T.rows, List.map_map] at pm; exact pm
  obtain ⟨L1, e1, p1⟩ : ∃ L1 : KL, vs = L1.map (fun q => Value.ref q.1) ∧ L1.Perm L := by
    obtain ⟨L1, h1, h2⟩ := exists_perm_map pm
    exact ⟨L1, h1, h2⟩
  subst e1
  have len1 : L1.length = L.length := p1.length_eq
  refine wpAny_bind (wpAny_newList ?_ (by rw [sizeLine_eq, List.length_map]; omega))
  have hoL : (s1.heap.push (seqObj "list" (L1.map fun q => Value.ref q.1).toArray 0)).get? s1.heap.objs.size = some (seqObj "list" (L1.map fun q => Value.ref q.1).toArray 0) := Heap.get?_push_size _ rfl
  have up : ∀ b u, s.heap.get? b = some u → (s1.heap.push (seqObj "list" (L1.map fun q => Value.ref q.1).toArray 0)).get? b = some u := fun b u e => Heap.get?_push_of_some _ (k1 b u e)
  have each : ∀ l : KL, PySem.W.EachIs (fun v (q : Addr × NestedKey) => v = Value.ref q.1) (l.map fun q => Value.ref q.1) l := fun l => by
    induction l with
    | nil => exact .nil
    | cons q l ih => exact .cons rfl ih
  have eachR : ∀ l : KL, (∀ q ∈ l, q ∈ L) → PySem.W.EachIs (fun v (q : Addr × NestedKey) => ∃ as, Reads (s1.heap.push (seqObj "list" (L1.map fun q => Value.ref q.1).toArray 0)) v q.2.data as ∧ s1.heap.objs.size ∉ as) (l.map fun q => Value.ref q.1) l := fun l => by
    induction l with
    | nil => exact fun _ => .nil
    | cons q l ih => exact fun hl => .cons ⟨[], PyProof.Rows.Reads.keeps up (hL q (hl q List.mem_cons_self)), by simp⟩ (ih fun r hr => hl r (List.mem_cons_of_mem _ hr))
  have mem : ∀ d, d ∈ L1.map (fun q => q.2.data) → d ∈ L.map (fun q => q.2.data) := fun d hd => ((p1.map fun q => q.2.data).mem_iff).mp hd
  refine wpAny_bind (wpAny_holding (PySem.W.list_sort_data (s := { s1 with heap := s1.heap.push (seqObj "list" (L1.map fun q => Value.ref q.1).toArray 0) }) (enc := fun q : Addr × NestedKey => q.2.data) hoL (each L1) (eachR L1 fun q hq => p1.mem_iff.mp hq)
    (fun d hd d' hd' => hal d (mem d hd) d' (mem d' hd')) ?so (by rw [sizeLine_eq]; omega) (fun q hq => ?dp) fun out ho1 he => ?fin))
  case so =>
    rcases hso with z | z
    · exact .inl fun d hd => z d (mem d hd)
    · exact .inr fun d hd => z d (mem d hd)
  case dp =>
    have := hdp q (p1.mem_iff.mp hq)
    have e : ∀ k : NestedKey, k.data.depth ≤ k.depth := key_depth
    have := e q.2
    show A.in1.units + 1 + q.2.data.depth < cLine
    simp only [Around.in1_units]
    omega
  case fin =>
    have hout : out = (L1.mergeSort (PySem.W.dataLe false fun q : Addr × NestedKey => q.2.data)).map fun q => Value.ref q.1 := each_eq he
    obtain ⟨c, hc⟩ := sortedHeap_at (vs := L1.map fun q => Value.ref q.1) (out := out.toArray) hoL
    rw [hout] at hc
    refine wpAny_pure ⟨_, rfl, hQ _ s1.heap.objs.size c _ (fun b u e => ?_) g1 o1 hz (by rw [hout]; exact hc) ((List.mergeSort_perm _ _).trans p1) (List.pairwise_mergeSort (fun a b c => dLe_trans a b c) (fun a b => by
      rcases dLe_total (k := fun q : Addr × NestedKey => q.2.data) a b with z | z <;> simp [z]) _)⟩
    have q := k1 b u e
    have lt := Heap.lt_size q
    show (sortedHeap (s1.heap.push (seqObj "list" (L1.map fun q => Value.ref q.1).toArray 0)) s1.heap.objs.size (L1.map fun q => Value.ref q.1) out.toArray).get? b = some u
    rw [sortedHeap_old (Nat.ne_of_lt lt) (by rw [size_push']; exact Nat.lt_succ_of_lt lt)]
    exact Heap.get?_push_of_some _ q
end
end Mi
end

section
set_option linter.all false
set_option maxRecDepth 100000
set_option Elab.async false
/-! MiK5: sorted(set(xs)) in the short programs. -/
namespace Mi
open PySem L2

/-! ### keys and data -/
mutual
theorem ky_un : ∀ (d : D) (k : NestedKey), kyD d = some k → unK k = d
  | .str x, k, h => by unfold kyD at h; cases h; rfl
  | .int i, k, h => by unfold kyD at h; cases h; rfl
  | .tup ds, k, h => by
    unfold kyD at h
    obtain ⟨ks, h1, rfl⟩ := Option.map_eq_some_iff.mp h
    unfold unK
    rw [kys_un ds ks h1]
  | .non, k, h => by unfold kyD at h; cases h
  | .bl _, k, h => by unfold kyD at h; cases h
  | .lst _, k, h => by unfold kyD at h; cases h
  | .loc _, k, h => by unfold kyD at h; cases h
  | .fn _, k, h => by unfold kyD at h; cases h
theorem kys_un : ∀ (ds : List D) (ks : List NestedKey), kyDs ds = some ks → unKs ks = ds
  | [], ks, h => by unfold kyDs at h; cases h; rfl
  | d :: ds, ks, h => by
    unfold kyDs at h
    split at h
    · rename_i k ks' h1 h2
      cases h
      unfold unKs
      rw [ky_un d k h1, kys_un ds ks' h2]
    · cases h
end
mutual
theorem ky_data : ∀ (d : D) (k : NestedKey), kyD d = some k → d.toPy = some k.data
  | .str x, k, h => by unfold kyD at h; cases h; rfl
  | .int i, k, h => by unfold kyD at h; cases h; rfl
  | .tup ds, k, h => by
    unfold kyD at h
    obtain ⟨ks, h1, rfl⟩ := Option.map_eq_some_iff.mp h
    unfold D.toPy NestedKey.data
    rw [kys_data ds ks h1]; rfl
  | .non, k, h => by unfold kyD at h; cases h
  | .bl _, k, h => by unfold kyD at h; cases h
  | .lst _, k, h => by unfold kyD at h; cases h
  | .loc _, k, h => by unfold kyD at h; cases h
  | .fn _, k, h => by unfold kyD at h; cases h
theorem kys_data : ∀ (ds : List D) (ks : List NestedKey), kyDs ds = some ks → D.toPys ds = some (NestedKey.datas ks)
  | [], ks, h => by unfold kyDs at h; cases h; rfl
  | d :: ds, ks, h => by
    unfold kyDs at h
    split at h
    · rename_i k ks' h1 h2
      cases h
      unfold D.toPys NestedKey.datas
      rw [ky_data d k h1, kys_data ds ks' h2]
    · cases h
end
mutual
theorem data_inj : ∀ (x y : NestedKey), x.data = y.data → x = y
  | .none, y, h => by cases y <;> first | rfl | (unfold NestedKey.data at h; cases h)
  | .num i, y, h => by cases y <;> (unfold NestedKey.data at h; cases h); rfl
  | .text i, y, h => by cases y <;> (unfold NestedKey.data at h; cases h); rfl
  | .tup xs, y, h => by
    cases y <;> unfold NestedKey.data at h <;> first | (cases h; done) | skip
    injection h with h
    rw [datas_inj xs _ h]
theorem datas_inj : ∀ (xs ys : List NestedKey), NestedKey.datas xs = NestedKey.datas ys → xs = ys
  | [], ys, h => by
    cases ys with
    | nil => rfl
    | cons y ys => unfold NestedKey.datas at h; cases h
  | x :: xs, ys, h => by
    cases ys with
    | nil => unfold NestedKey.datas at h; cases h
    | cons y ys =>
      unfold NestedKey.datas at h
      injection h with h1 h2
      rw [data_inj x y h1, datas_inj xs ys h2]
end
theorem unKs_map : ∀ ks : List NestedKey, unKs ks = ks.map unK
  | [] => rfl
  | k :: ks => by unfold unKs; rw [List.map_cons, unKs_map ks]
theorem datas_map : ∀ ks : List NestedKey, NestedKey.datas ks = ks.map NestedKey.data
  | [] => rfl
  | k :: ks => by unfold NestedKey.datas; rw [List.map_cons, datas_map ks]

/-! ### the set as an object that is told -/
def KSO (w : World) (a : Addr) (L : KL) : HO := .ext fun h => KS w h a L
theorem kso_new {P : Program} {w : World} {H : Hp} {h : Heap} {a : Addr} {L : KL} (K : KS w h a L) : ObjOk P w H h a (KSO w a L) := by
  have ⟨o, es, ep, t, e, r⟩ := K
  exact ⟨K, ⟨o, e⟩, fun h1 h2 p st => p.mv fun o e => st o e⟩
/-- q is a key, in the heap that is told -/
def KV (K : PySem.W.Frag) (H : Hp) (q : Addr × NestedKey) : Prop := Dp K H (.ref q.1) q.2.data
section
variable {X : Cx} {pins : List (Addr × Obj)} {σ : L2.St} {H : Hp} {s : Shared}
theorem KV.reads (I : L2.Inv X pins σ H s) {q : Addr × NestedKey} (h : KV X.K H q) : Reads s.heap (.ref q.1) q.2.data [] ∧ NestedIs s.heap q.2 (.ref q.1) := by
  obtain ⟨as, r⟩ := Dp.reads I _ _ _ h (rfl : RelV (.ref q.1) (.ref q.1))
  obtain ⟨h1, h2⟩ := reads_key _ _ _ r
  subst h2
  exact ⟨r, h1⟩
theorem refs_vals : ∀ {L : KL} {us : List Value}, Vals (L.map fun q => V.ref q.1) us → us = L.map fun q => Value.ref q.1
  | [], _, .nil => rfl
  | q :: L, _, .cons r t => by cases r; rw [List.map_cons, refs_vals t]
theorem vals_refs : ∀ L : KL, Vals (L.map fun q => V.ref q.1) (L.map fun q => Value.ref q.1)
  | [] => .nil
  | q :: L => .cons rfl (vals_refs L)
/-- set(xs) -/
def rSetK (K : PySem.W.Frag) (w : World) : List V → Hp → VK → Prop := fun vs H Q => ∃ (l : Addr) (ks : KL), vs = [V.ref l] ∧ (SqL K H l (ks.map fun q => V.ref q.1) ∨ SqT K H l (ks.map fun q => V.ref q.1)) ∧ (∀ q ∈ ks, KV K H q ∧ q.2.depth ≤ 7) ∧ ks.length < 64 ∧
  ∀ a L, H a = none → KGot ks ks.length L → (L.map (·.2)).Nodup → Q (.ref a) (upd H a (KSO w a L))
theorem ks_nodup {w : World} {h : Heap} {a : Addr} {L : KL} (K : KS w h a L) : (L.map (·.2)).Nodup := by
  obtain ⟨o, es, ep, t, e, x, d, T⟩ := K; exact T.nd
theorem call_setK (hc : X.calm = true) (hu : X.A.units + 16 < cLine) : CallR X (.type "set") (rSetK X.K X.w) := by
  intro pins s σ H vs us Q I r h
  obtain ⟨l, ks, rfl, hl, hk, few, q⟩ := h
  rw [Vals.ref1 r]
  have fin : ∀ (h' : Heap) (tk : Nat) (L : KL), KS X.w h' s.heap.objs.size L → KGot ks ks.length L → (∀ b o, s.heap.get? b = some o → h'.get? b = some o) → EP X pins σ Q (.ref s.heap.objs.size) { s with heap := h', toks := tk } := fun h' tk L K g k =>
    ⟨.ref s.heap.objs.size, upd H s.heap.objs.size (KSO X.w s.heap.objs.size L), I.laid (t' := tk) k (Nat.le_refl _) (kso_new K), rfl, q _ L (I.hok.fresh (Nat.le_refl _)) g (ks_nodup K)⟩
  have hkA : ∀ q ∈ ks, KA s.heap q.2 q.1 := fun q hq => ⟨(KV.reads I (hk q hq).1).2, (hk q hq).2⟩
  rcases hl with hl | hl
  · obtain ⟨its, rv, pl, hz⟩ := I.list hl
    exact call_keys_list ks (I.ok.hd hc) pl.isList (by simpa using refs_vals rv) hkA few hu fin
  · obtain ⟨its, rv, pl, hz⟩ := I.tuple hl
    obtain ⟨o, ho, hcl, n, hd⟩ := pl
    exact call_keys_tuple ks (I.ok.hd hc) ⟨o, ho, hcl, n, hd⟩ (by simpa using refs_vals rv) hkA few hu fin
/-- sorted(that set) -/
def rSortK (K : PySem.W.Frag) (w : World) : List V → Hp → VK → Prop := fun vs H Q => ∃ (a : Addr) (L : KL), vs = [V.ref a] ∧ H a = some (KSO w a L) ∧ (∀ q ∈ L, KV K H q ∧ q.2.depth ≤ 7) ∧ PySem.W.AllAlike (L.map fun q => q.2.data) ∧ PySem.W.Sortable (L.map fun q => q.2.data) ∧ L.length < 64 ∧
  ∀ (L' : KL) (p : Addr), L'.Perm L → L'.Pairwise (fun q r => PySem.W.dataLe false (fun x : Addr × NestedKey => x.2.data) q r = true) → H p = none → Q (.ref p) (upd H p (.lst (L'.map fun q => V.ref q.1)))
theorem call_sortK (hc : X.calm = true) (hu : X.A.units + 20 < cLine) : CallR X (.builtin "sorted") (rSortK X.K X.w) := by
  intro pins s σ H vs us Q I r h
  obtain ⟨a, L, rfl, ha, hk, hal, hso, few, q⟩ := h
  have K : KS X.w s.heap a L := (I.hok a _ ha).1
  rw [Vals.ref1 r]
  refine sorted_keys K (fun q hq => (KV.reads I (hk q hq).1).1) (I.ok.hd hc) hal hso (fun q hq => Nat.le_succ_of_le (hk q hq).2) hu fun s' p c L' k g o hp hg pm pw => ?_
  have few' : L'.length < 64 := by rw [pm.length_eq]; exact few
  have hn : H p = none := I.hok.fresh hp
  have J : L2.Inv X pins σ (upd H p (.lst (L'.map fun q => V.ref q.1))) { s with heap := s'.heap, gens := s'.gens, drawn := s'.drawn, toks := s'.toks } :=
    I.call (ch := []) (Un.laid k hp hn) (I.hok.laid k hp ⟨by rw [List.length_map, sizeLine_eq]; omega, L'.map (fun q => Value.ref q.1), c, vals_refs L', hg⟩) (by rw [g]; exact I.bare) (fun _ z => nomatch z)
  have e : s' = { s with heap := s'.heap, gens := s'.gens, drawn := s'.drawn, toks := s'.toks } := by
    obtain ⟨h', g', d', t', o'⟩ := s'
    obtain rfl : o' = s.os := o
    rfl
  rw [e]
  exact ⟨.ref p, _, J, rfl, q L' p pm pw hn⟩
end

/-! ### the meaning -/
theorem mem_dups {ks : List NestedKey} {k : NestedKey} : k ∈ ks.eraseDups ↔ k ∈ ks := by
  rw [List.mem_eraseDups]
theorem nodup_dups : ∀ (n : Nat) (ks : List NestedKey), ks.length ≤ n → ks.eraseDups.Nodup
  | _, [], _ => by simp
  | 0, _ :: _, h => by simp at h
  | n + 1, k :: ks, h => by
    rw [List.eraseDups_cons, List.nodup_cons]
    refine ⟨fun hm => ?_, nodup_dups n _ (Nat.le_trans (List.length_filter_le _ _) (Nat.le_of_succ_le_succ h))⟩
    have := List.mem_filter.mp (mem_dups.mp hm)
    simp at this
theorem okSet_all {ks : List NestedKey} (h : okSet ks = true) : ks.length < 64 ∧ (∀ k ∈ ks, (∃ x r, k = .tup (x :: r)) ∧ k.depth ≤ 7) ∧ ∀ p ∈ ks, ∀ q ∈ ks, PySem.W.alike p.data q.data = true := by
  unfold okSet at h
  rw [Bool.and_eq_true, Bool.and_eq_true, decide_eq_true_eq, List.all_eq_true, List.all_eq_true] at h
  refine ⟨h.1.1, fun k hk => ?_, fun p hp q hq => (List.all_eq_true.mp (h.2 p hp)) q hq⟩
  have := h.1.2 k hk
  split at this
  · rename_i x r
    exact ⟨⟨x, r, rfl⟩, of_decide_eq_true this⟩
  · cases this
/-- the sorted row of the keys that came is the one that is told -/
theorem sset_one {ks : List NestedKey} {L' : List NestedKey} (hal : ∀ p ∈ ks, ∀ q ∈ ks, PySem.W.alike p.data q.data = true) (nd : L'.Nodup) (same : ∀ k, k ∈ L' ↔ k ∈ ks) (pw : L'.Pairwise fun a b => PySem.W.dataLe false NestedKey.data a b = true) : L' = ssetL ks := by
  unfold ssetL
  have pm : L'.Perm (ks.eraseDups.mergeSort (PySem.W.dataLe false NestedKey.data)) := by
    refine ((List.perm_ext_iff_of_nodup nd (nodup_dups _ ks (Nat.le_refl _))).mpr fun k => ?_).trans (List.mergeSort_perm _ _).symm
    rw [same, mem_dups]
  refine sorted_one pm pw (List.pairwise_mergeSort (fun a b c => dLe_trans a b c) (fun a b => by rcases dLe_total (k := NestedKey.data) a b with z | z <;> simp [z]) _) fun a ha b hb h1 h2 => ?_
  exact data_inj _ _ (dLe_anti (hal a ((same a).mp ha) b ((same b).mp hb)) h1 h2)
/-- rows of tuples, with where they stand and which keys they are -/
theorem rows_of {Γ : Wd} {μ : List Addr} {F : Hp} : ∀ {ds : List D} {ks : List NestedKey} {xs : List V}, Reps Γ μ F xs ds → kyDs ds = some ks → (∀ k ∈ ks, ∃ x r, k = NestedKey.tup (x :: r)) →
    ∃ L : KL, L.map (fun q => V.ref q.1) = xs ∧ L.map (·.2) = ks ∧ ∀ q ∈ L, Rep Γ μ F (.ref q.1) (unK q.2) ∧ kyD (unK q.2) = some q.2
  | [], ks, xs, h, e, _ => by
    unfold kyDs at e
    cases e; cases h
    exact ⟨[], rfl, rfl, fun q hq => nomatch hq⟩
  | d :: ds, ks, xs, h, e, ht => by
    cases h with
    | cons h1 h2 =>
      unfold kyDs at e
      split at e
      · rename_i k ks' e1 e2
        cases e
        obtain ⟨L, a1, a2, a3⟩ := rows_of h2 e2 fun k hk => ht k (List.mem_cons_of_mem _ hk)
        obtain ⟨x, r, hkt⟩ := ht k List.mem_cons_self
        have eu := ky_un d k e1
        subst eu
        subst hkt
        have h1' := h1
        unfold unK at h1'
        cases h1' with
        | tup z1 z2 =>
          rename_i v a xs'
          refine ⟨(a, .tup (x :: r)) :: L, by rw [List.map_cons, a1], by rw [List.map_cons, a2], fun q hq => ?_⟩
          rcases List.mem_cons.mp hq with z | z
          · subst z; exact ⟨h1, e1⟩
          · exact a3 q z
      · cases e
end Mi
end

section
set_option linter.all false
set_option maxRecDepth 100000
set_option Elab.async false
set_option maxHeartbeats 2000000
/-! MiU0: sets of texts: a text comes in; the set is sorted. -/
namespace Mi
open PySem PySem.Spec PyProof.Rows L2

abbrev TL := List (Str × Tok)
def tvl (q : Str × Tok) : Value := .str q.1 q.2
def trw (w : World) (q : Str × Tok) : Int × Value := (hashStr w q.1, tvl q)
/-- the set at a has the texts L -/
def TxS (w : World) (h : Heap) (a : Addr) (L : TL) : Prop := ∃ o es ep t, h.get? a = some o ∧ o.ExactSet ∧ o.data = .set es ep t ∧ es.toList = L.map (trw w) ∧ (L.map (·.1)).Nodup ∧ t.fits es.size = true ∧ Ris t.place.toList ∧
  (w.params.followText "set-order" = true ∨ t.led = true) ∧ L.length < 64
theorem TxS.mv {w : World} {h h' : Heap} {a : Addr} {L : TL} (x : TxS w h a L) (m : ∀ o, h.get? a = some o → h'.get? a = some o) : TxS w h' a L := by
  obtain ⟨o, es, ep, t, e, r⟩ := x
  exact ⟨o, es, ep, t, m o e, r⟩
theorem ts_new {w : World} {h : Heap} {a : Addr} (e : h.get? a = some (setNew w)) : TxS w h a [] :=
  ⟨_, #[], 0, _, e, ⟨rfl, rfl, rfl⟩, rfl, rfl, List.nodup_nil, rfl, List.Pairwise.nil, by
    show _ ∨ (!w.params.followText "set-order") = true
    cases w.params.followText "set-order"
    · exact .inr rfl
    · exact .inl rfl, by show 0 < 64; decide⟩
theorem trow_size {w : World} {L : TL} {es : Array (Int × Value)} (r : es.toList = L.map (trw w)) : es.size = L.length := by
  rw [← Array.length_toList, r, List.length_map]
theorem trow_elems {P : Program} {w : World} {L : TL} {es : Array (Int × Value)} (r : es.toList = L.map (trw w)) : ElemsOf (strKind P w) es.toList := fun e he => by
  rw [r] at he
  obtain ⟨q, _, rfl⟩ := List.mem_map.mp he
  exact ⟨⟨q.1, strKind_is P w q.1 q.2, rfl⟩, rfl⟩
theorem trow_is {P : Program} {w : World} {q : Str × Tok} {k : Str} : (strKind P w).is k (trw w q).2 = true ↔ q.1 = k := by
  show Value.isStrOf k (.str q.1 q.2) = true ↔ _
  simp [Value.isStrOf]
section
variable {P : Program} {w : World} {A : Around} {E : Value → Shared → Prop} {s : Shared} {a : Addr} {L : TL}
theorem ts_tail {g : Bool → Sem Unit} (hg : ∀ (b : Bool) (s₁ : Shared) (Q' : Unit → Shared → Prop), Q' () s₁ → wpAny (model P w) A (g b) Q' E s₁)
    {o : Obj} {es : Array (Int × Value)} {ep : Nat} {t : SetTable} (ho : s.heap.get? a = some o) (hex : o.ExactSet) (hd : o.data = .set es ep t)
    {es1 : Array (Int × Value)} {t2 : SetTable} {L1 : TL} (r1 : es1.toList = L1.map (trw w)) (nd1 : (L1.map (·.1)).Nodup) (few : L1.length < 64)
    (hf2 : t2.fits es1.size = true) (hr : Ris t2.place.toList) (hl : w.params.followText "set-order" = true ∨ t2.led = true) {wasDummy : Bool} {R : Option Bool → Shared → Prop}
    (hR : ∀ h' L', Heap.SameBut a s.heap h' → TxS w h' a L' → L'.Perm L1 → R (some true) { s with heap := h' }) :
    wpAny (model P w) A (do
        storeSet a es1 t2
        if (!wasDummy && t2.tooFull) = true then do
            g (relayAll t2 es1 (SetTable.grown es1.size)).2.2
            storeSet a (relayAll t2 es1 (SetTable.grown es1.size)).1 (relayAll t2 es1 (SetTable.grown es1.size)).2.1
            pure (some true)
          else pure (some true)) R E s := by
  have hb1 : es1.size < scanBound := by rw [trow_size r1]; unfold scanBound; omega
  refine wpAny_bind (wpAny_storeSet_of ho hd ?_ (fits_of_scanBound hb1))
  have ho1 := store_at (es' := es1) (t' := t2) ho hd
  have sb1 := Heap.SameBut.update s.heap a (Obj.putSet es1 t2)
  split
  · have pm := relayAll_perm t2 es1 (SetTable.grown es1.size)
    have hf3 := relayAll_fits t2 es1 (SetTable.grown es1.size)
    have hr3 := relayAll_ris t2 es1 (SetTable.grown es1.size)
    have hl3 := relayAll_led t2 es1 (SetTable.grown es1.size)
    generalize relayAll t2 es1 (SetTable.grown es1.size) = Z at pm hf3 hr3 hl3 ⊢
    obtain ⟨es2, t3, gave⟩ := Z
    dsimp only at pm hf3 hr3 hl3 ⊢
    rw [r1] at pm
    obtain ⟨L2, r2, p2⟩ := exists_perm_map pm
    have hsz : es2.size = es1.size := by rw [trow_size r2, trow_size r1, p2.length_eq]
    have hb2 : es2.size < scanBound := by rw [hsz]; exact hb1
    refine wpAny_bind (hg _ _ _ ?_)
    refine wpAny_bind (wpAny_storeSet_of ho1 rfl ?_ (fits_of_scanBound hb2))
    have ho2 := store_at (es' := es2) (t' := t3) ho1 rfl
    refine wpAny_pure (hR _ L2 (sb1.trans (Heap.SameBut.update _ a _)) ?_ p2)
    exact ⟨_, es2, _, t3, ho2, hex, rfl, r2, (p2.map (·.1)).nodup_iff.mpr nd1, hf3, hr3, hl.imp id fun z => by rw [hl3]; exact z, by rw [p2.length_eq]; exact few⟩
  · exact wpAny_pure (hR _ L1 sb1 ⟨_, es1, _, t2, ho1, hex, rfl, r1, nd1, hf2, hr, hl, few⟩ (List.Perm.refl _))
/-- a text comes in -/
theorem ts_add {k : Str} {tk : Tok} {Q : Bool → Shared → Prop} (R : TxS w s.heap a L) (room : L.length + 1 < 64)
    (hQ : ∀ b h' L', Heap.SameBut a s.heap h' → TxS w h' a L' → (k ∈ L.map (·.1) → L' = L) → (k ∉ L.map (·.1) → L'.Perm ((k, tk) :: L)) → Q b { s with heap := h' }) :
    wpAny (model P w) A (setAddHashed a (.str k tk) (hashStr w k)) Q E s := by
  obtain ⟨o, es, ep, t, ho, hex, hd, r0, nd, hf, hr, hl, few⟩ := R
  have hkey : (strKind P w).is k (.str k tk) = true := strKind_is P w k tk
  have hsc : (Value.str k tk).scannable = true := rfl
  have hel : ElemsOf (strKind P w) es.toList := trow_elems r0
  have hb : es.size < scanBound := by rw [trow_size r0]; unfold scanBound; omega
  show wpAny (model P w) A (setAddHashed a (.str k tk) ((strKind P w).hash k)) Q E s
  unfold setAddHashed setAddHashedIn
  refine wpAny_holding (wpAny_bind (wpAny_setState_of ho hd hf ?_))
  dsimp only
  rw [byScan_of hsc hb hel]
  simp only [↓reduceIte]
  unfold setAddByScan
  refine wpAny_bind ?_
  refine wpAny_bind (wpAny_rule ?_)
  refine wpAny_bind (wpAny_setScan_of hkey ho hd hf hel ?_)
  cases hfi : List.findIdx? (fun e => (strKind P w).is k e.2) es.toList with
  | some j =>
    dsimp only
    obtain ⟨hj, pj, _⟩ := List.findIdx?_eq_some_iff_getElem.mp hfi
    have hm : ∀ e, e = es.toList[j] → e ∈ L.map (trw w) := fun e he => by rw [← r0, he]; exact List.getElem_mem hj
    obtain ⟨q, hq, eq⟩ := List.mem_map.mp (hm _ rfl)
    have hk : q.1 = k := by rw [← eq] at pj; exact trow_is.mp pj
    have hin : k ∈ L.map (·.1) := List.mem_map.mpr ⟨q, hq, hk⟩
    exact wpAny_pure (wpAny_pure (hQ false s.heap L (Heap.SameBut.refl a s.heap) ⟨o, es, ep, t, ho, hex, hd, r0, nd, hf, hr, hl, few⟩ (fun _ => rfl) fun z => absurd hin z))
  | none =>
    dsimp only
    have hnk : k ∉ L.map (·.1) := fun z => by
      obtain ⟨q, hq, e⟩ := List.mem_map.mp z
      have c := List.findIdx?_eq_none_iff.mp hfi (trw w q) (by rw [r0]; exact List.mem_map.mpr ⟨q, hq, rfl⟩)
      rw [trow_is.mpr e] at c
      cases c
    have hgw : ∀ (b : Bool) {s₁ : Shared} {Q' : Unit → Shared → Prop}, Q' () s₁ → wpAny (model P w) A (match b with | true => rule "set.scan.the-table-gave-way" | false => pure ()) Q' E s₁ :=
      fun b s₁ Q' q => by cases b <;> first | exact wpAny_pure q | exact wpAny_rule q
    have pm := layNew_perm t es ((strKind P w).hash k) (.str k tk)
    have hf1 := layNew_fits t es ((strKind P w).hash k) (.str k tk)
    have hr1 := layNew_ris t es ((strKind P w).hash k) (.str k tk) hr
    have hl1 := layNew_led t es ((strKind P w).hash k) (.str k tk)
    generalize layNew t es ((strKind P w).hash k) (.str k tk) = Z at pm hf1 hr1 hl1 ⊢
    obtain ⟨es1, t1, wasDummy, gave⟩ := Z
    dsimp only at pm hf1 hr1 hl1 ⊢
    rw [Array.toList_push] at pm
    have pc : es1.toList.Perm (((k, tk) :: L).map (trw w)) := by
      refine (pm.trans (List.perm_append_singleton _ _)).trans ?_
      rw [r0, List.map_cons]
      exact List.Perm.refl _
    obtain ⟨L1, r1, p1⟩ := exists_perm_map pc
    have nd1 : (L1.map (·.1)).Nodup := by
      refine (p1.map (·.1)).nodup_iff.mpr ?_
      rw [List.map_cons]
      exact List.nodup_cons.mpr ⟨hnk, nd⟩
    have few1 : L1.length < 64 := by rw [p1.length_eq, List.length_cons]; exact room
    have hled : w.params.followText "set-order" = true ∨ t1.led = true := hl.imp id fun z => by rw [hl1]; exact z
    have fin : ∀ h' L', Heap.SameBut a s.heap h' → TxS w h' a L' → L'.Perm L1 → Q true { s with heap := h' } := fun h' L' sb r p =>
      hQ true h' L' sb r (fun z => absurd z hnk) fun _ => p.trans p1
    refine wpAny_bind (hgw _ ?_)
    split
    · refine wpAny_bind ?_
      rw [hashByValue_scannable 8 hsc]
      refine wpAny_pure ?_
      refine ts_tail ?_ ho hex hd r1 nd1 few1 ?_ ?_ ?_ ?_
      · intro b s₁ Q' q; cases b <;> first | exact wpAny_pure q | exact wpAny_rule q
      · first | (split <;> first | exact hf1 | exact SetTable.fits_plain_off hf1) | exact hf1
      · first | (split <;> exact hr1) | exact hr1
      · first | (split <;> exact hled) | exact hled
      · intro h' L' sb r p; dsimp only; exact wpAny_pure (fin h' L' sb r p)
    · refine wpAny_bind (wpAny_pure ?_)
      simp only [↓reduceIte]
      refine ts_tail ?_ ho hex hd r1 nd1 few1 hf1 hr1 hled ?_
      · intro b s₁ Q' q; cases b <;> first | exact wpAny_pure q | exact wpAny_rule q
      · intro h' L' sb r p; dsimp only; exact wpAny_pure (fin h' L' sb r p)
/-- set.add's own adding: the hash, then the adding -/
theorem ts_setAdd {k : Str} {tk : Tok} {Q : Bool → Shared → Prop} (R : TxS w s.heap a L) (room : L.length + 1 < 64)
    (hQ : ∀ b h' L', Heap.SameBut a s.heap h' → TxS w h' a L' → (k ∈ L.map (·.1) → L' = L) → (k ∉ L.map (·.1) → L'.Perm ((k, tk) :: L)) → Q b { s with heap := h', toks := s.toks + 1 }) :
    wpAny (model P w) A (setAdd a (.str k tk)) Q E s := by
  unfold setAdd
  refine wpAny_holding (wpAny_bind ((strKind P w).pyHash (strKind_is P w k tk) ?_))
  exact ts_add (s := { s with toks := s.toks + 1 }) R room hQ
/-- what the set has behind the first i things -/
structure TGot (ks : TL) (i : Nat) (L : TL) : Prop where
  sub : ∀ q ∈ L, q ∈ ks.take i
  all : ∀ q ∈ ks.take i, q.1 ∈ L.map (·.1)
  len : L.length ≤ i
theorem TGot.zero (ks : TL) : TGot ks 0 [] := ⟨fun q h => (by cases h), fun q h => (by simp at h), Nat.le_refl 0⟩
theorem TGot.next {ks L L' : TL} {i : Nat} {x : Str × Tok} (g : TGot ks i L) (e : ks[i]? = some x) (h1 : x.1 ∈ L.map (·.1) → L' = L) (h2 : x.1 ∉ L.map (·.1) → L'.Perm (x :: L)) : TGot ks (i + 1) L' := by
  have tk : ks.take (i + 1) = ks.take i ++ [x] := by rw [List.take_succ, e]; rfl
  by_cases c : x.1 ∈ L.map (·.1)
  · rw [h1 c]
    refine ⟨fun q hq => by rw [tk]; exact List.mem_append_left _ (g.sub q hq), fun q hq => ?_, Nat.le_succ_of_le g.len⟩
    rw [tk] at hq
    rcases List.mem_append.mp hq with z | z
    · exact g.all q z
    · rw [List.mem_singleton.mp z]; exact c
  · have pm := h2 c
    refine ⟨fun q hq => ?_, fun q hq => ?_, by rw [pm.length_eq]; exact Nat.succ_le_succ g.len⟩
    · rw [tk]
      rcases List.mem_cons.mp (pm.mem_iff.mp hq) with z | z
      · rw [z]; exact List.mem_append_right _ (List.mem_singleton.mpr rfl)
      · exact List.mem_append_left _ (g.sub q z)
    · rw [(pm.map (·.1)).mem_iff, List.map_cons]
      rw [tk] at hq
      rcases List.mem_append.mp hq with z | z
      · exact List.mem_cons_of_mem _ (g.all q z)
      · rw [List.mem_singleton.mp z]; exact List.mem_cons_self
/-- sorted of such a set -/
theorem sorted_texts {Q : Value → Shared → Prop} (K : TxS w s.heap a L) (hh : A.handled = none) (hu : A.units + 20 < cLine)
    (hQ : ∀ s' p c (L' : TL), (∀ b o, s.heap.get? b = some o → s'.heap.get? b = some o) → s'.gens = s.gens → s'.os = s.os → s.heap.objs.size ≤ p → s'.heap.get? p = some (seqObj "list" (L'.map tvl).toArray c) → L'.Perm L →
      L'.Pairwise (fun q r => PySem.W.dataLe false (fun x : Str × Tok => PyData.str x.1) q r = true) → Q (.ref p) s') :
    wpAny (model P w) A (call (.builtin "sorted") [.ref a]) Q E s := by
  obtain ⟨o, es, ep, t, ho, hex, hd, r0, nd, hf, hr, hl, few⟩ := K
  refine Calls.call_function_entry kind_sorted plain_sorted entry_sorted (args_sorted1 _) ?_
  unfold Builtin.«sorted»
  refine wpAny_bind (m := checkCount "sorted" 1 1 _) (wpAny_pure ?_)
  refine wpAny_bind (collect_set (A := A.in1) hh ⟨o, ho, hex.1, hd⟩ hf (by rw [trow_size r0]; unfold scanBound; omega) hr hl fun s1 vs k1 hz g1 o1 pm => ?_)
  have pm : vs.Perm (L.map tvl) := by
    rw [r0, List.map_map] at pm; exact pm
  obtain ⟨L1, e1, p1⟩ := exists_perm_map pm
  subst e1
  have len1 : L1.length = L.length := p1.length_eq
  refine wpAny_bind (wpAny_newList ?_ (by rw [sizeLine_eq, List.length_map]; omega))
  have hoL : (s1.heap.push (seqObj "list" (L1.map tvl).toArray 0)).get? s1.heap.objs.size = some (seqObj "list" (L1.map tvl).toArray 0) := Heap.get?_push_size _ rfl
  have each : ∀ l : TL, PySem.W.EachIs (fun v (q : Str × Tok) => v = tvl q) (l.map tvl) l := fun l => by
    induction l with
    | nil => exact .nil
    | cons q l ih => exact .cons rfl ih
  have eachR : ∀ l : TL, PySem.W.EachIs (fun v (q : Str × Tok) => ∃ as, Reads (s1.heap.push (seqObj "list" (L1.map tvl).toArray 0)) v (.str q.1) as ∧ s1.heap.objs.size ∉ as) (l.map tvl) l := fun l => by
    induction l with
    | nil => exact .nil
    | cons q l ih => exact .cons ⟨[], .str _ _, by simp⟩ ih
  refine wpAny_bind (wpAny_holding (PySem.W.list_sort_data (s := { s1 with heap := s1.heap.push (seqObj "list" (L1.map tvl).toArray 0) }) (enc := fun q : Str × Tok => PyData.str q.1) hoL (each L1) (eachR L1)
    (fun d hd d' hd' => ?al) ?so (by rw [sizeLine_eq]; omega) (fun q hq => ?dp) fun out ho1 he => ?fin))
  case al =>
    obtain ⟨q, _, rfl⟩ := List.mem_map.mp hd
    obtain ⟨q', _, rfl⟩ := List.mem_map.mp hd'
    unfold PySem.W.alike; rfl
  case so =>
    refine .inr fun d hd => ?_
    obtain ⟨q, _, rfl⟩ := List.mem_map.mp hd
    first | trivial | exact ⟨fun z => nomatch z, fun _ z => nomatch z⟩ | simp
  case dp =>
    show A.in1.units + 1 + 0 < cLine
    simp only [Around.in1_units]
    omega
  case fin =>
    have hout : out = (L1.mergeSort (PySem.W.dataLe false fun q : Str × Tok => PyData.str q.1)).map tvl := each_eq he
    obtain ⟨c, hc⟩ := sortedHeap_at (vs := L1.map tvl) (out := out.toArray) hoL
    rw [hout] at hc
    refine wpAny_pure ⟨_, rfl, hQ _ s1.heap.objs.size c _ (fun b u e => ?_) g1 o1 hz (by rw [hout]; exact hc) ((List.mergeSort_perm _ _).trans p1) (List.pairwise_mergeSort (fun a b c => dLe_trans a b c) (fun a b => by
      rcases dLe_total (k := fun q : Str × Tok => PyData.str q.1) a b with z | z <;> simp [z]) _)⟩
    have q := k1 b u e
    have lt := Heap.lt_size q
    show (sortedHeap (s1.heap.push (seqObj "list" (L1.map tvl).toArray 0)) s1.heap.objs.size (L1.map tvl) out.toArray).get? b = some u
    rw [sortedHeap_old (Nat.ne_of_lt lt) (by rw [size_push']; exact Nat.lt_succ_of_lt lt)]
    exact Heap.get?_push_of_some _ q
end
end Mi
end

section
set_option linter.all false
set_option maxRecDepth 100000
set_option Elab.async false
/-! MiU1: set(xs) of a list or a tuple of texts. -/
namespace Mi
open PySem PySem.Spec PyProof.Rows L2
section
variable {P : Program} {w : World} {A : Around} {E : Value → Shared → Prop} {s : Shared}
/-- the loop of set.update -/
theorem text_loop {I : Addr} {fp wr : List Addr} {G : Array GenState → Array GenState → Prop} {n : Nat} {Pv : Nat → Value → Prop} {St : Nat → Shared → Prop} {R : Result → Shared → Prop}
    (W : WalksS P w A.in1 I fp wr G n Pv St) (S : Addr) (hSf : S ∉ fp) (ks : TL) (hn : n = ks.length) (few : ks.length < 64) (hval : ∀ i v, Pv i v → ∃ q, ks[i]? = some q ∧ v = tvl q)
    (h0 : Heap) (hS0 : h0.get? S = none) (hw0 : ∀ b ∈ wr, h0.get? b = none) (hu : A.in1.units + 8 < cLine) :
    ∀ (m i : Nat) (s : Shared) (L : TL), i + m = n → St i s → (∀ b o, h0.get? b = some o → s.heap.get? b = some o) → TxS w s.heap S L → TGot ks i L →
      (∀ s' L', Moved (S :: wr) G s s' → TxS w s'.heap S L' → TGot ks n L' → (∀ b o, h0.get? b = some o → s'.heap.get? b = some o) → R (.ok (.ret .none)) s') →
      codeAny (model P w) A (.builtin "set.update.loop" ⟨[.ref S, .ref I], []⟩) R s := by
  have hSw : S ∉ wr := fun z => hSf (W.sub _ z)
  have wider : ∀ b ∈ wr, b ∈ S :: wr := fun b hb => List.mem_cons_of_mem _ hb
  have past : ∀ {s s' : Shared}, Moved wr G s s' → (∀ b o, h0.get? b = some o → s.heap.get? b = some o) → ∀ b o, h0.get? b = some o → s'.heap.get? b = some o := fun mv kp b o e =>
    mv.heap b o (fun z => by rw [hw0 b z] at e; cases e) (kp b o e)
  intro m
  induction m with
  | zero =>
    intro i s L him hst kp K g hR
    obtain rfl : i = n := him
    refine codeAny_builtin F.entry_set_update_loop ?_
    rw [Around.under_plainId F.plain_set_update_loop _]
    show wpAny _ A.in1 (pyNext (.ref I) >>= _) _ _ s
    refine wpAny_bind (W.done s _ _ hst fun s' mv => ?_)
    show wpAny _ A.in1 (ret Value.none) _ _ s'
    exact wpAny_pure (hR s' L (mv.mono wider) (K.mv fun o e => mv.heap S o hSw e) g (past mv kp))
  | succ m ih =>
    intro i s L him hst kp K g hR
    have lt : i < n := by omega
    refine codeAny_builtin F.entry_set_update_loop ?_
    rw [Around.under_plainId F.plain_set_update_loop _]
    show wpAny _ A.in1 (pyNext (.ref I) >>= _) _ _ s
    refine wpAny_bind (W.item i s _ _ lt hst fun v s' hP hst' mv => ?_)
    obtain ⟨q, hq, rfl⟩ := hval i v hP
    have kp' := past mv kp
    have K1 : TxS w s'.heap S L := K.mv fun o e => mv.heap S o hSw e
    show wpAny _ A.in1 (holding [tvl q] (setAdd S (tvl q)) >>= _) _ _ s'
    refine wpAny_bind (wpAny_holding ?_)
    refine ts_setAdd K1 (by have := g.len; omega) fun b h' L' sb K' c1 c2 => ?_
    have kp2 : ∀ b o, h0.get? b = some o → h'.get? b = some o := fun b o e => (sb.2 b (fun z => by rw [z, hS0] at e; cases e)).trans (kp' b o e)
    refine wpAny_pure ⟨plainId_quiet F.plain_set_update_loop _, ih (i + 1) _ L' (by omega) (W.frame _ s' _ _ hst' (Nat.le_add_right _ _) fun b hb o e => ?_) kp2 K' (g.next hq c1 c2) fun s2 L2 mv2 K2 g2 kp3 => ?_⟩
    · rw [sb.2 b (fun z : b = S => hSf (by rw [← z]; exact hb))]; exact e
    · refine hR s2 L2 (Moved.trans W.gtrans ((mv.mono wider).then_heap (Nat.le_add_right _ _) fun b o hb e => ?_) mv2) K2 g2 kp3
      rw [sb.2 b (fun z : b = S => hb (by rw [z]; exact List.mem_cons_self))]; exact e

set_option maxRecDepth 100000 in
set_option maxHeartbeats 3200000 in
/-- set(xs), xs a list of texts -/
theorem call_texts_list {l : Addr} {items : Array Value} (ks : TL) {Q : Value → Shared → Prop} (hh : A.handled = none) (hl : s.heap.IsList l items) (hit : items.toList = ks.map tvl) (few : ks.length < 64) (hu : A.units + 16 < cLine)
    (hQ : ∀ (h' : Heap) (tk : Nat) L, TxS w h' s.heap.objs.size L → TGot ks ks.length L → (∀ b o, s.heap.get? b = some o → h'.get? b = some o) → Q (.ref s.heap.objs.size) { s with heap := h', toks := tk }) :
    wpAny (model P w) A (call (.type "set") [.ref l]) Q E s := by
  have hn : items.size = ks.length := by rw [← Array.length_toList, hit, List.length_map]
  obtain ⟨c, tl, hmro⟩ := F.called_set.mro
  have m1 := F.called_set.made
  have m2 := F.called_set.sub
  refine wpAny_call (codeAny_of_tree ?_)
  show wpAny _ _ (callAny (.type "set") _) _ _ _
  refine wpAny_pure ⟨Code.quiet_builtin _ (by decide +kernel), codeAny_builtin F.entry_type_call ?_⟩
  rw [Around.under_plain (weight_type_call_type "set" [.ref l] []) rfl]
  have m3 := F.called_set.notType
  have m4 := F.called_set.canCreate
  have m5 := F.typeCall_set_1 (.ref l)
  repeat (any_goals (first | assumption | wp_step))
  refine codeAny_mono (code_set_led1 (.ref l) (E := E) (Q₁ := fun obj s₁ => obj = .ref s.heap.objs.size ∧ s₁ = { s with heap := s.heap.push (setNew w) }) ⟨rfl, rfl⟩) fun r s₁ hr => ?_
  match r, hr with
  | .error e, hr => exact hr
  | .ok (.ret obj), hr =>
    obtain ⟨rfl, rfl⟩ := hr
    have hS : (s.heap.push (setNew w)).get? s.heap.objs.size = some (setNew w) := Heap.get?_push_size _ rfl
    have hT : Shared.TypeIs { s with heap := s.heap.push (setNew w) } (.ref s.heap.objs.size) "set" := ⟨_, hS, rfl⟩
    have i1 := F.called_set.init.lookup
    have i2 := F.called_set.init.bind (.ref s.heap.objs.size)
    repeat (any_goals (first | assumption | wp_step))
    refine codeAny_mono (codeAny_call_builtin (R := wants (fun r s₂ => r = .none ∧ ∃ h' tk L, s₂ = { s with heap := h', toks := tk } ∧ TxS w h' s.heap.objs.size L ∧ TGot ks ks.length L ∧ ∀ b o, s.heap.get? b = some o → h'.get? b = some o) E)
      F.called_set.init.plain F.entry_set_init (check_set_init_1 hT ?ini)) fun r₂ s₂ hr₂ => ?aft
    case ini =>
      obtain ⟨ol, hol, hcl, nl, hdl⟩ := hl
      obtain ⟨ocls, odict, odata, oslots⟩ := ol
      simp only at hcl hdl
      subst hcl; subst hdl
      have lS : l < s.heap.objs.size := Heap.lt_size hol
      have hol1 : (s.heap.push (setNew w)).get? l = some { cls := .type "list", dict := odict, data := .seq items nl, slots := oslots } := Heap.get?_push_of_some _ hol
      have isl : (s.heap.push (setNew w)).IsList l items := ⟨_, hol1, rfl, nl, rfl⟩
      have z1 := F.sub_list_set
      have z2 := F.sub_list_frozenset
      have z3 : (Value.type "list" == Value.type "dict") = false := by decide
      unfold Builtin.«set.__init__» noKeywords Builtin.Frozenset.updateFrom
      generalize hPI : pyIter = PI
      wp_walk
      subst hPI
      refine wpAny_pyIter_list isl (wpAny_bind (wpAny_runValue ?_))
      have no3 : A.in1.in1.in1.handled = none := by simp [hh]
      have sz1 : (s.heap.push (setNew w)).objs.size = s.heap.objs.size + 1 := Heap.size_push ..
      have lI : l ≠ (s.heap.push (setNew w)).objs.size := by rw [sz1]; exact Nat.ne_of_lt (Nat.lt_succ_of_lt lS)
      have hSf : s.heap.objs.size ∉ [(s.heap.push (setNew w)).objs.size, l] := by
        rw [sz1]
        intro z
        rcases List.mem_cons.mp z with z | z
        · exact Nat.ne_of_lt (Nat.lt_succ_self _) z
        · exact Nat.ne_of_gt lS (List.mem_singleton.mp z)
      have fresh : ∀ b, s.heap.objs.size ≤ b → s.heap.get? b = none := fun b hb => Heap.get?_none_of_le hb
      refine text_loop ((Walks.list no3 _ l lI items).toS) s.heap.objs.size hSf ks hn few (fun i v hv => ?_) s.heap (fresh _ (Nat.le_refl _)) (fun b hb => fresh b (by
          rw [List.mem_singleton.mp hb, sz1]; exact Nat.le_succ _)) (by simp only [Around.in1_units]; omega) items.size 0 _ [] (Nat.zero_add _) ⟨⟨_, Heap.get?_push_size _ rfl, rfl, rfl⟩, isl.push _⟩
        (fun b o e => Heap.get?_push_of_some _ (Heap.get?_push_of_some _ e)) (ts_new (Heap.get?_push_of_some _ hS)) (TGot.zero ks) fun s' L mv K g kp => ?_
      · have e : items.toList[i]? = some v := by rw [Array.getElem?_toList]; exact hv
        rw [hit, List.getElem?_map] at e
        obtain ⟨q, h1, h2⟩ := Option.map_eq_some_iff.mp e
        exact ⟨q, h1, h2.symm⟩
      · obtain ⟨h', g2, d', tk', os'⟩ := s'
        obtain rfl : g2 = s.gens := mv.gens
        obtain rfl : d' = s.drawn := mv.drawn
        obtain rfl : os' = s.os := mv.os
        rw [hn] at g
        refine wpAny_pure ?_
        show wpAny _ _ (ret Value.none) _ _ _
        exact wpAny_pure ⟨rfl, h', tk', L, rfl, K, g, kp⟩
    case aft =>
      match r₂, hr₂ with
      | .error e, hr₂ => exact hr₂
      | .ok (.ret r), hr₂ =>
        obtain ⟨rfl, h', tk, L, rfl, K, g, kp⟩ := hr₂
        repeat (any_goals (first | assumption | wp_step))
        exact hQ h' _ L K g kp

set_option maxRecDepth 100000 in
set_option maxHeartbeats 3200000 in
/-- set(xs), xs a tuple of texts -/
theorem call_texts_tuple {l : Addr} {items : Array Value} (ks : TL) {Q : Value → Shared → Prop} (hh : A.handled = none) (hl : s.heap.IsTuple l items) (hit : items.toList = ks.map tvl) (few : ks.length < 64) (hu : A.units + 16 < cLine)
    (hQ : ∀ (h' : Heap) (tk : Nat) L, TxS w h' s.heap.objs.size L → TGot ks ks.length L → (∀ b o, s.heap.get? b = some o → h'.get? b = some o) → Q (.ref s.heap.objs.size) { s with heap := h', toks := tk }) :
    wpAny (model P w) A (call (.type "set") [.ref l]) Q E s := by
  have hn : items.size = ks.length := by rw [← Array.length_toList, hit, List.length_map]
  obtain ⟨c, tl, hmro⟩ := F.called_set.mro
  have m1 := F.called_set.made
  have m2 := F.called_set.sub
  refine wpAny_call (codeAny_of_tree ?_)
  show wpAny _ _ (callAny (.type "set") _) _ _ _
  refine wpAny_pure ⟨Code.quiet_builtin _ (by decide +kernel), codeAny_builtin F.entry_type_call ?_⟩
  rw [Around.under_plain (weight_type_call_type "set" [.ref l] []) rfl]
  have m3 := F.called_set.notType
  have m4 := F.called_set.canCreate
  have m5 := F.typeCall_set_1 (.ref l)
  repeat (any_goals (first | assumption | wp_step))
  refine codeAny_mono (code_set_led1 (.ref l) (E := E) (Q₁ := fun obj s₁ => obj = .ref s.heap.objs.size ∧ s₁ = { s with heap := s.heap.push (setNew w) }) ⟨rfl, rfl⟩) fun r s₁ hr => ?_
  match r, hr with
  | .error e, hr => exact hr
  | .ok (.ret obj), hr =>
    obtain ⟨rfl, rfl⟩ := hr
    have hS : (s.heap.push (setNew w)).get? s.heap.objs.size = some (setNew w) := Heap.get?_push_size _ rfl
    have hT : Shared.TypeIs { s with heap := s.heap.push (setNew w) } (.ref s.heap.objs.size) "set" := ⟨_, hS, rfl⟩
    have i1 := F.called_set.init.lookup
    have i2 := F.called_set.init.bind (.ref s.heap.objs.size)
    repeat (any_goals (first | assumption | wp_step))
    refine codeAny_mono (codeAny_call_builtin (R := wants (fun r s₂ => r = .none ∧ ∃ h' tk L, s₂ = { s with heap := h', toks := tk } ∧ TxS w h' s.heap.objs.size L ∧ TGot ks ks.length L ∧ ∀ b o, s.heap.get? b = some o → h'.get? b = some o) E)
      F.called_set.init.plain F.entry_set_init (check_set_init_1 hT ?ini)) fun r₂ s₂ hr₂ => ?aft
    case ini =>
      obtain ⟨ol, hol, hcl, nl, hdl⟩ := hl
      obtain ⟨ocls, odict, odata, oslots⟩ := ol
      simp only at hcl hdl
      subst hcl; subst hdl
      have lS : l < s.heap.objs.size := Heap.lt_size hol
      have hol1 : (s.heap.push (setNew w)).get? l = some { cls := .type "tuple", dict := odict, data := .seq items nl, slots := oslots } := Heap.get?_push_of_some _ hol
      have isl : (s.heap.push (setNew w)).IsTuple l items := ⟨_, hol1, rfl, nl, rfl⟩
      have z1 := F.sub_tuple_set
      have z2 := F.sub_tuple_frozenset
      have z3 : (Value.type "tuple" == Value.type "dict") = false := by decide
      unfold Builtin.«set.__init__» noKeywords Builtin.Frozenset.updateFrom
      generalize hPI : pyIter = PI
      wp_walk
      subst hPI
      refine wpAny_pyIter_tuple isl (wpAny_bind (wpAny_runValue ?_))
      have no3 : A.in1.in1.in1.handled = none := by simp [hh]
      have sz1 : (s.heap.push (setNew w)).objs.size = s.heap.objs.size + 1 := Heap.size_push ..
      have lI : l ≠ (s.heap.push (setNew w)).objs.size := by rw [sz1]; exact Nat.ne_of_lt (Nat.lt_succ_of_lt lS)
      have hSf : s.heap.objs.size ∉ [(s.heap.push (setNew w)).objs.size, l] := by
        rw [sz1]
        intro z
        rcases List.mem_cons.mp z with z | z
        · exact Nat.ne_of_lt (Nat.lt_succ_self _) z
        · exact Nat.ne_of_gt lS (List.mem_singleton.mp z)
      have fresh : ∀ b, s.heap.objs.size ≤ b → s.heap.get? b = none := fun b hb => Heap.get?_none_of_le hb
      refine text_loop ((Walks.tuple no3 _ l lI items).toS) s.heap.objs.size hSf ks hn few (fun i v hv => ?_) s.heap (fresh _ (Nat.le_refl _)) (fun b hb => fresh b (by
          rw [List.mem_singleton.mp hb, sz1]; exact Nat.le_succ _)) (by simp only [Around.in1_units]; omega) items.size 0 _ [] (Nat.zero_add _) ⟨⟨_, Heap.get?_push_size _ rfl, rfl, rfl⟩, isl.push _⟩
        (fun b o e => Heap.get?_push_of_some _ (Heap.get?_push_of_some _ e)) (ts_new (Heap.get?_push_of_some _ hS)) (TGot.zero ks) fun s' L mv K g kp => ?_
      · have e : items.toList[i]? = some v := by rw [Array.getElem?_toList]; exact hv
        rw [hit, List.getElem?_map] at e
        obtain ⟨q, h1, h2⟩ := Option.map_eq_some_iff.mp e
        exact ⟨q, h1, h2.symm⟩
      · obtain ⟨h', g2, d', tk', os'⟩ := s'
        obtain rfl : g2 = s.gens := mv.gens
        obtain rfl : d' = s.drawn := mv.drawn
        obtain rfl : os' = s.os := mv.os
        rw [hn] at g
        refine wpAny_pure ?_
        show wpAny _ _ (ret Value.none) _ _ _
        exact wpAny_pure ⟨rfl, h', tk', L, rfl, K, g, kp⟩
    case aft =>
      match r₂, hr₂ with
      | .error e, hr₂ => exact hr₂
      | .ok (.ret r), hr₂ =>
        obtain ⟨rfl, h', tk, L, rfl, K, g, kp⟩ := hr₂
        repeat (any_goals (first | assumption | wp_step))
        exact hQ h' _ L K g kp
end
end Mi
end

section
set_option linter.all false
set_option maxRecDepth 100000
set_option Elab.async false
/-! MiU2: sorted(set(xs)) in the short programs: tuples, and texts. -/
namespace Mi
open PySem L2
def TSO (w : World) (a : Addr) (L : TL) : HO := .ext fun h => TxS w h a L
theorem tso_new {P : Program} {w : World} {H : Hp} {h : Heap} {a : Addr} {L : TL} (K : TxS w h a L) : ObjOk P w H h a (TSO w a L) := by
  have ⟨o, es, ep, t, e, r⟩ := K
  exact ⟨K, ⟨o, e⟩, fun h1 h2 p st => p.mv fun o e => st o e⟩
theorem vals_texts : ∀ {xs : List Str} {us : List Value}, Vals (xs.map V.str) us → ∃ ks : TL, us = ks.map tvl ∧ ks.map (·.1) = xs
  | [], _, .nil => ⟨[], rfl, rfl⟩
  | x :: xs, _, .cons r t => by
    obtain ⟨ks, h1, h2⟩ := vals_texts t
    rename_i u us
    have r : RelV (.str x) u := r
    obtain ⟨tk, rfl⟩ : ∃ tk, u = Value.str x tk := by
      cases u <;> first | (cases r; exact ⟨_, rfl⟩) | (obtain ⟨tk, e⟩ := r; exact ⟨tk, e⟩) | exact absurd r (by intro z; cases z) | (exact r.elim)
    exact ⟨(x, tk) :: ks, by rw [h1]; rfl, by rw [List.map_cons, h2]⟩
theorem texts_vals : ∀ L : TL, Vals (L.map fun q => V.str q.1) (L.map tvl)
  | [] => .nil
  | q :: L => .cons ⟨_, rfl⟩ (texts_vals L)
/-- set(xs) of texts -/
def rSetT (K : PySem.W.Frag) (w : World) : List V → Hp → VK → Prop := fun vs H Q => ∃ (l : Addr) (xs : List Str), vs = [V.ref l] ∧ (SqL K H l (xs.map V.str) ∨ SqT K H l (xs.map V.str)) ∧ xs.length < 64 ∧
  ∀ (a : Addr) (L : TL), H a = none → (∀ x, x ∈ L.map (·.1) ↔ x ∈ xs) → (L.map (·.1)).Nodup → Q (.ref a) (upd H a (TSO w a L))
section
variable {X : Cx} {pins : List (Addr × Obj)} {σ : L2.St} {H : Hp} {s : Shared}
theorem ts_nodup {w : World} {h : Heap} {a : Addr} {L : TL} (K : TxS w h a L) : (L.map (·.1)).Nodup := by
  obtain ⟨o, es, ep, t, e, x, d, r, nd, _⟩ := K; exact nd
theorem call_setT (hc : X.calm = true) (hu : X.A.units + 16 < cLine) : CallR X (.type "set") (rSetT X.K X.w) := by
  intro pins s σ H vs us Q I r h
  obtain ⟨l, xs, rfl, hl, few, q⟩ := h
  rw [Vals.ref1 r]
  have fin : ∀ (ks : TL) (h' : Heap) (tk : Nat) (L : TL), ks.map (·.1) = xs → TxS X.w h' s.heap.objs.size L → TGot ks ks.length L → (∀ b o, s.heap.get? b = some o → h'.get? b = some o) → EP X pins σ Q (.ref s.heap.objs.size) { s with heap := h', toks := tk } := fun ks h' tk L e K g k =>
    ⟨.ref s.heap.objs.size, upd H s.heap.objs.size (TSO X.w s.heap.objs.size L), I.laid (t' := tk) k (Nat.le_refl _) (tso_new K), rfl, q _ L (I.hok.fresh (Nat.le_refl _)) (fun x => by
      rw [← e]
      refine ⟨fun h => ?_, fun h => ?_⟩
      · obtain ⟨z, hz, ez⟩ := List.mem_map.mp h
        exact List.mem_map.mpr ⟨z, List.mem_of_mem_take (g.sub z hz), ez⟩
      · obtain ⟨z, hz, ez⟩ := List.mem_map.mp h
        rw [← ez]
        exact g.all z (by rw [List.take_length]; exact hz)) (ts_nodup K)⟩
  rcases hl with hl | hl
  · obtain ⟨its, rv, pl, hz⟩ := I.list hl
    obtain ⟨ks, h1, h2⟩ := vals_texts rv
    have fw : ks.length < 64 := by rw [← List.length_map (f := (·.1)), h2]; exact few
    exact call_texts_list ks (I.ok.hd hc) pl.isList (by simpa using h1) fw hu fun h' tk L K g k => fin ks h' tk L h2 K g k
  · obtain ⟨its, rv, pl, hz⟩ := I.tuple hl
    obtain ⟨o, ho, hcl, n, hd⟩ := pl
    obtain ⟨ks, h1, h2⟩ := vals_texts rv
    have fw : ks.length < 64 := by rw [← List.length_map (f := (·.1)), h2]; exact few
    exact call_texts_tuple ks (I.ok.hd hc) ⟨o, ho, hcl, n, hd⟩ (by simpa using h1) fw hu fun h' tk L K g k => fin ks h' tk L h2 K g k
/-- sorted(that set) -/
def rSortT (w : World) : List V → Hp → VK → Prop := fun vs H Q => ∃ (a : Addr) (L : TL), vs = [V.ref a] ∧ H a = some (TSO w a L) ∧ 
  ∀ (L' : TL) (p : Addr), L'.Perm L → L'.Pairwise (fun q r => PySem.W.dataLe false (fun x : Str × Tok => PyData.str x.1) q r = true) → H p = none → Q (.ref p) (upd H p (.lst (L'.map fun q => V.str q.1)))
theorem call_sortT (hc : X.calm = true) (hu : X.A.units + 20 < cLine) : CallR X (.builtin "sorted") (rSortT X.w) := by
  intro pins s σ H vs us Q I r h
  obtain ⟨a, L, rfl, ha, q⟩ := h
  have K : TxS X.w s.heap a L := (I.hok a _ ha).1
  have few : L.length < 64 := by obtain ⟨o, es, ep, t, e, x, d, r, nd, f1, f2, f3, f4⟩ := K; exact f4
  rw [Vals.ref1 r]
  refine sorted_texts K (I.ok.hd hc) hu fun s' p c L' k g o hp hg pm pw => ?_
  have few' : L'.length < 64 := by rw [pm.length_eq]; exact few
  have hn : H p = none := I.hok.fresh hp
  have J : L2.Inv X pins σ (upd H p (.lst (L'.map fun q => V.str q.1))) { s with heap := s'.heap, gens := s'.gens, drawn := s'.drawn, toks := s'.toks } :=
    I.call (ch := []) (Un.laid k hp hn) (I.hok.laid k hp ⟨by rw [List.length_map, sizeLine_eq]; omega, L'.map tvl, c, texts_vals L', hg⟩) (by rw [g]; exact I.bare) (fun _ z => nomatch z)
  have e : s' = { s with heap := s'.heap, gens := s'.gens, drawn := s'.drawn, toks := s'.toks } := by
    obtain ⟨h', g', d', t', o'⟩ := s'
    obtain rfl : o' = s.os := o
    rfl
  rw [e]
  exact ⟨.ref p, _, J, rfl, q L' p pm pw hn⟩
theorem call_setU (hc : X.calm = true) (hu : X.A.units + 16 < cLine) : CallR X (.type "set") (fun vs H Q => rSetK X.K X.w vs H Q ∨ rSetT X.K X.w vs H Q) :=
  fun pins s σ H vs us Q I r h => h.elim (call_setK hc hu pins s σ H vs us Q I r) (call_setT hc hu pins s σ H vs us Q I r)
theorem call_sortU (hc : X.calm = true) (hu : X.A.units + 20 < cLine) : CallR X (.builtin "sorted") (fun vs H Q => rSortK X.K X.w vs H Q ∨ rSortT X.w vs H Q) :=
  fun pins s σ H vs us Q I r h => h.elim (call_sortK hc hu pins s σ H vs us Q I r) (call_sortT hc hu pins s σ H vs us Q I r)
end
theorem okTx_all {ks : List NestedKey} (h : okTx ks = true) : ks.length < 64 ∧ ∃ xs : List Str, ks = xs.map .text := by
  unfold okTx at h
  rw [Bool.and_eq_true, decide_eq_true_eq] at h
  refine ⟨h.1, ?_⟩
  have h2 := h.2
  clear h
  induction ks with
  | nil => exact ⟨[], rfl⟩
  | cons k ks ih =>
    rw [List.all_cons, Bool.and_eq_true] at h2
    obtain ⟨xs, e⟩ := ih h2.2
    cases k with
    | text x => exact ⟨x :: xs, by rw [e]; rfl⟩
    | _ => cases h2.1
theorem un_texts : ∀ xs : List Str, unKs (xs.map .text) = xs.map D.str
  | [] => rfl
  | x :: xs => by rw [List.map_cons, List.map_cons]; unfold unKs unK; rw [un_texts xs]
theorem reps_texts {Γ : Wd} {μ : List Addr} {F : Hp} : ∀ {xs : List Str} {vs : List V}, Reps Γ μ F vs (xs.map D.str) → vs = xs.map V.str
  | [], _, h => by cases h; rfl
  | x :: xs, _, h => by
    rw [List.map_cons] at h
    cases h with
    | cons h1 h2 =>
      cases h1
      rw [reps_texts h2]; rfl
theorem texts_reps {Γ : Wd} {μ : List Addr} {F : Hp} : ∀ xs : List Str, Reps Γ μ F (xs.map V.str) (xs.map D.str)
  | [] => .nil
  | x :: xs => .cons (.str x) (texts_reps xs)
theorem text_inj {a b : Str} (h : NestedKey.text a = NestedKey.text b) : a = b := by injection h
section
variable {B : At} {X : Cx} {a : Expr} {ma : Env → Sto → Mo D} {pos p p2 pos2 : Pos}
theorem s_sset (hK : X.K = B.Γ.K) (hc : X.calm = true) (hu : X.A.units + 65 < cLine) (hg : Gl X "sorted") (hm : X.mg "sorted" = none) (hg2 : Gl X "set") (hm2 : X.mg "set" = none) (ha : PE X a (tW B ma)) (st : starEach [a] X.env = [(false, eval a X.env)])
    (st2 : starEach [.Call (.Name "set" p2) [a] [] pos2] X.env = [(false, eval (.Call (.Name "set" p2) [a] [] pos2) X.env)]) :
    PE X (.Call (.Name "sorted" p) [.Call (.Name "set" p2) [a] [] pos2] [] pos) (tN B fun ρ S => rb (ma ρ S) fun x S => lift (ssetD x) S) := by
  refine (pe_callB (call_sortU hc (by omega)) hg hm (by decide +kernel) (pa_cons (pe_callTy (call_setU hc (by omega)) hg2 hm2 (by decide +kernel) (pa_cons ha pa_nil st) (he := st)) pa_nil st2) (he := st2)).imp fun σ H Q ⟨μ, S, F, ρ, r, g⟩ => one r g fun x S1 μ1 F1 H1 v r1 k1 rv g1 => ?_
  obtain ⟨z, hz, g4⟩ := g1.lift
  clear g g1
  have le := k1.toSok.le
  unfold ssetD at hz
  cases q0 : seqL x with
  | none => rw [q0] at hz; cases hz
  | some ds =>
    rw [q0] at hz
    have hz : (match kyDs ds with
      | some ks => if (okSet ks || okTx ks) = true then some (D.lst (unKs (ssetL ks))) else none
      | none => none) = some z := hz
    cases q : kyDs ds with
    | none => rw [q] at hz; cases hz
    | some ks =>
      rw [q] at hz
      have hz : (if (okSet ks || okTx ks) = true then some (D.lst (unKs (ssetL ks))) else none) = some z := hz
      split at hz
      · rename_i hoU
        cases hz
        rw [Bool.or_eq_true] at hoU
        by_cases ho : okSet ks = true
        case neg =>
          have hx := hoU.resolve_left ho
          obtain ⟨few, zs, rfl⟩ := okTx_all hx
          have eds := kys_un ds _ q
          rw [un_texts] at eds
          subst eds
          obtain ⟨l, xs, rfl, hl, hreps⟩ := rv.seq le (show x = .lst (zs.map D.str) ∨ x = .tup (zs.map D.str) by
            unfold seqL at q0
            split at q0
            · cases q0; exact .inl rfl
            · cases q0; exact .inr rfl
            · cases q0)
          obtain rfl := reps_texts hreps
          rw [List.length_map] at few
          rw [hK]
          refine .inr ⟨l, zs, rfl, hl, few, fun sa L1 hsa same nd => ?_⟩
          obtain ⟨f1, f2, f3⟩ := k1.toSok.enter.fresh hsa
          have k2 : Kp B.Γ ⟨μ1, F1, H1⟩ μ1 S1 F1 (upd H1 sa (TSO X.w sa L1)) := k1.toSok.enter.mine f1 f2 f3
          refine .inr ⟨sa, L1, rfl, upd_same, fun L' p pm pw hp => ?_⟩
          have e : (L'.map (·.1)).map NestedKey.text = ssetL (zs.map NestedKey.text) := by
            refine sset_one (fun p hp q hq => ?_) ?_ (fun k => ?_) ?_
            · obtain ⟨a, _, rfl⟩ := List.mem_map.mp hp
              obtain ⟨b, _, rfl⟩ := List.mem_map.mp hq
              unfold NestedKey.data PySem.W.alike; rfl
            · have nd2 : (L'.map (·.1)).Nodup := (pm.map (·.1)).nodup_iff.mpr nd
              exact List.Pairwise.map NestedKey.text (fun a b h z => h (text_inj z)) nd2
            · refine ⟨fun h => ?_, fun h => ?_⟩
              · obtain ⟨y, hy, rfl⟩ := List.mem_map.mp h
                exact List.mem_map.mpr ⟨y, (same y).mp ((pm.map (·.1)).mem_iff.mp hy), rfl⟩
              · obtain ⟨y, hy, rfl⟩ := List.mem_map.mp h
                exact List.mem_map.mpr ⟨y, (pm.map (·.1)).mem_iff.mpr ((same y).mpr hy), rfl⟩
            · rw [List.pairwise_map, List.pairwise_map]
              exact pw
          have rr : Reps B.Γ μ1 F1 (L'.map fun q => V.str q.1) (unKs (ssetL (zs.map NestedKey.text))) := by
            rw [← e, un_texts]
            have := texts_reps (Γ := B.Γ) (μ := μ1) (F := F1) (L'.map (·.1))
            rw [List.map_map] at this
            exact this
          exact doneN (Go.kp k2 g4) (k1.trans k2) rr p hp
        obtain ⟨few, hkt, hal⟩ := okSet_all ho
        obtain ⟨l, xs, rfl, hl, hreps⟩ := rv.seq le (show x = .lst ds ∨ x = .tup ds by
          unfold seqL at q0
          split at q0
          · cases q0; exact .inl rfl
          · cases q0; exact .inr rfl
          · cases q0)
        obtain ⟨L, rfl, rfl, hL⟩ := rows_of hreps q fun k hk => (hkt k hk).1
        have kv : ∀ q ∈ L, ∀ H', (∀ a o, F1 a = some o → H' a = some o) → KV B.Γ.K H' q ∧ q.2.depth ≤ 7 := fun q hq H' le' =>
          ⟨dp_of le' _ _ _ (hL q hq).1 (ky_data _ _ (hL q hq).2), (hkt q.2 (List.mem_map.mpr ⟨q, hq, rfl⟩)).2⟩
        rw [List.length_map] at few
        rw [hK]
        refine .inl ⟨l, L, rfl, hl, fun q hq => kv q hq H1 le, few, fun sa L1 hsa got nd => ?_⟩
        obtain ⟨f1, f2, f3⟩ := k1.toSok.enter.fresh hsa
        have k2 : Kp B.Γ ⟨μ1, F1, H1⟩ μ1 S1 F1 (upd H1 sa (KSO X.w sa L1)) := k1.toSok.enter.mine f1 f2 f3
        have sub : ∀ q ∈ L1, q ∈ L := fun q hq => List.mem_of_mem_take (got.sub q hq)
        have allk : ∀ k, k ∈ L1.map (·.2) ↔ k ∈ L.map (·.2) := fun k => by
          refine ⟨fun h => ?_, fun h => ?_⟩
          · obtain ⟨q, hq, e⟩ := List.mem_map.mp h
            exact List.mem_map.mpr ⟨q, sub q hq, e⟩
          · obtain ⟨q, hq, e⟩ := List.mem_map.mp h
            rw [← e]
            exact got.all q (by rw [List.take_length]; exact hq)
        have al : PySem.W.AllAlike (L1.map fun q => q.2.data) := fun d hd d' hd' => by
          obtain ⟨q, hq, rfl⟩ := List.mem_map.mp hd
          obtain ⟨q', hq', rfl⟩ := List.mem_map.mp hd'
          exact hal _ (List.mem_map.mpr ⟨q, sub q hq, rfl⟩) _ (List.mem_map.mpr ⟨q', sub q' hq', rfl⟩)
        refine .inl ⟨sa, L1, rfl, upd_same, fun q hq => kv q (sub q hq) _ k2.toSok.le, al, .inl fun d hd => ?_, Nat.lt_of_le_of_lt got.len few, fun L' p pm pw hp => ?_⟩
        · obtain ⟨q, hq, rfl⟩ := List.mem_map.mp hd
          obtain ⟨⟨x, r, e⟩, _⟩ := hkt q.2 (List.mem_map.mpr ⟨q, sub q hq, rfl⟩)
          rw [e]
          exact ⟨x.data, NestedKey.datas r, rfl⟩
        · have e : L'.map (·.2) = ssetL (L.map (·.2)) := sset_one hal ((pm.map (·.2)).nodup_iff.mpr nd) (fun k => ((pm.map (·.2)).mem_iff).trans (allk k)) (List.pairwise_map.mpr pw)
          have reps : ∀ l : KL, (∀ q ∈ l, q ∈ L) → Reps B.Γ μ1 F1 (l.map fun q => V.ref q.1) (unKs (l.map (·.2))) := fun l => by
            induction l with
            | nil => exact fun _ => .nil
            | cons q l ih =>
              intro h
              rw [List.map_cons, List.map_cons]
              unfold unKs
              exact .cons (hL q (h q List.mem_cons_self)).1 (ih fun r hr => h r (List.mem_cons_of_mem _ hr))
          have rr := reps L' fun q hq => sub q (pm.mem_iff.mp hq)
          rw [e] at rr
          exact doneN (Go.kp k2 g4) (k1.trans k2) rr p hp
      · cases hz
end
end Mi
end

section
set_option linter.all false
set_option maxRecDepth 100000
set_option Elab.async false
/-! Mi6: what is walked; comprehensions. -/
namespace L2
open PySem
theorem PI.or {X : Cx} {tg it : Expr} {t t' : TI} (h : PI X tg it t) (h' : PI X tg it t') : PI X tg it (fun σ H R => t σ H R ∨ t' σ H R) :=
  ⟨fun pins s σ H R I q => q.elim (h.run pins s σ H R I) (h'.run pins s σ H R I)⟩
end L2
namespace Mi
open PySem L2

/-- a source of data: what it yields, as long as ok stands -/
structure Src (Γ : Wd) (J : It) (ds : List D) (ok : List Addr → Hp → Hp → Prop) : Prop where
  go : ∀ i μ F H, ok μ F H → i < ds.length → J.go i H
  stop : ∀ μ F H, ok μ F H → J.stop ds.length H
  yld : ∀ i x μ S F H H', ok μ F H → Sok Γ μ S F H → J.yld i H x H' → i < ds.length → ∃ F' d, Kp Γ ⟨μ, F, H⟩ μ S F' H' ∧ ds[i]? = some d ∧ Rep Γ μ F' x d
/-- it stays over pieces that leave what is ours alone | that leave what is frozen alone -/
def StayK (Γ : Wd) (ok : List Addr → Hp → Hp → Prop) : Prop := ∀ μ F H μ' S' F' H', ok μ F H → Kp Γ ⟨μ, F, H⟩ μ' S' F' H' → ok μ' F' H'
def StayG (Γ : Wd) (ok : List Addr → Hp → Hp → Prop) : Prop := ∀ μ F H μ' S' F' H', ok μ F H → Gr μ F μ' F' → Sok Γ μ' S' F' H' → ok μ' F' H'
theorem StayG.k {Γ : Wd} {ok : List Addr → Hp → Hp → Prop} (h : StayG Γ ok) : StayK Γ ok := fun μ F H μ' S' F' H' o k => h μ F H μ' S' F' H' o k.gr k.toSok

theorem Live.kp {Γ : Wd} {μ μ' : List Addr} {S' : Sto} {F F' H H' : Hp} {a : Addr} {xs : List V} (h : Live Γ μ F H a xs) (k : Kp Γ ⟨μ, F, H⟩ μ' S' F' H') : Live Γ μ' F' H' a xs := by
  rcases h with h | ⟨h1, h2⟩
  · exact .inl (k.gr.sl h)
  · refine .inr ⟨k.base a _ h1 h2, fun hm => ?_⟩
    rcases k.mz a hm with z | z
    · exact h2 z
    · have z : H a = none := z
      rw [h1] at z; cases z
theorem src_list {Γ : Wd} {a : Addr} {xs : List V} {ds : List D} : Src Γ (Itl Γ.K a) ds fun μ F H => (∀ a o, F a = some o → H a = some o) ∧ Live Γ μ F H a xs ∧ Reps Γ μ F xs ds where
  go := fun i μ F H ⟨le, h1, h2⟩ hi => by
    obtain ⟨v, h3, _⟩ := h2.get (List.getElem?_eq_getElem hi)
    exact ⟨xs, v, h1.sq le, h3⟩
  stop := fun μ F H ⟨le, h1, h2⟩ => ⟨xs, h1.sq le, by rw [h2.length]; exact Nat.le_refl _⟩
  yld := fun i x μ S F H H' ⟨le, h1, h2⟩ k ⟨e, y⟩ hi => by
    subst e
    obtain ⟨d, h3, h4⟩ := h2.getV (y xs (h1.sq le))
    exact ⟨F, d, k.enter, h3, h4⟩
theorem stay_list {Γ : Wd} {a : Addr} {xs : List V} {ds : List D} : StayK Γ fun μ F H => (∀ a o, F a = some o → H a = some o) ∧ Live Γ μ F H a xs ∧ Reps Γ μ F xs ds :=
  fun μ F H μ' S' F' H' ⟨le, h1, h2⟩ k => ⟨k.toSok.le, h1.kp k, h2.gr k.gr⟩
theorem src_flist {Γ : Wd} {a : Addr} {xs : List V} {ds : List D} : Src Γ (Itl Γ.K a) ds fun μ F H => (∀ a o, F a = some o → H a = some o) ∧ SqL Γ.K F a xs ∧ Reps Γ μ F xs ds where
  go := fun i μ F H ⟨le, h1, h2⟩ hi => by
    obtain ⟨v, h3, _⟩ := h2.get (List.getElem?_eq_getElem hi)
    exact ⟨xs, v, sq_le le h1, h3⟩
  stop := fun μ F H ⟨le, h1, h2⟩ => ⟨xs, sq_le le h1, by rw [h2.length]; exact Nat.le_refl _⟩
  yld := fun i x μ S F H H' ⟨le, h1, h2⟩ k ⟨e, y⟩ hi => by
    subst e
    obtain ⟨d, h3, h4⟩ := h2.getV (y xs (sq_le le h1))
    exact ⟨F, d, k.enter, h3, h4⟩
theorem stay_flist {Γ : Wd} {a : Addr} {xs : List V} {ds : List D} : StayG Γ fun μ F H => (∀ a o, F a = some o → H a = some o) ∧ SqL Γ.K F a xs ∧ Reps Γ μ F xs ds :=
  fun μ F H μ' S' F' H' ⟨le, h1, h2⟩ g k => ⟨k.le, g.sl h1, h2.gr g⟩
theorem src_tup {Γ : Wd} {a : Addr} {xs : List V} {ds : List D} : Src Γ (Itt Γ.K a) ds fun μ F H => (∀ a o, F a = some o → H a = some o) ∧ SqT Γ.K F a xs ∧ Reps Γ μ F xs ds where
  go := fun i μ F H ⟨le, h1, h2⟩ hi => by
    obtain ⟨v, h3, _⟩ := h2.get (List.getElem?_eq_getElem hi)
    exact ⟨xs, v, st_le le h1, h3⟩
  stop := fun μ F H ⟨le, h1, h2⟩ => ⟨xs, st_le le h1, by rw [h2.length]; exact Nat.le_refl _⟩
  yld := fun i x μ S F H H' ⟨le, h1, h2⟩ k ⟨e, y⟩ hi => by
    subst e
    obtain ⟨d, h3, h4⟩ := h2.getV (y xs (st_le le h1))
    exact ⟨F, d, k.enter, h3, h4⟩
theorem stay_tup {Γ : Wd} {a : Addr} {xs : List V} {ds : List D} : StayG Γ fun μ F H => (∀ a o, F a = some o → H a = some o) ∧ SqT Γ.K F a xs ∧ Reps Γ μ F xs ds :=
  fun μ F H μ' S' F' H' ⟨le, h1, h2⟩ g k => ⟨k.le, g.st h1, h2.gr g⟩
theorem src_rng {Γ : Wd} {lo : Int} {n : Nat} : Src Γ (Itr lo n) ((List.range n).map fun (k : Nat) => D.int (lo + (k : Int))) fun _ _ _ => True where
  go := fun i μ F H _ hi => by
    show i < n
    simpa using hi
  stop := fun μ F H _ => by show n ≤ _; simp
  yld := fun i x μ S F H H' _ k ⟨e, y⟩ hi => by
    subst e y
    have hi : i < n := by simpa using hi
    exact ⟨F, .int (lo + i), k.enter, by simp [hi], .int _⟩
theorem src_str {Γ : Wd} {x : Str} : Src Γ (Its x) (signs x) fun _ _ _ => True where
  go := fun i μ F H _ hi => by
    show i < x.cps.size
    simpa [signs] using hi
  stop := fun μ F H _ => by show x.cps.size ≤ _; simp [signs]
  yld := fun i v μ S F H H' _ k ⟨e, c, y, z⟩ hi => by
    subst e z
    refine ⟨F, .str ⟨#[c]⟩, k.enter, ?_, .str _⟩
    unfold signs
    rw [List.getElem?_map]
    have : x.cps.toList[i]? = some c := by rw [Array.getElem?_toList]; exact y
    rw [this]; rfl
theorem stay_true {Γ : Wd} : StayG Γ fun _ _ _ => True := fun _ _ _ _ _ _ _ _ _ _ => trivial
theorem enumD_get {ds : List D} {i : Nat} {d : D} (h : ds[i]? = some d) : (enumD ds)[i]? = some (.tup [.int (i : Int), d]) := by
  unfold enumD
  rw [List.getElem?_map, List.getElem?_zipIdx, h]
  simp
theorem enumD_len (ds : List D) : (enumD ds).length = ds.length := by simp [enumD]
theorem src_enum {Γ : Wd} {a : Addr} {xs : List V} {ds : List D} : Src Γ (Ite Γ.K a) (enumD ds) fun μ F H => (∀ a o, F a = some o → H a = some o) ∧ SqL Γ.K F a xs ∧ Reps Γ μ F xs ds where
  go := fun i μ F H ⟨le, h1, h2⟩ hi => by
    rw [enumD_len] at hi
    obtain ⟨v, h3, _⟩ := h2.get (List.getElem?_eq_getElem hi)
    exact ⟨xs, v, sq_le le h1, h3⟩
  stop := fun μ F H ⟨le, h1, h2⟩ => ⟨xs, sq_le le h1, by rw [h2.length, enumD_len]; exact Nat.le_refl _⟩
  yld := fun i x μ S F H H' ⟨le, h1, h2⟩ k ⟨T, y, ev, hT, e, hy⟩ hi => by
    subst ev e
    obtain ⟨d, h3, h4⟩ := h2.getV (hy xs (sq_le le h1))
    have kn := k.enter.new (o := .tup [.int (i : Nat), y]) hT
    exact ⟨_, _, kn, enumD_get h3, .tup (SqT.of upd_same) (.cons (.int _) (.cons (h4.gr kn.gr) .nil))⟩

section
variable (B : At)
/-- the wish behind an iterator's making: weak (for comprehensions), strong (for loops) -/
def tI (m : Env → Sto → Mo (List D)) : TI := fun σ H R => ∃ μ S F ρ, Rel B.Γ B.E μ S F H ρ σ ∧ Go B σ μ F H (m ρ S) fun ds _ μ' F' H' => ∀ J ok, Src B.Γ J ds ok → StayK B.Γ ok → ok μ' F' H' → R J H'
def tIs (m : Env → Sto → Mo (List D)) : TI := fun σ H R => ∃ μ S F ρ, Rel B.Γ B.E μ S F H ρ σ ∧ Go B σ μ F H (m ρ S) fun ds _ μ' F' H' => ∀ J ok, Src B.Γ J ds ok → StayG B.Γ ok → ok μ' F' H' → R J H'
end
section
variable {B : At} {X : Cx} {e a b c tg : Expr} {ma mb mc : Env → Sto → Mo D} {pos : Pos}
theorem i_ex (hK : X.K = B.Γ.K) (ha : PE X a (tW B ma)) : PI X tg a (tI B fun ρ S => rb (ma ρ S) fun x S => lift (iterD x) S) := by
  refine (((pi_list ha).or (pi_tup ha)).or (pi_str ha)).imp fun σ H R ⟨μ, S, F, ρ, r, g⟩ => ?_
  have hb := g.bind
  match q : ma ρ S, hb with
  | some (.ex x S'), hb => exact .inl (.inl ⟨μ, S, F, ρ, r, by rw [q]; exact hb⟩)
  | some (.ok d S'), hb =>
    cases d with
    | lst ds =>
      refine .inl (.inl ⟨μ, S, F, ρ, r, ?_⟩)
      rw [q]
      intro μ1 F1 H1 k1 v rv
      obtain ⟨p, xs, rfl, h1, h2⟩ := rv.lst
      rw [hK]
      exact ⟨p, rfl, ⟨xs, h1.sq k1.toSok.le⟩, Go.here (P := fun ds _ μ' F' H' => ∀ J ok, Src B.Γ J ds ok → StayK B.Γ ok → ok μ' F' H' → R J H') (hb μ1 F1 H1 k1) k1.toSok _ _ src_list stay_list ⟨k1.toSok.le, h1, h2⟩⟩
    | tup ds =>
      refine .inl (.inr ⟨μ, S, F, ρ, r, ?_⟩)
      rw [q]
      intro μ1 F1 H1 k1 v rv
      obtain ⟨p, xs, rfl, h1, h2⟩ := rv.tup
      rw [hK]
      exact ⟨p, rfl, ⟨xs, st_le k1.toSok.le h1⟩, Go.here (P := fun ds _ μ' F' H' => ∀ J ok, Src B.Γ J ds ok → StayK B.Γ ok → ok μ' F' H' → R J H') (hb μ1 F1 H1 k1) k1.toSok _ _ src_tup stay_tup.k ⟨k1.toSok.le, h1, h2⟩⟩
    | str x =>
      refine .inr ⟨μ, S, F, ρ, r, ?_⟩
      rw [q]
      intro μ1 F1 H1 k1 v rv
      cases rv.str
      exact ⟨x, rfl, Go.here (P := fun ds _ μ' F' H' => ∀ J ok, Src B.Γ J ds ok → StayK B.Γ ok → ok μ' F' H' → R J H') (hb μ1 F1 H1 k1) k1.toSok _ _ src_str stay_true.k trivial⟩
    | _ =>
      refine .inl (.inl ⟨μ, S, F, ρ, r, ?_⟩)
      rw [q]
      intro μ1 F1 H1 k1 v rv
      exact (hb μ1 F1 H1 k1).elim
theorem i_exs (hK : X.K = B.Γ.K) (ha : PE X a (tE B ma)) : PI X tg a (tIs B fun ρ S => rb (ma ρ S) fun x S => lift (iterD x) S) := by
  refine (((pi_list ha).or (pi_tup ha)).or (pi_str ha)).imp fun σ H R ⟨μ, S, F, ρ, r, g⟩ => ?_
  have hb := g.bind
  match q : ma ρ S, hb with
  | some (.ex x S'), hb => exact .inl (.inl ⟨μ, S, F, ρ, r, by rw [q]; exact hb⟩)
  | some (.ok d S'), hb =>
    cases d with
    | lst ds =>
      refine .inl (.inl ⟨μ, S, F, ρ, r, ?_⟩)
      rw [q]
      intro μ1 F1 H1 k1 v rv
      cases rv with
      | lst h1 h2 =>
        rw [hK]
        exact ⟨_, rfl, ⟨_, sq_le k1.toSok.le h1⟩, Go.here (P := fun ds _ μ' F' H' => ∀ J ok, Src B.Γ J ds ok → StayG B.Γ ok → ok μ' F' H' → R J H') (hb μ1 F1 H1 k1) k1.toSok _ _ src_flist stay_flist ⟨k1.toSok.le, h1, h2⟩⟩
    | tup ds =>
      refine .inl (.inr ⟨μ, S, F, ρ, r, ?_⟩)
      rw [q]
      intro μ1 F1 H1 k1 v rv
      cases rv with
      | tup h1 h2 =>
        rw [hK]
        exact ⟨_, rfl, ⟨_, st_le k1.toSok.le h1⟩, Go.here (P := fun ds _ μ' F' H' => ∀ J ok, Src B.Γ J ds ok → StayG B.Γ ok → ok μ' F' H' → R J H') (hb μ1 F1 H1 k1) k1.toSok _ _ src_tup stay_tup ⟨k1.toSok.le, h1, h2⟩⟩
    | str x =>
      refine .inr ⟨μ, S, F, ρ, r, ?_⟩
      rw [q]
      intro μ1 F1 H1 k1 v rv
      cases rv
      exact ⟨x, rfl, Go.here (P := fun ds _ μ' F' H' => ∀ J ok, Src B.Γ J ds ok → StayG B.Γ ok → ok μ' F' H' → R J H') (hb μ1 F1 H1 k1) k1.toSok _ _ src_str stay_true trivial⟩
    | _ =>
      refine .inl (.inl ⟨μ, S, F, ρ, r, ?_⟩)
      rw [q]
      intro μ1 F1 H1 k1 v rv
      exact (hb μ1 F1 H1 k1).elim
theorem rngD_some {lo hi : Int} {ds : List D} (h : rngD lo hi = some ds) : (-(2 ^ 62) ≤ lo ∧ lo < 2 ^ 62 ∧ -(2 ^ 62) ≤ hi ∧ hi < 2 ^ 62) ∧ ds = (List.range (hi - lo).toNat).map fun (k : Nat) => D.int (lo + (k : Int)) := by
  unfold rngD at h
  split at h
  · cases h; exact ⟨‹_›, rfl⟩
  · cases h
theorem i_rng {p : Pos} (hg : Gl X "range") (hm : X.mg "range" = none) (ha : PE X a (tW B ma)) (st : starEach [a] X.env = [(false, eval a X.env)]) :
    PI X tg (.Call (.Name "range" p) [a] [] pos) (tIs B fun ρ S => rb (ma ρ S) fun x S => lift (rng1D x) S) := by
  refine (pi_range1 hg hm (pa_cons ha pa_nil st) st).imp fun σ H R ⟨μ, S, F, ρ, r, g⟩ => one r g fun x S1 μ1 F1 H1 v r1 k1 rv g1 => ?_
  obtain ⟨z, hz, g4⟩ := g1.lift
  clear g g1
  match x, hz with
  | .int j, hz =>
    obtain ⟨hc, rfl⟩ := rngD_some hz
    cases rv.int
    refine ⟨j, rfl, hc.2.2.1, hc.2.2.2, g4.here k1.toSok _ _ ?_ stay_true trivial⟩
    have e : (j - 0).toNat = j.toNat := by omega
    rw [e]
    exact src_rng
theorem i_rng2 {p : Pos} (hg : Gl X "range") (hm : X.mg "range" = none) (ha : PE X a (tW B ma)) (hb : PE X b (tW B mb)) (st : starEach [a, b] X.env = [(false, eval a X.env), (false, eval b X.env)]) (st2 : starEach [b] X.env = [(false, eval b X.env)]) :
    PI X tg (.Call (.Name "range" p) [a, b] [] pos) (tIs B fun ρ S => rb (ma ρ S) fun x S => rb (mb ρ S) fun y S => lift (rng2D x y) S) := by
  refine (pi_range2 hg hm (pa_cons ha (pa_cons hb pa_nil st2) (by rw [st, st2])) st st2).imp fun σ H R ⟨μ, S, F, ρ, r, g⟩ => two r g fun x y S1 μ1 F1 H1 v w r1 k1 rv rw' g1 => ?_
  obtain ⟨z, hz, g4⟩ := g1.lift
  clear g g1
  match x, y, hz with
  | .int i, .int j, hz =>
    obtain ⟨hc, rfl⟩ := rngD_some hz
    cases rv.int
    cases rw'.int
    exact ⟨i, j, rfl, hc, g4.here k1.toSok _ _ src_rng stay_true trivial⟩
theorem PI.weakS {it : Expr} {m : Env → Sto → Mo (List D)} (h : PI X tg it (tIs B m)) : PI X tg it (tI B m) := h.imp fun σ H R ⟨μ, S, F, ρ, r, g⟩ => ⟨μ, S, F, ρ, r, g.mono fun ds S' μ' F' H' _ k J ok s1 s2 s3 => k J ok s1 s2.k s3⟩
end
end Mi
end

section
set_option linter.all false
set_option maxRecDepth 100000
set_option Elab.async false
/-! MiE: enumerate over a tuple, or a frozen list. -/
namespace PySem
open Sem (wp)
set_option maxHeartbeats 1000000 in
theorem mi_enum_meets {v : Value} {o : Obj} {H : Heap → Prop} (B : Begins v o H) : Meets (Builtin.«enumerate.__new__» ⟨[.type "enumerate", v], []⟩) (fun _ R s => H s.heap ∧ R (.ok (.ret (.ref (s.heap.push o).objs.size))) { s with heap := (s.heap.push o).push { cls := .type "enumerate", data := .fields #[.none, .bool false, .ref s.heap.objs.size, rawInt 0, .none, .none] } }) :=
  .of_wp fun prog w A R s h => by
    obtain ⟨hp, g, d, tk, os⟩ := s; obtain ⟨hB, h⟩ := h; have hsub := sub_enumerate
    have its : ∀ {A' : Around} {E : Value → Shared → Prop} {Q : Value → Shared → Prop}, Q (.ref hp.objs.size) ⟨hp.push o, g, d, tk, os⟩ → wpAny (model prog w) A' (pyIter v) Q E ⟨hp, g, d, tk, os⟩ := fun q => B.iter prog w _ _ ⟨hp, g, d, tk, os⟩ _ hB q
    wp_walk using its
    refine wpAny_stack_any fun st => wpAny_pure ?_; split
    · rename_i c _ _ _ _ _
      cases (c == Value.type "enumerate") <;> (wp_walk using its; exact ⟨_, rfl, h⟩)
    · wp_walk using its; exact ⟨_, rfl, h⟩
theorem mi_enum_call {prog : Program} {w : World} {A : Around} {E : Value → Shared → Prop} {s : Shared} {v : Value} {o : Obj} {H : Heap → Prop} {Q : Value → Shared → Prop} (B : Begins v o H) (hB : H s.heap)
    (h : ∀ h', IsEnum h' (s.heap.objs.size + 1) s.heap.objs.size 0 .none → h'.get? s.heap.objs.size = some o → (∀ b o, s.heap.get? b = some o → h'.get? b = some o) → Q (.ref (s.heap.objs.size + 1)) { s with heap := h' }) :
    wpAny (model prog w) A (call (.type "enumerate") [v]) Q E s := by
  refine callType_new F.called_enumerate (by decide) (F.typeCall_enumerate_1 _) (F.newCall_enumerate_1 _) (fun obj => F.args_object_init_2 obj _) F.entry_enumerate_new (mi_enum_meets B) ⟨hB, ?_⟩
  have hz : (s.heap.push o).objs.size = s.heap.objs.size + 1 := Heap.size_push ..
  show _ ∧ _
  rw [hz]
  have he : IsEnum ((s.heap.push o).push { cls := .type "enumerate", data := .fields #[.none, .bool false, .ref s.heap.objs.size, rawInt 0, .none, .none] }) (s.heap.objs.size + 1) s.heap.objs.size 0 .none := by
    have q := Heap.get?_push_size (s.heap.push o) (o := { cls := .type "enumerate", data := .fields #[.none, .bool false, .ref s.heap.objs.size, rawInt 0, .none, .none] }) rfl
    rw [hz] at q; exact q
  exact ⟨⟨_, he, rfl⟩, h _ he (Heap.get?_push_of_some _ (Heap.get?_push_size _ B.free)) fun b o x => Heap.get?_push_of_some _ (Heap.get?_push_of_some _ x)⟩
end PySem
namespace Mi
open PySem L2 PyProof.Rows

/-- the tuple at a, each item in a new pair with its number -/
def IteT (K : PySem.W.Frag) (a : Addr) : It :=
  ⟨fun i H => ∃ (xs : List V) (x : V), SqT K H a xs ∧ xs[i]? = some x, fun i H v H' => ∃ T x, v = .ref T ∧ H T = none ∧ H' = upd H T (.tup [.int (i : Nat), x]) ∧ ∀ xs, SqT K H a xs → xs[i]? = some x, fun i H => ∃ xs : List V, SqT K H a xs ∧ xs.length = i⟩
theorem turn_enumT {P : Program} {w : World} {K : PySem.W.Frag} {elts : List Expr} {kk : Nat} {tpos : Pos} (a e it : Addr) :
    Turn P w K (.Tuple elts kk tpos) (IteT K a) [e, it] e (fun i h => (∃ old, IsEnum h e it ((i : Nat) : Int) old) ∧ h.IsTupleIter it a i ∧ e ≠ it ∧ a ≠ it ∧ a ≠ e) where
  mem := by simp
  obj := fun i h st b hb => by
    obtain ⟨⟨old, he⟩, ⟨o, ho, hc, hd⟩, _⟩ := st
    rcases (show b = e ∨ b = it by simpa using hb) with z | z
    · rw [z]; exact ⟨_, he, fun v q => nomatch q⟩
    · rw [z]; exact ⟨o, ho, fun v q => by rw [hd] at q; cases q⟩
  keep := fun i h h' st k => let ⟨⟨old, he⟩, hi, hne⟩ := st; ⟨⟨old, k e (by simp) _ he⟩, hi.at fun o q => k it (by simp) o q, hne⟩
  item := by
    intro X hP hw hK hc i pins s σ H E I hf st0 hg0; obtain ⟨⟨old, he⟩, hit, hne, hai, hae⟩ := st0; obtain ⟨xs, x, hq, hx⟩ := hg0
    subst hP hw hK
    obtain ⟨its, rv, p, hz⟩ := I.tuple hq
    obtain ⟨u, hu, ru⟩ := rv.get hx
    have hel : e < s.heap.objs.size := Heap.lt_size he
    have hil : it < s.heap.objs.size := by obtain ⟨_, q, _⟩ := hit; exact Heap.lt_size q
    have hlt : i < its.toArray.size := by
      rw [List.size_toArray]; exact (List.getElem?_eq_some_iff.mp hu).1
    refine wpAny_pyNext_enum_itemD (Draws.tuple (A := X.A.in1) (show X.A.handled = none from I.ok.hd hc) it a hai its.toArray) he ⟨hit, p⟩ hlt hne (by simp [hne, Ne.symm hae]) fun y h' tk hy ho st' hT hsz hk => ?_
    obtain rfl : y = u := by
      have hy : its.toArray[i]? = some y := hy
      rw [List.getElem?_toArray, hu] at hy
      exact (Option.some.inj hy).symm
    refine ⟨_, rfl, wpAny_letOwnedTupleGo_enum (s := { s with heap := h', toks := tk + 1 }) ho fun h'' he' sb => ?_⟩
    have hT2 : h''.get? s.heap.objs.size = some { cls := .type "tuple", data := .seq #[.int i tk, y] } := (sb.2 _ (Nat.ne_of_gt hel)).trans hT
    have new : ObjOk X.prog X.w (upd H s.heap.objs.size (.tup [.int (i : Nat), x])) h'' s.heap.objs.size (.tup [.int (i : Nat), x]) := ⟨by show 2 ≤ sizeLine; decide, [.int i tk, y], .cons ⟨_, rfl⟩ (.cons ru .nil), ⟨_, hT2, rfl, _, rfl⟩⟩
    have J : Inv X pins σ (upd H s.heap.objs.size (.tup [.int (i : Nat), x])) { s with heap := h'', toks := tk + 1 } :=
      I.turnedNew (ch := [e, it]) (fun b ob hb q => (sb.2 b (fun z => hb (by simp [z]))).trans (hk b ob (fun z => hb (by simp [z])) (fun z => hb (by simp [z])) q)) hf (Nat.le_refl _) new
    refine ⟨.ref s.heap.objs.size, _, J, rfl, ⟨_, x, rfl, I.hok.fresh (Nat.le_refl _), rfl, fun ys hy => by rw [I.tuple_inj hy hq]; exact hx⟩, ⟨⟨y, ?_⟩, st'.1.at fun o q => (sb.2 it (Ne.symm hne)).trans q, hne, hai, hae⟩, fun b hb => ?_⟩
    · rw [show ((i + 1 : Nat) : Int) = (i : Int) + 1 by omega]; exact he'
    · have hb' : b < s.heap.objs.size := by
        rcases (show b = e ∨ b = it by simpa using hb) with z | z
        · exact z ▸ hel
        · exact z ▸ hil
      rw [upd_ne (Nat.ne_of_lt hb')]; exact (hf b hb).1
  done := by
    intro X hP hw hK hc i pins s σ H E I hf st0 hg0; obtain ⟨⟨old, he⟩, hit, hne, hai, hae⟩ := st0; obtain ⟨xs, hq, hx⟩ := hg0
    subst hP hw hK
    obtain ⟨its, rv, p, hz⟩ := I.tuple hq
    obtain ⟨f0, f1, f2, f3, f4, f5⟩ := hf it (by simp)
    have hl : its.toArray.size = i := by rw [List.size_toArray, ← rv.length]; exact hx
    exact wpAny_pyNext_enum_endD (Draws.tuple (A := X.A.in1) (show X.A.handled = none from I.ok.hd hc) it a hai its.toArray) he (by rw [hl]; exact ⟨hit, p⟩) fun h' eb => ⟨rfl, I.turned (t' := s.toks) (fun b o hb q => eb b o hb q) f0 f1 f3 f4 f5⟩
  self := fun A i s Q E st h => let ⟨⟨_, he⟩, _⟩ := st; wpAny_pyIter_enum he h
def iEnumT (K : PySem.W.Frag) (ta : TA) : TI := fun σ H R => ta σ H fun vs H1 => ∃ a xs, vs = [.ref a] ∧ SqT K H1 a xs ∧ R (IteT K a) H1
theorem pi_enumT {X : Cx} {e : Expr} {ta : TA} {p pos tpos : Pos} {elts : List Expr} {kk : Nat} (hg : Gl X "enumerate") (hm : X.mg "enumerate" = none) (ha : PA X [e] ta) (hs : starEach [e] X.env = [(false, eval e X.env)]) : PI X (.Tuple elts kk tpos) (.Call (.Name "enumerate" p) [e] [] pos) (iEnumT X.K ta) := by
  refine ⟨fun pins s σ H R I h => ?_⟩
  refine Call_ (ld_blt I hg hm boot_enumerate (PyProof.Rows.callWith_type1 (thn (ha.run pos pins s σ H _ I h) fun us s1 ⟨vs, H1, I1, r1, a, xs, ex, hq, q⟩ => ?_) hs rfl))
  subst ex
  cases r1 with
  | cons r rr =>
    cases rr
    cases r
    obtain ⟨its, rv, p', hz⟩ := I1.tuple hq
    have hal : a < s1.heap.objs.size := by obtain ⟨o, ho, _⟩ := p'; exact Heap.lt_size ho
    refine mi_enum_call (begins_tuple a its.toArray) p' fun h' he ho hk => wpAny_pyIter_enum he ?_
    have I2 : Inv X pins σ H1 { s1 with heap := h' } := I1.kept (t' := s1.toks) hk
    refine ⟨s1.heap.objs.size + 1, [s1.heap.objs.size + 1, s1.heap.objs.size], _, _, H1, rfl, I2, turn_enumT a (s1.heap.objs.size + 1) s1.heap.objs.size, ⟨⟨.none, he⟩, ⟨_, ho, rfl, rfl⟩, Nat.succ_ne_self _, Nat.ne_of_lt hal, Nat.ne_of_lt (Nat.lt_succ_of_lt hal)⟩, fun b hb => ?_, q⟩
    have hle : s1.heap.objs.size ≤ b := by
      rcases (show b = s1.heap.objs.size + 1 ∨ b = s1.heap.objs.size by simpa using hb) with z | z
      · rw [z]; exact Nat.le_add_right _ _
      · rw [z]; exact Nat.le_refl _
    exact I1.fpOk hle (I1.hok.fresh hle)
theorem src_enumT {Γ : Wd} {a : Addr} {xs : List V} {ds : List D} : Src Γ (IteT Γ.K a) (enumD ds) fun μ F H => (∀ a o, F a = some o → H a = some o) ∧ SqT Γ.K F a xs ∧ Reps Γ μ F xs ds where
  go := fun i μ F H ⟨le, h1, h2⟩ hi => by
    rw [enumD_len] at hi
    obtain ⟨v, h3, _⟩ := h2.get (List.getElem?_eq_getElem hi)
    exact ⟨xs, v, st_le le h1, h3⟩
  stop := fun μ F H ⟨le, h1, h2⟩ => ⟨xs, st_le le h1, by rw [h2.length, enumD_len]⟩
  yld := fun i x μ S F H H' ⟨le, h1, h2⟩ k ⟨T, y, ev, hT, e, hy⟩ hi => by
    subst ev e
    obtain ⟨d, h3, h4⟩ := h2.getV (hy xs (st_le le h1))
    have kn := k.enter.new (o := .tup [.int (i : Nat), y]) hT
    exact ⟨_, _, kn, enumD_get h3, .tup (SqT.of upd_same) (.cons (.int _) (.cons (h4.gr kn.gr) .nil))⟩
section
variable {B : At} {X : Cx} {a : Expr} {ma : Env → Sto → Mo D} {pos p tpos : Pos} {elts : List Expr} {kk : Nat}
theorem i_enum (hK : X.K = B.Γ.K) (hg : Gl X "enumerate") (hm : X.mg "enumerate" = none) (ha : PE X a (tE B ma)) (st : starEach [a] X.env = [(false, eval a X.env)]) :
    PI X (.Tuple elts kk tpos) (.Call (.Name "enumerate" p) [a] [] pos) (tIs B fun ρ S => rb (ma ρ S) fun x S => lift ((seqD x).map enumD) S) := by
  refine ((pi_enumT hg hm (pa_cons ha pa_nil st) st).or (pi_enum hg hm (pa_cons ha pa_nil st) st)).imp fun σ H R ⟨μ, S, F, ρ, r, g⟩ => ?_
  have hb := g.bind
  match q : ma ρ S, hb with
  | some (.ex x S'), hb => exact .inl ⟨μ, S, F, ρ, r, by rw [q]; exact hb⟩
  | some (.ok d S'), hb =>
    cases d with
    | tup ds =>
      refine .inl ⟨μ, S, F, ρ, r, ?_⟩
      rw [q]
      intro μ1 F1 H1 k1 v rv
      cases rv with
      | tup h1 h2 =>
        rw [hK]
        exact ⟨_, _, rfl, st_le k1.toSok.le h1, Go.here (P := fun ds _ μ' F' H' => ∀ J ok, Src B.Γ J ds ok → StayG B.Γ ok → ok μ' F' H' → R J H') (hb μ1 F1 H1 k1) k1.toSok _ _ src_enumT stay_tup ⟨k1.toSok.le, h1, h2⟩⟩
    | lst ds =>
      refine .inr ⟨μ, S, F, ρ, r, ?_⟩
      rw [q]
      intro μ1 F1 H1 k1 v rv
      cases rv with
      | lst h1 h2 =>
        rw [hK]
        exact ⟨_, _, rfl, sq_le k1.toSok.le h1, Go.here (P := fun ds _ μ' F' H' => ∀ J ok, Src B.Γ J ds ok → StayG B.Γ ok → ok μ' F' H' → R J H') (hb μ1 F1 H1 k1) k1.toSok _ _ src_enum stay_flist ⟨k1.toSok.le, h1, h2⟩⟩
    | _ =>
      refine .inl ⟨μ, S, F, ρ, r, ?_⟩
      rw [q]
      intro μ1 F1 H1 k1 v rv
      exact (hb μ1 F1 H1 k1).elim
end
end Mi
end

section
set_option linter.all false
set_option maxRecDepth 100000
set_option Elab.async false
/-! Mi7: targets; list comprehensions. -/
namespace Mi
open PySem L2

/-- an object of our own stays over a piece entered here -/
theorem Kp.keepOwn {Γ : Wd} {μ μ' : List Addr} {S' : Sto} {F F' H H' : Hp} (k : Kp Γ ⟨μ, F, H⟩ μ' S' F' H') {a : Addr} {o : HO} (h1 : H a = some o) (h2 : F a = none) (h3 : a ∉ μ) : H' a = some o ∧ F' a = none ∧ a ∉ μ' := by
  refine ⟨k.base a o h1 h3, ?_, fun hm => ?_⟩
  · cases q : F' a with
    | none => rfl
    | some u =>
      rcases k.fz a u q with z | z
      · have z : F a = some u := z
        rw [h2] at z; cases z
      · have z : H a = none := z
        rw [h1] at z; cases z
  · rcases k.mz a hm with z | z
    · exact h3 z
    · have z : H a = none := z
      rw [h1] at z; cases z

/-- some slots are given new values, or are forgotten -/
theorem Rel.upd {Γ : Wd} {E : En} {μ : List Addr} {S : Sto} {F H : Hp} {ρ ρ' : Env} {σ σ' : St} (r : Rel Γ E μ S F H ρ σ) (hl : σ'.length = ρ'.length)
    (h : ∀ (j : Nat), (ρ'[j]? = ρ[j]? ∧ σ'[j]? = σ[j]?) ∨ ((∀ d, ρ'[j]? = some (.val d) → ∃ v, σ'[j]? = some (some v) ∧ Rep Γ μ F v d) ∧ ∀ ds, ρ'[j]? ≠ some (.own ds))) : Rel Γ E μ S F H ρ' σ' where
  toKp := r.toKp
  val := fun i d e => by
    rcases h i with ⟨h1, h2⟩ | ⟨h1, _⟩
    · rw [h1] at e; rw [h2]; exact r.val i d e
    · exact h1 d e
  own := fun i ds e => by
    rcases h i with ⟨h1, h2⟩ | ⟨_, h1⟩
    · rw [h1] at e; rw [h2]; exact r.own i ds e
    · exact (h1 ds e).elim
  sep := fun i j ds es a e1 e2 e3 e4 => by
    rcases h i with ⟨h1, h2⟩ | ⟨_, h1⟩
    · rcases h j with ⟨h3, h4⟩ | ⟨_, h3⟩
      · rw [h1] at e1; rw [h2] at e3; rw [h3] at e2; rw [h4] at e4
        exact r.sep i j ds es a e1 e2 e3 e4
      · exact (h3 es e2).elim
    · exact (h1 ds e1).elim
  sl := hl
theorem Rel.set1 {Γ : Wd} {E : En} {μ : List Addr} {S : Sto} {F H : Hp} {ρ : Env} {σ : St} (r : Rel Γ E μ S F H ρ σ) (i : Nat) {v : V} {d : D} (h : Rep Γ μ F v d) : Rel Γ E μ S F H (ρ.set i (.val d)) (σ.set i (some v)) := by
  have hl := r.sl
  refine r.upd (by simp [hl]) fun j => ?_
  by_cases e : i = j
  · subst e
    refine .inr ⟨fun d' e' => ?_, fun ds e' => ?_⟩
    · rw [List.getElem?_set] at e' ⊢
      simp only [if_true] at e' ⊢
      split at e'
      · cases e'; exact ⟨v, by rw [if_pos (by omega)], h⟩
      · cases e'
    · rw [List.getElem?_set] at e'
      simp only [if_true] at e'
      split at e' <;> cases e'
  · exact .inl ⟨by rw [List.getElem?_set_ne e], by rw [List.getElem?_set_ne e]⟩

/-! ### several names -/
def setAll : List Nat → List V → St → St
  | i :: is, v :: vs, σ => setAll is vs (σ.set i (some v))
  | _, _, σ => σ
theorem setAll_len : ∀ (is : List Nat) (vs : List V) (σ : St), (setAll is vs σ).length = σ.length
  | [], _, _ => by cases ‹List V› <;> rfl
  | _ :: _, [], _ => rfl
  | i :: is, v :: vs, σ => by unfold setAll; rw [setAll_len is vs]; simp
theorem unpE_len : ∀ (is : List Nat) (ds : List D) (ρ : Env), (unpE is ds ρ).length = ρ.length
  | [], _, _ => by cases ‹List D› <;> rfl
  | _ :: _, [], _ => rfl
  | i :: is, v :: vs, σ => by unfold unpE; rw [unpE_len is vs]; simp
theorem all_pts {Γ : Wd} {μ : List Addr} {F : Hp} : ∀ (is : List Nat) (xs : List V) (ds : List D) (σ : St) (ρ : Env), σ.length = ρ.length → Reps Γ μ F xs ds → ds.length = is.length → ∀ j,
    (j ∉ is ∧ (unpE is ds ρ)[j]? = ρ[j]? ∧ (setAll is xs σ)[j]? = σ[j]?) ∨ (j ∈ is ∧ ((j < ρ.length → ∃ v d, (setAll is xs σ)[j]? = some (some v) ∧ (unpE is ds ρ)[j]? = some (.val d) ∧ Rep Γ μ F v d)))
  | [], xs, ds, σ, ρ, _, r, hl, j => by
    cases ds with
    | nil => cases r; exact .inl ⟨by simp, rfl, rfl⟩
    | cons d ds => simp at hl
  | i :: is, xs, ds, σ, ρ, hs, r, hl, j => by
    cases ds with
    | nil => simp at hl
    | cons d ds =>
      cases r with
      | @cons v vs _ _ h1 h2 =>
        rcases all_pts is vs ds (σ.set i (some v)) (ρ.set i (.val d)) (by simp [hs]) h2 (by simpa using hl) j with ⟨n, q1, q2⟩ | ⟨n, q⟩
        · by_cases e : i = j
          · subst e
            refine .inr ⟨List.mem_cons_self, fun hj => ⟨v, d, ?_, ?_, h1⟩⟩
            · show (setAll is vs (σ.set i (some v)))[i]? = _
              rw [q2, List.getElem?_set]; simp; omega
            · show (unpE is ds (ρ.set i (.val d)))[i]? = _
              rw [q1, List.getElem?_set]; simp; exact hj
          · refine .inl ⟨by simp only [List.mem_cons, not_or]; exact ⟨fun z => e z.symm, n⟩, ?_, ?_⟩
            · show (unpE is ds (ρ.set i (.val d)))[j]? = _
              rw [q1, List.getElem?_set_ne e]
            · show (setAll is vs (σ.set i (some v)))[j]? = _
              rw [q2, List.getElem?_set_ne e]
        · refine .inr ⟨List.mem_cons_of_mem _ n, fun hj => ?_⟩
          exact q (by simpa using hj)

/-- the target's reading -/
def gT (K : PySem.W.Frag) : Tg → TG
  | .nm i => gName i
  | .tp is => fun v σ H Q => ∃ a xs, v = .ref a ∧ SqT K H a xs ∧ xs.length = is.length ∧ Q (setAll is xs σ) H
/-- how it leaves the slots -/
inductive Bound (Γ : Wd) (μ : List Addr) (F : Hp) : Tg → V → D → St → St → Prop
  | nm {i : Nat} {v : V} {d : D} {σ : St} : Rep Γ μ F v d → Bound Γ μ F (.nm i) v d σ (σ.set i (some v))
  | tp {is : List Nat} {a : Addr} {xs : List V} {ds : List D} {σ : St} : SqT Γ.K F a xs → Reps Γ μ F xs ds → ds.length = is.length → Bound Γ μ F (.tp is) (.ref a) (.tup ds) σ (setAll is xs σ)
theorem gT_of {Γ : Wd} {μ : List Addr} {F H : Hp} {t : Tg} {v : V} {d : D} {ρ ρ' : Env} {σ : St} {Q : St → Hp → Prop} (le : ∀ a o, F a = some o → H a = some o) (hb : bindT t d ρ = some ρ') (hr : Rep Γ μ F v d)
    (h : ∀ σ', Bound Γ μ F t v d σ σ' → Q σ' H) : gT Γ.K t v σ H Q := by
  cases t with
  | nm i => exact h _ (.nm hr)
  | tp is =>
    cases d <;> first | (cases hb; done) | skip
    rename_i ds
    have hb : (if ds.length = is.length then some (unpE is ds ρ) else none) = some ρ' := hb
    split at hb
    · rename_i hl
      cases hr with
      | tup h1 h2 => exact ⟨_, _, rfl, st_le le h1, by rw [h2.length]; exact hl, h _ (.tp h1 h2 hl)⟩
    · cases hb
/-- the slots σ0 agree with σ but at the target's names -/
theorem Bound.rel {Γ : Wd} {E : En} {μ : List Addr} {S : Sto} {F H : Hp} {ρ ρ' : Env} {σ σ0 σ' : St} {t : Tg} {v : V} {d : D} (b : Bound Γ μ F t v d σ0 σ') (r : Rel Γ E μ S F H ρ σ) (hl : σ0.length = σ.length)
    (h0 : ∀ j, j ∉ t.vs → σ0[j]? = σ[j]?) (hb : bindT t d ρ = some ρ') : Rel Γ E μ S F H ρ' σ' := by
  have hs := r.sl
  cases b with
  | @nm i v d _ hr =>
    cases hb
    refine r.upd (by simp [hl, hs]) fun j => ?_
    by_cases e : i = j
    · subst e
      refine .inr ⟨fun d' e' => ?_, fun ds e' => ?_⟩
      · rw [List.getElem?_set] at e' ⊢
        simp only [if_true] at e' ⊢
        split at e'
        · cases e'; exact ⟨v, by rw [if_pos (by omega)], hr⟩
        · cases e'
      · rw [List.getElem?_set] at e'
        simp only [if_true] at e'
        split at e' <;> cases e'
    · exact .inl ⟨by rw [List.getElem?_set_ne e], by rw [List.getElem?_set_ne e]; exact h0 j (by simp [Tg.vs]; exact fun z => e z.symm)⟩
  | @tp is a xs ds _ h1 h2 h3 =>
    have hb : (if ds.length = is.length then some (unpE is ds ρ) else none) = some ρ' := hb
    rw [if_pos h3] at hb
    cases hb
    refine r.upd (by rw [setAll_len, unpE_len]; omega) fun j => ?_
    rcases all_pts is xs ds σ0 ρ (by omega) h2 h3 j with ⟨n, q1, q2⟩ | ⟨n, q⟩
    · exact .inl ⟨q1, q2.trans (h0 j n)⟩
    · by_cases hj : j < ρ.length
      · obtain ⟨v, d, e1, e2, e3⟩ := q hj
        refine .inr ⟨fun d' e' => ?_, fun ds' e' => ?_⟩
        · rw [e2] at e'; cases e'; exact ⟨v, e1, e3⟩
        · rw [e2] at e'; cases e'
      · refine .inr ⟨fun d' e' => ?_, fun ds' e' => ?_⟩
        · rw [List.getElem?_eq_none (by rw [unpE_len]; omega)] at e'; cases e'
        · rw [List.getElem?_eq_none (by rw [unpE_len]; omega)] at e'; cases e'
theorem wipe_ne {σ : St} {j : Nat} : ∀ {vs : List Nat}, j ∉ vs → (wipe σ vs)[j]? = σ[j]?
  | [], _ => rfl
  | v :: vs, h => by
    unfold wipe
    rw [List.getElem?_set_ne (fun z => h (by rw [z]; exact List.mem_cons_self)), wipe_ne (fun z => h (List.mem_cons_of_mem _ z))]
theorem wipe_at {σ : St} {j : Nat} (hj : j < σ.length) : ∀ {vs : List Nat}, j ∈ vs → (wipe σ vs)[j]? = some none
  | v :: vs, h => by
    unfold wipe
    by_cases e : v = j
    · subst e; rw [List.getElem?_set_self (by rw [wipe_length]; exact hj)]
    · rw [List.getElem?_set_ne e]
      exact wipe_at hj ((List.mem_cons.mp h).resolve_left fun z => e z.symm)
theorem wipe_eq {σ σ' : St} {vs : List Nat} (hl : σ'.length = σ.length) (h : ∀ j, j ∉ vs → σ'[j]? = σ[j]?) : wipe σ' vs = wipe σ vs := by
  refine List.ext_getElem? fun j => ?_
  by_cases hv : j ∈ vs
  · by_cases hj : j < σ.length
    · rw [wipe_at hj hv, wipe_at (by omega) hv]
    · rw [List.getElem?_eq_none (by rw [wipe_length]; omega), List.getElem?_eq_none (by rw [wipe_length]; omega)]
  · rw [wipe_ne hv, wipe_ne hv, h j hv]
theorem Bound.len {Γ : Wd} {μ : List Addr} {F : Hp} {σ0 σ' : St} {t : Tg} {v : V} {d : D} (b : Bound Γ μ F t v d σ0 σ') : σ'.length = σ0.length := by
  cases b with
  | nm => simp
  | tp => rw [setAll_len]
theorem setAll_ne : ∀ (is : List Nat) (vs : List V) (σ : St) (j : Nat), j ∉ is → (setAll is vs σ)[j]? = σ[j]?
  | [], vs, _, _, _ => by cases vs <;> rfl
  | _ :: _, [], _, _, _ => rfl
  | i :: is, v :: vs, σ, j, h => by
    unfold setAll
    rw [setAll_ne is vs _ j (fun z => h (List.mem_cons_of_mem _ z)), List.getElem?_set_ne (fun z => h (by rw [z]; exact List.mem_cons_self))]
theorem Bound.ne {Γ : Wd} {μ : List Addr} {F : Hp} {σ0 σ' : St} {t : Tg} {v : V} {d : D} (b : Bound Γ μ F t v d σ0 σ') : ∀ j, j ∉ t.vs → σ'[j]? = σ0[j]? := fun j hj => by
  cases b with
  | nm => rw [List.getElem?_set_ne (fun z => hj (by simp [Tg.vs, z]))]
  | tp => exact setAll_ne _ _ _ j hj

/-! ### the comprehension -/
theorem compM_ok {body : D → Sto → Mo (Option D)} : ∀ {xs acc : List D} {S : Sto} {r : R (List D)}, compM body xs acc S = some r → ∃ out Sf, r = .ok out Sf
  | [], acc, S, r, h => by cases h; exact ⟨_, _, rfl⟩
  | x :: xs, acc, S, r, h => by
    unfold compM at h
    split at h
    · split at h
      · exact compM_ok h
      · cases h
    · exact compM_ok h
    · cases h
theorem rb_ok {α β : Type} {o : Mo α} {f : α → Sto → Mo β} {z : β} {S' : Sto} (h : rb o f = some (.ok z S')) : ∃ a S1, o = some (.ok a S1) ∧ f a S1 = some (.ok z S') := by
  match o, h with
  | some (.ok a S1), h => exact ⟨a, S1, rfl, h⟩
  | some (.ex x S1), h => cases h
/-- where nothing may be raised -/
abbrev At.calm (B : At) : At := { B with W := fun _ _ _ _ => False }
section
variable {B : At} {X : Cx} {tg iter elt : Expr} {ifs : List Expr} {scope : Scope} {own : List (Str × Nat)} {mi : Env → Sto → Mo (List D)} {me : Env → Sto → Mo D} {mt : Env → Sto → Mo Bool} {t : Tg} {pos : Pos}
def compE (t : Tg) (mi : Env → Sto → Mo (List D)) (mt : Env → Sto → Mo Bool) (me : Env → Sto → Mo D) : Env → Sto → Mo D := fun ρ S => rb (mi ρ S) fun xs S => rb (compM (fun x S => match bindT t x ρ with
      | some ρ' => rb (mt ρ' S) fun b S => if b = true then rb (me ρ' S) fun d S => some (.ok (some d) S) else some (.ok none S)
      | none => none) xs [] S) fun ds S => some (.ok (.lst ds) S)
theorem comp_imp (σ : L2.St) (H : Hp) (Q : VK) (h : tN B (compE t mi mt me) σ H Q) : tLc (tI B mi) (gT B.Γ.K t) (tTt B.calm mt) (tE B.calm me) t.vs σ H Q := by
  obtain ⟨μ, S, F, ρ, r, g⟩ := h
  refine ⟨μ, S, F, ρ, r, g.bind.mono fun xs S1 μ1 F1 H1 k1 g1 J jok src stay j1 D hD => ?_⟩
  -- the walk's end is known
  have g1' := g1.bind
  obtain ⟨out, Sf, hout⟩ : ∃ out Sf, compM (fun x S => match bindT t x ρ with
      | some ρ' => rb (mt ρ' S) fun b S => if b = true then rb (me ρ' S) fun d S => some (.ok (some d) S) else some (.ok none S)
      | none => none) xs [] S1 = some (.ok out Sf) := by
    match q : compM (fun x S => match bindT t x ρ with
      | some ρ' => rb (mt ρ' S) fun b S => if b = true then rb (me ρ' S) fun d S => some (.ok (some d) S) else some (.ok none S)
      | none => none) xs [] S1 with
    | none => rw [q] at g1'; exact g1'.elim
    | some r => obtain ⟨out, Sf, e⟩ := compM_ok q; exact ⟨out, Sf, by rw [e]⟩
  rw [hout] at g1
  have g2 : Go B σ μ1 F1 H1 (some (.ok (.lst out) Sf)) fun d _ μ' F' H' => ∀ v, New B.Γ H μ' F' H' v d → Q v H' := g1
  have hD0 := (k1.fresh hD).1
  obtain ⟨f1, f2, f3⟩ := k1.toSok.enter.fresh hD
  have rr := r.step k1
  refine ⟨fun i m H2 => i + m = xs.length ∧ ∃ μi Si Fi acc accV, Kp B.Γ ⟨μ1, F1, H1⟩ μi Si Fi H2 ∧ H2 D = some (.lst accV) ∧ Fi D = none ∧ D ∉ μi ∧ Reps B.Γ μi Fi accV acc ∧
    compM (fun x S => match bindT t x ρ with
      | some ρ' => rb (mt ρ' S) fun b S => if b = true then rb (me ρ' S) fun d S => some (.ok (some d) S) else some (.ok none S)
      | none => none) (xs.drop i) acc Si = some (.ok out Sf), ⟨xs.length, by omega, μ1, S1, F1, [], [], k1.toSok.enter.mine f1 f2 f3, upd_same, f2, f3, .nil, by simpa using hout⟩, ?_⟩
  rintro i m H2 ⟨hm, μi, Si, Fi, acc, accV, ki, hDi, hFi, hMi, hacc, hrun⟩
  have joki := stay _ _ _ _ _ _ _ j1 ki
  by_cases hlt : i < xs.length
  · refine .inr ⟨src.go i _ _ _ joki hlt, fun H' => ∃ m', m' < m ∧ i + 1 + m' = xs.length ∧ _, fun H' h => h, fun x H' hy => ?_⟩
    obtain ⟨F'', d, ky, hd, hx⟩ := src.yld i x μi Si Fi H2 H' joki ki.toSok hy hlt
    have hd' : xs.drop i = d :: xs.drop (i + 1) := by
      rw [List.drop_eq_getElem_cons hlt]
      rw [List.getElem?_eq_getElem hlt] at hd
      cases hd; rfl
    rw [hd'] at hrun
    have kyi := ki.trans ky
    have ryi := rr.step kyi
    obtain ⟨oD1, oD2, oD3⟩ := ky.keepOwn hDi hFi hMi
    -- one turn
    unfold compM at hrun
    cases hbind : bindT t d ρ with
    | none => simp only [hbind] at hrun; cases hrun
    | some ρ' =>
      simp only [hbind] at hrun
      refine gT_of ky.toSok.le hbind hx fun σ2 hb => ?_
      have r2 : Rel B.Γ B.E μi Si F'' H' ρ' σ2 := hb.rel ryi (wipe_length _ _) (fun j hj => wipe_ne hj) hbind
      refine ⟨?_, ?_⟩
      · rw [wipe_eq (σ' := σ2) (σ := wipe σ t.vs) hb.len hb.ne, wipe_eq (wipe_length _ _) fun j hj => wipe_ne hj]
      · cases hmt : mt ρ' Si with
        | none => rw [hmt] at hrun; cases hrun
        | some rt =>
          cases rt with
          | ex x S' => rw [hmt] at hrun; cases hrun
          | ok b S2 =>
            rw [hmt] at hrun
            refine ⟨μi, Si, F'', ρ', r2, ?_⟩
            rw [hmt]
            intro μ3 F3 H3 k3
            have kk3 := kyi.trans k3
            obtain ⟨p1, p2, p3⟩ := k3.keepOwn oD1 oD2 oD3
            cases b with
            | false =>
              show if false = true then _ else _
              rw [if_neg Bool.false_ne_true]
              have hrun : compM _ (xs.drop (i + 1)) acc S2 = some (.ok out Sf) := hrun
              exact ⟨m - 1, by omega, by omega, μ3, S2, F3, acc, accV, kk3, p1, p2, p3, (hacc.gr ky.gr).gr k3.gr, hrun⟩
            | true =>
              show if true = true then _ else _
              rw [if_pos rfl]
              cases hme : me ρ' S2 with
              | none => simp only [rb, if_true, hme] at hrun; cases hrun
              | some re =>
                cases re with
                | ex x S' => simp only [rb, if_true, hme] at hrun; cases hrun
                | ok y S3 =>
                  simp only [rb, if_true, hme] at hrun
                  split at hrun
                  · rename_i hsz
                    refine ⟨μ3, S2, F3, ρ', r2.step k3, ?_⟩
                    rw [hme]
                    intro μ4 F4 H4 k4 v hvy
                    obtain ⟨q1, q2, q3⟩ := k4.keepOwn p1 p2 p3
                    have kk4 := kk3.trans k4
                    have hacc4 := ((hacc.gr ky.gr).gr k3.gr).gr k4.gr
                    refine ⟨accV, q1, by rw [hacc4.length]; exact hsz, m - 1, by omega, by omega, μ4, S3, F4, acc ++ [y], accV ++ [v], kk4.mine f1 q2 q3, upd_same, q2, q3, hacc4.append (.cons hvy .nil), hrun⟩
                  · cases hrun
  · have e : i = xs.length := by omega
    subst e
    rw [List.drop_length] at hrun
    cases hrun
    exact .inl ⟨src.stop _ _ _ joki, g2 μi Fi H2 ki _ ⟨D, accV, out, rfl, rfl, hD0, hDi, hacc, hFi, hMi⟩⟩
theorem s_comp (hK : X.K = B.Γ.K) (hc : X.calm = true) (hN : X.N.Nodup) (hi : PI X tg iter (tI B mi)) (ok : BlkOk X.N X.env.scope scope own) (hv : own.map (·.2) = t.vs)
    (hg : ∀ (s : Shared) (H : Hp) (C : Addr) (cl : List (Str × Addr)) (fp : List Addr), PG (X.blk s H scope (compEnvC scope cl C X.env) fp) tg (gT B.Γ.K t))
    (ht : ∀ (s : Shared) (H : Hp) (C : Addr) (cl : List (Str × Addr)) (fp : List Addr), PTs (X.blk s H scope (compEnvC scope cl C X.env) fp) ifs (tTt B.calm mt))
    (he : ∀ (s : Shared) (H : Hp) (C : Addr) (cl : List (Str × Addr)) (fp : List Addr), PE (X.blk s H scope (compEnvC scope cl C X.env) fp) elt (tE B.calm me)) (hs : ∀ x, foldedSetIterable iter X.env x = pure x) :
    PE X (.ListComp elt [⟨tg, iter, ifs, 0⟩] scope pos) (tN B (compE t mi mt me)) :=
  (pe_lc hc hN hi ok hg ht he hs).imp fun σ H Q h => by rw [hv]; exact comp_imp σ H Q h
end
end Mi
end

section
set_option linter.all false
set_option maxRecDepth 100000
set_option Elab.async false
/-! Mi8: what a def is worth; its call; targets; dicts. -/
namespace Mi
open PySem L2 PyProof.Rows

/-- a def's promise, where no repr is under way -/
structure FnG (gd : Bool) (P : Program) (w : World) (K : PySem.W.Frag) (mg : Str → Option Value) (base : Heap) (k : Nat) (f : Addr) (fd : FuncData) (ps : List Str) (sp : Sp) : Prop where
  len : ∀ vs H Q E, sp vs H Q E → vs.length = ps.length
  run : ∀ (A : Around) (outer : List PySem.Env) (s : Shared) (H : Hp) (args : Args) (us : List Value) (vs : List V) (Q : VK) (E : XK), Room k A → (gd = true → A.guards = some []) → Env0 P w K mg base A outer s H →
    BindsTo s fd args (ps.zip us) → Vals vs us → sp vs H Q E → codeAny (model P w) A (.call (.ref f) args) (CR (L2.CX P w) outer P w H s Q E) s

section
variable {P : Program} {w : World} {K : PySem.W.Frag} {mg : Str → Option Value} {base : Heap} {k : Nat} {f : Addr} {sp : Sp}
/-- a body keeps the promise: as the layer's own rule for a def, with the guards told -/
theorem FnG.of {gd : Bool} {x qual : Str} {st : Stmt} {fd : FuncData} {N ps : List Str} (F : Fun K x qual st f fd) (Sc : FnScope N ps (defScope st)) (len : ∀ vs H Q E, sp vs H Q E → vs.length = ps.length)
    (body : ∀ (cdv : Value) (A : Around) (outer : List PySem.Env) (s : Shared) (H : Hp) (vs : List V) (Q : VK) (E : XK),
      Room k (A.deeper (envOfC qual (defScope st) s.heap.objs.size f cdv)) → (gd = true → A.guards = some []) → (∃ o, K.lookup f = some o ∧ o.data = .func fd ∧ fd.code = cdv) → sp vs H Q E →
      ∃ t, PSs (cxOf (L2.CX P w) P w K mg base N qual (defScope st) f cdv A outer s H E) (defBody st) t ∧ t { nx := fun _ H' => Q .non H', rt := Q } (start N vs) H) :
    FnG gd P w K mg base (k + 1) f fd ps sp := by
  obtain ⟨oc, od, kV, doc, pm, an, cdv, ct, osl, rfl, lk, hcd⟩ := F.ex
  constructor
  · exact len
  intro A outer s H args us vs Q E hr hgu e0 hb r hsp
  have hlen := len _ _ _ _ hsp
  have inK : K.In s.heap := e0.mod.kin.keeps (fun b o e => (e0.bs b o e).1)
  have nolim : s.heap.NoLimit := e0.mod.nolimit.keeps (fun b o e => (e0.bs b o e).1)
  refine codeAny_call_function hr.depth (inK _ _ lk) rfl Sc.co Sc.gen rfl (PySem.W.codeRec_of inK hcd) (hb _ _ _ _ ?_)
  refine wpAny_newFunctionEnv_cells Sc.kind (fun ⟨n, v⟩ hy => ?_) (fun env he s1 xc => ?_)
  · have hp := Sc.par n (List.of_mem_zip hy).1
    exact hp.elim .inl (fun q => .inr ⟨q, PySem.W.cellsFrom_some _ _ _ (.inl q)⟩)
  · subst he
    refine ⟨nolim.keeps xc.toInCall.keep, codeAny_func ?_⟩
    obtain ⟨t, ht, hq⟩ := body cdv A outer s H vs Q E (hr.deeper _) hgu ⟨_, lk, rfl, rfl⟩ hsp
    have I : L2.Inv (cxOf (L2.CX P w) P w K mg base N qual (defScope st) f cdv A outer s H E) [] (start N vs) H s1 := inv_start Sc hr.hd e0 hlen r xc
    refine wpAny_mono (ht.run [] s1 (start N vs) H _ I hq) ?_ (fun e s' hs => hs)
    intro fl s' hs
    match fl, hs with
    | .ret u, ⟨v, σ', H', J, rv, q⟩ => exact ⟨v, H', J.os, J.bare, J.base, J.hok, rv, q⟩
    | .next, ⟨σ', H', J, q⟩ => exact ⟨.non, H', J.os, J.bare, J.base, J.hok, rfl, q⟩
    | .brk, ⟨_, _, _, q⟩ => exact q.elim
    | .cont, ⟨_, _, _, q⟩ => exact q.elim
end

/-- what a meaning promises -/
def spOf (Γ : Wd) (n : Nat) (M : FnSem) : Sp := fun vs H Q E => ∃ μ S F ds, Sok Γ μ S F H ∧ Reps Γ μ F vs ds ∧ ds.length = n ∧ match M ds S with
  | none => False
  | some (.ok d S') => ∀ μ' F' H' v, Kp Γ ⟨μ, F, H⟩ μ' S' F' H' → Rep Γ μ' F' v d → Q v H'
  | some (.ex x S') => ∀ μ' F' H' cls dc, Kp Γ ⟨μ, F, H⟩ μ' S' F' H' → RepX Γ μ' F' cls dc x → E cls dc H'

section
variable {B : At} {X : Cx} {k n : Nat} {f : Addr} {fd : FuncData} {ps : List Str} {M : FnSem} {x : Str} {p pos : Pos} {e : Expr} {es : List Expr} {ms : Env → Sto → Mo (List D)}
/-- behind a call's arguments -/
theorem call_of {σ : L2.St} {H : Hp} {Q : VK} {r0 : Env} {μ : List Addr} {S : Sto} {F : Hp} {ds : List D} {vs : List V} (k1 : Sok B.Γ μ S F H) (hv : Reps B.Γ μ F vs ds) (hn : ds.length = n)
    (g : Go B σ μ F H (M ds S) fun d _ μ' F' H' => ∀ v, Rep B.Γ μ' F' v d → Q v H') : spOf B.Γ n M vs H Q (WE B.W σ) := by
  refine ⟨μ, S, F, ds, k1, hv, hn, ?_⟩
  match M ds S, g with
  | some (.ok d S'), g => exact fun μ' F' H' v kk rv => g μ' F' H' kk v rv
  | some (.ex x S'), g => exact g
theorem run_G {pins : List (Addr × Obj)} {σ : L2.St} {H : Hp} {s : Shared} {Q : VK} {us : List Value} {vs : List V} {sp : Sp} {gd : Bool} (G : FnG gd X.prog X.w X.K X.mg X.base k f fd ps sp) (hr : Room k X.A) (hgu : gd = true → X.A.guards = some []) (hb : Binds X.K fd ps []) (tk : Takes X B.W)
    (I : L2.Inv X pins σ H s) (r : Vals vs us) (h : sp vs H Q (WE B.W σ)) : wpAny (model X.prog X.w) X.A (call (.ref f) us) (EP X pins σ Q) X.xe s := by
  have hl : us.length = ps.length := by rw [← r.length]; exact G.len _ _ _ _ h
  have b := hb s us I.kIn (by rw [List.append_nil]; exact hl)
  rw [List.append_nil] at b
  refine wpAny_call (codeAny_mono (G.run X.A X.stack s H ⟨us, []⟩ us vs Q (WE B.W σ) hr hgu I.env0 b r h) (fun res s' hq => ?_))
  match res, hq with
  | .error e, hq => exact passAt tk σ pins H s e s' I hq
  | .ok (.ret u), hq => exact I.after hq
theorem s_call {gd : Bool} (G : FnG gd X.prog X.w X.K X.mg X.base k f fd ps (spOf B.Γ n M)) (hr : Room k X.A) (hgu : gd = true → X.A.guards = some []) (hg : Gl X x) (hm : X.mg x = some (.ref f)) (hk : PySem.W.keepIn X.K (.ref f) = true) (hb : Binds X.K fd ps []) (tk : Takes X B.W)
    (ha : PA X (e :: es) (tEs B ms)) (hn : ∀ ρ S ds S', ms ρ S = some (.ok ds S') → ds.length = n) (hdb : (x == ("__debug__" : Str)) = false) (he : starEach (e :: es) X.env = (false, eval e X.env) :: starEach es X.env) (hpl : (backTo pos (starEach es X.env)).any (·.1) = false) :
    PE X (.Call (.Name x p) (e :: es) [] pos) (tE B fun ρ S => rb (ms ρ S) fun ds S => M ds S) := by
  refine ⟨fun pins s σ H Q I ⟨μ, S, F, ρ, r, g⟩ => ?_⟩
  refine wpAny_Call_Name_kw (ld_glob I hg hm ?_ hdb)
  have harg : tEs B ms σ H (fun vs H1 => spOf B.Γ n M vs H1 Q (WE B.W σ)) := by
    refine ⟨μ, S, F, ρ, r, ?_⟩
    have gb := g.bind
    match q : ms ρ S, gb with
    | some (.ok ds S'), gb =>
      exact fun μ1 F1 H1 k1 vs rvs => call_of (r0 := ρ) k1.toSok rvs (hn ρ S ds S' q) (gb μ1 F1 H1 k1)
    | some (.ex x S'), gb => exact gb
  refine PySem.W.callWith_K (h₀ := X.base) I.ok.mod.kin hk (thn (ha.run pos pins s σ H _ I harg) fun us s1 ⟨vs, H1, I1, r1, q1⟩ => ⟨I1.kIn, run_G G hr hgu hb tk I1 r1 q1⟩) he hpl
theorem s_call0 {gd : Bool} (G : FnG gd X.prog X.w X.K X.mg X.base k f fd ps (spOf B.Γ 0 M)) (hr : Room k X.A) (hgu : gd = true → X.A.guards = some []) (hg : Gl X x) (hm : X.mg x = some (.ref f)) (hk : PySem.W.keepIn X.K (.ref f) = true) (hb : Binds X.K fd ps []) (tk : Takes X B.W)
    (hdb : (x == ("__debug__" : Str)) = false) : PE X (.Call (.Name x p) [] [] pos) (tE B fun ρ S => rb (some (.ok [] S)) fun ds S => M ds S) := by
  refine ⟨fun pins s σ H Q I ⟨μ, S, F, ρ, r, g⟩ => ?_⟩
  refine wpAny_Call_Name_kw (ld_glob I hg hm ?_ hdb)
  exact PySem.W.callWith_K0 I.kIn hk (run_G G hr hgu hb tk I .nil (call_of (r0 := ρ) r.toSok .nil rfl g))
theorem permO_reps {Γ : Wd} {μ : List Addr} {F : Hp} : ∀ {is : List Nat} {vs : List V} {ds zs : List D}, Reps Γ μ F vs ds → permO is ds = some zs → ∃ ws, permO is vs = some ws ∧ Reps Γ μ F ws zs
  | [], _, _, _, _, h => by cases h; exact ⟨[], rfl, .nil⟩
  | i :: is, vs, ds, zs, r, h => by
    unfold permO at h
    split at h
    · rename_i x ys h1 h2
      cases h
      obtain ⟨v, q1, q2⟩ := r.get h1
      obtain ⟨ws, q3, q4⟩ := permO_reps r h2
      exact ⟨v :: ws, by unfold permO; rw [q1, q3], .cons q2 q4⟩
    · cases h
theorem permO_vals : ∀ {is : List Nat} {vs ws : List V} {us : List Value}, Vals vs us → permO is vs = some ws → ∃ xs, permO is us = some xs ∧ Vals ws xs
  | [], _, _, _, _, h => by cases h; exact ⟨[], rfl, .nil⟩
  | i :: is, vs, ws, us, r, h => by
    unfold permO at h
    split at h
    · rename_i x ys h1 h2
      cases h
      obtain ⟨u, q1, q2⟩ := r.get h1
      obtain ⟨xs, q3, q4⟩ := permO_vals r h2
      exact ⟨u :: xs, by unfold permO; rw [q1, q3], .cons q2 q4⟩
    · cases h
theorem permO_len {α : Type} : ∀ {is : List Nat} {xs ys : List α}, permO is xs = some ys → ys.length = is.length
  | [], _, _, h => by cases h; rfl
  | i :: is, xs, ys, h => by
    unfold permO at h
    split at h
    · rename_i x zs h1 h2
      cases h
      simp [permO_len h2]
    · cases h
/-- what a def makes of arguments by name alone: names in the order ks, the parameters' places is -/
def KB (K : PySem.W.Frag) (fd : FuncData) (ps ks : List Str) (is : List Nat) : Prop :=
  is.length = ps.length ∧ ∀ (s : Shared) (us xs : List Value), K.In s.heap → us.length = ks.length → permO is us = some xs → BindsTo s fd ⟨[], ks.zip us⟩ (ps.zip xs)
theorem s_callK {kws : List Keyword} {ks : List Str} {is : List Nat} {gd : Bool} (G : FnG gd X.prog X.w X.K X.mg X.base k f fd ps (spOf B.Γ n M)) (hr : Room k X.A) (hgu : gd = true → X.A.guards = some []) (hg : Gl X x) (hm : X.mg x = some (.ref f)) (hk : PySem.W.keepIn X.K (.ref f) = true)
    (hb : KB X.K fd ps ks is) (hps : ps.length = n) (tk : Takes X B.W) (ha : PK X kws (tEs B ms)) (hn : ∀ ρ S ds S', ms ρ S = some (.ok ds S') → ds.length = ks.length) (hall : (backToKw pos (keywordEach kws X.env)).all (·.1.isSome) = true)
    (hks : (backToKw pos (keywordEach kws X.env)).filterMap (·.1) = ks) (hdb : (x == ("__debug__" : Str)) = false) (hpl : ((backTo pos (starEach [] X.env)).any (·.1) || (backToKw pos (keywordEach kws X.env)).any (·.1.isNone)) = false) :
    PE X (.Call (.Name x p) [] kws pos) (tE B fun ρ S => rb (ms ρ S) fun ds S => match permO is ds with
      | some zs => M zs S
      | none => none) := by
  refine ⟨fun pins s σ H Q I ⟨μ, S, F, ρ, r, g⟩ => ?_⟩
  have harg : tEs B ms σ H (fun vs H1 => ∃ ws, permO is vs = some ws ∧ vs.length = ks.length ∧ spOf B.Γ n M ws H1 Q (WE B.W σ)) := by
    refine ⟨μ, S, F, ρ, r, ?_⟩
    have gb := g.bind
    match q : ms ρ S, gb with
    | some (.ok ds S'), gb =>
      intro μ1 F1 H1 k1 vs rvs
      have g1 := gb μ1 F1 H1 k1
      cases q2 : permO is ds with
      | none => simp only [q2] at g1; exact g1.elim
      | some zs =>
        simp only [q2] at g1
        obtain ⟨ws, h1, h2⟩ := permO_reps rvs q2
        exact ⟨ws, h1, by rw [rvs.length]; exact hn ρ S ds S' q, call_of (r0 := ρ) k1.toSok h2 (by rw [permO_len q2, hb.1, hps]) g1⟩
    | some (.ex x S'), gb => exact gb
  refine wpAny_Call_Name_kw (ld_glob I hg hm (PySem.W.callWith_KW0 (h₀ := X.base) I.ok.mod.kin hk hall (thn (ha.run pos pins s σ H _ I harg) fun us s1 ⟨vs, H1, I1, r1, ws, h1, h2, h3⟩ => ⟨I1.kIn, ?_⟩) hpl) hdb)
  rw [hks]
  obtain ⟨xs, q1, q2⟩ := permO_vals r1 h1
  have b := hb.2 s1 us xs I1.kIn (by rw [← r1.length]; exact h2) q1
  refine wpAny_call (codeAny_mono (G.run X.A X.stack s1 H1 ⟨[], ks.zip us⟩ xs ws Q (WE B.W σ) hr hgu I1.env0 b q2 h3) (fun res s' hq => ?_))
  match res, hq with
  | .error e, hq => exact passAt tk σ pins H1 s1 e s' I1 hq
  | .ok (.ret u), hq => exact I1.after hq
end

/-! ### targets -/
section
variable {X : Cx} {K : PySem.W.Frag}
/-- several names, one after the other -/
def gAll (is : List Nat) : TGs := fun vs σ H Q => vs.length = is.length ∧ Q (setAll is vs σ) H
theorem PGs.imp {es : List Expr} {t t' : TGs} (h : PGs X es t) (k : ∀ vs σ H Q, t' vs σ H Q → t vs σ H Q) : PGs X es t' := ⟨fun pins s σ H vs us Q I r q => h.run pins s σ H vs us Q I r (k _ _ _ _ q)⟩
theorem PG.imp {e : Expr} {t t' : TG} (h : PG X e t) (k : ∀ v σ H Q, t' v σ H Q → t v σ H Q) : PG X e t' := ⟨fun pins s σ H v u Q I r q => h.run pins s σ H v u Q I r (k _ _ _ _ q)⟩
theorem gs_nil : PGs X [] (gAll []) := PGs.imp pgs_nil fun vs σ H Q ⟨h1, h2⟩ => by
  cases vs with
  | nil => exact ⟨rfl, h2⟩
  | cons v vs => simp at h1
theorem gs_cons {e : Expr} {es : List Expr} {i : Nat} {is : List Nat} (h1 : PG X e (gName i)) (h2 : PGs X es (gAll is)) (hs : (assignEach (e :: es) X.env).map (·.2) = assign e X.env :: (assignEach es X.env).map (·.2)) : PGs X (e :: es) (gAll (i :: is)) :=
  PGs.imp (pgs_cons h1 h2 hs) fun vs σ H Q ⟨h1, h2⟩ => by
    cases vs with
    | nil => simp at h1
    | cons v vs => exact ⟨v, vs, rfl, by simpa using h1, h2⟩
theorem g_tp {es : List Expr} {kk : Nat} {pos : Pos} {is : List Nat} (hK : X.K = K) (hc : X.calm = true) (h : PGs X es (gAll is)) (hn : (assignEach es X.env).length = is.length) (hst : (assignEach es X.env).findIdx? (·.1) = none) : PG X (.Tuple es kk pos) (gT K (.tp is)) := by
  refine PG.imp (pg_tup hc h hn hst) fun v σ H Q ⟨a, xs, e, h1, h2, h3⟩ => ?_
  subst hK
  exact ⟨a, xs, e, h1, h2, h2, h3⟩
end

/-! ### dicts with text keys -/
section
variable {B : At} {X : Cx} {e a b c : Expr} {ma mb mc : Env → Sto → Mo D} {pos : Pos}
theorem valV_kvK {k : Str} : ∀ (ws : List (Str × V)), valV (kvK ws) (Sum.inr k : Key) = ws.lookup k
  | [] => rfl
  | (k', v) :: r => by
    rw [List.lookup_cons]
    by_cases h : k = k'
    · subst h
      rw [show kvK ((k, v) :: r) = (Sum.inr k, v) :: kvK r from rfl, valV_pos (p := ((Sum.inr k : Key), v)) rfl]
      simp
    · rw [show kvK ((k', v) :: r) = (Sum.inr k', v) :: kvK r from rfl, valV_neg (p := ((Sum.inr k' : Key), v)) (fun z => h (Sum.inr.inj z).symm), valV_kvK r]
      have : (k == k') = false := by simpa using h
      rw [this]
theorem getD_some {Γ : Wd} {μ : List Addr} {S : Sto} {F H : Hp} {k : Str} {x d : D} {v : V} (s : Sok Γ μ S F H) (h : getD S k x = some d) (r : Rep Γ μ F v x) : ∃ a w, v = .ref a ∧ DGet H a (.str k) (some w) ∧ Rep Γ μ F w d := by
  cases x <;> first | (cases h; done) | skip
  rename_i n
  cases r with
  | loc ea =>
    unfold getD at h
    cases q : S[n]? with
    | none => simp only [q] at h; cases h
    | some so =>
      cases so with
      | tab j => simp only [q] at h; cases h
      | dct kvs =>
        simp only [q] at h
        obtain ⟨ws, h1, h2⟩ := s.obj n _ _ ea q
        obtain ⟨w, h3, h4⟩ := h2.look h
        refine ⟨_, w, rfl, ?_, h4⟩
        rw [← h3, ← valV_kvK]
        exact DGet.k (k := Sum.inr k) h1
theorem s_dget {k : Str} {j : Nat} {p2 : Pos} (hu : X.A.units + 1 < cLine) (ha : PE X a (tE B ma)) : PE X (.Subscript a (.Constant (.str k) j p2) pos) (tE B fun ρ S => rb (ma ρ S) fun x S => lift (getD S k x) S) := by
  refine (pe_dget hu ha pe_str (fun _ _ => rfl)).imp fun σ H Q ⟨μ, S, F, ρ, r, g⟩ => ⟨μ, S, F, ρ, r, g.bind.mono fun x S1 μ1 F1 H1 k1 g1 v rv => ?_⟩
  obtain ⟨d, hd, g2⟩ := g1.lift
  obtain ⟨a, w, rfl, h1, h2⟩ := getD_some k1.toSok hd rv
  exact ⟨a, w, rfl, h1, done g2 k1.toSok h2⟩

/-! ### tests of a comprehension -/
theorem ts_nil : PTs X [] (tTt B fun _ S => some (.ok true S)) := ⟨fun pins s σ H Q I ⟨μ, S, F, ρ, r, g⟩ => pts_nil.run pins s σ H Q I (g.here r.toSok)⟩
theorem ts_one {m : Env → Sto → Mo Bool} (h : PT X c (tTt B m)) : PTs X [c] (tTt B fun ρ S => rb (m ρ S) fun b S => if b = true then some (.ok true S) else some (.ok false S)) :=
  ⟨fun pins s σ H Q I ⟨μ, S, F, ρ, r, g⟩ => (pts_one h).run pins s σ H Q I ⟨μ, S, F, ρ, r, g.bind.mono fun b S1 μ1 F1 H1 k1 g1 => by
    cases b with
    | true => exact Go.here (P := fun b _ _ _ H' => Q b H') g1 k1.toSok
    | false => exact Go.here (P := fun b _ _ _ H' => Q b H') g1 k1.toSok⟩⟩
end
end Mi
end

section
set_option linter.all false
set_option maxRecDepth 100000
set_option Elab.async false
/-! Mi9: statements. -/
namespace Mi
open PySem L2

section
variable (B : At)
/-- what is left to be shown behind a statement that came to o -/
def Gs (D : Ends) (o : Fo) : Prop := match o with
  | none => False
  | some (.nx ρ' S') => ∀ μ' F' H' σ', Rel B.Γ B.E μ' S' F' H' ρ' σ' → D.nx σ' H'
  | some (.bk ρ' S') => ∀ μ' F' H' σ', Rel B.Γ B.E μ' S' F' H' ρ' σ' → D.bk σ' H'
  | some (.ct ρ' S') => ∀ μ' F' H' σ', Rel B.Γ B.E μ' S' F' H' ρ' σ' → D.ct σ' H'
  | some (.rt d S') => ∀ μ' F' H' v, Kp B.Γ B.E μ' S' F' H' → Rep B.Γ μ' F' v d → D.rt v H'
  | some (.ex x S') => ∀ μ' F' H' cls dc σ, Kp B.Γ B.E μ' S' F' H' → RepX B.Γ μ' F' cls dc x → B.W cls dc σ H'
def tS (m : Env → Sto → Fo) : TS := fun D σ H => ∃ μ S F ρ, Rel B.Γ B.E μ S F H ρ σ ∧ Gs B D (m ρ S)
end
section
variable {B : At} {X : Cx} {e a b c : Expr} {ma mb mc : Env → Sto → Mo D} {pos : Pos}

/-- a value, then the rest -/
theorem Gs.vb {α : Type} {D : Ends} {σ : L2.St} {H : Hp} {ρ : Env} {μ : List Addr} {S : Sto} {F : Hp} {o : Mo α} {f : α → Sto → Fo} (r : Rel B.Γ B.E μ S F H ρ σ) (h : Gs B D (vb o f)) : Go B σ μ F H o fun a S' _ _ _ => Gs B D (f a S') := by
  match o, h with
  | some (.ok a S'), h => exact fun _ _ _ _ => h
  | some (.ex x S'), h => exact fun μ' F' H' cls dc k rx => h μ' F' H' cls dc σ (r.toKp.trans k) rx
theorem Gs.fb {D : Ends} {o : Fo} {f : Env → Sto → Fo} (h : Gs B D (fb o f)) : Gs B { D with nx := fun σ' H' => tS B f D σ' H' } o := by
  match o, h with
  | some (.nx ρ' S'), h => exact fun μ' F' H' σ' r => ⟨μ', S', F', ρ', r, h⟩
  | some (.bk ρ' S'), h => exact h
  | some (.ct ρ' S'), h => exact h
  | some (.rt d S'), h => exact h
  | some (.ex x S'), h => exact h

/-! ### blocks -/
theorem ss_nil : PSs X [] (tS B fun ρ S => some (.nx ρ S)) := pss_nil.imp fun D σ H ⟨μ, S, F, ρ, r, g⟩ => g μ F H σ r
theorem ss_cons {st : Stmt} {sts : List Stmt} {m ms : Env → Sto → Fo} (h1 : PS X st (tS B m)) (h2 : PSs X sts (tS B ms)) : PSs X (st :: sts) (tS B fun ρ S => fb (m ρ S) ms) :=
  (pss_cons h1 h2).imp fun D σ H ⟨μ, S, F, ρ, r, g⟩ => ⟨μ, S, F, ρ, r, g.fb⟩
theorem s_pass : PS X (.Pass pos) (tS B fun ρ S => some (.nx ρ S)) := ps_pass.imp fun D σ H ⟨μ, S, F, ρ, r, g⟩ => g μ F H σ r
theorem s_brk : PS X (.Break pos) (tS B fun ρ S => some (.bk ρ S)) := ps_break.imp fun D σ H ⟨μ, S, F, ρ, r, g⟩ => g μ F H σ r
theorem s_cont : PS X (.Continue pos) (tS B fun ρ S => some (.ct ρ S)) := ps_continue.imp fun D σ H ⟨μ, S, F, ρ, r, g⟩ => g μ F H σ r
theorem s_doc {x : Str} {j p2} : PS X (.Expr (.Constant (.str x) j p2) pos) (tS B fun ρ S => some (.nx ρ S)) := ps_doc.imp fun D σ H ⟨μ, S, F, ρ, r, g⟩ => g μ F H σ r
/-- our own list becomes a frozen one: nothing is run -/
theorem Rel.freeze {Γ : Wd} {E : En} {μ : List Addr} {S : Sto} {F H : Hp} {ρ : Env} {σ : L2.St} {i : Nat} {ds : List D} (r : Rel Γ E μ S F H ρ σ) (h : ownAt ρ i = some ds) :
    ∃ F', Gr μ F μ F' ∧ Rel Γ E μ S F' H (ρ.set i (.val (.lst ds))) σ ∧ ∃ v, σ[i]? = some (some v) ∧ Rep Γ μ F' v (.lst ds) := by
  have h : ρ[i]? = some (.own ds) := by
    unfold ownAt at h
    split at h
    · cases h; assumption
    · cases h
  obtain ⟨a, xs, h1, h2, h3, h4, h5, h6⟩ := r.own i ds h
  have g : Gr μ F μ (L2.upd F a (.lst xs)) := ⟨fun b u e => by rw [L2.upd_ne (show b ≠ a from fun z => by rw [z, h5] at e; cases e)]; exact e, List.prefix_refl _⟩
  have rp : Rep Γ μ (L2.upd F a (.lst xs)) (.ref a) (.lst ds) := .lst (SqL.of L2.upd_same) (h3.gr g)
  have hi : i < ρ.length := (List.getElem?_eq_some_iff.mp h).1
  refine ⟨L2.upd F a (.lst xs), g, ⟨r.toKp.freeze h2 h4 h5 h6, fun j d e => ?_, fun j es e => ?_, fun j k ds1 es1 b e1 e2 e3 e4 => ?_, by simp [r.sl]⟩, .ref a, h1, rp⟩
  · by_cases hij : i = j
    · subst hij
      rw [List.getElem?_set_self hi] at e
      cases e
      exact ⟨.ref a, h1, rp⟩
    · rw [List.getElem?_set_ne hij] at e
      obtain ⟨v, q1, q2⟩ := r.val j d e
      exact ⟨v, q1, q2.gr g⟩
  · by_cases hij : i = j
    · subst hij
      rw [List.getElem?_set_self hi] at e
      cases e
    · rw [List.getElem?_set_ne hij] at e
      obtain ⟨b, ys, q1, q2, q3, q4, q5, q6⟩ := r.own j es e
      refine ⟨b, ys, q1, q2, q3.gr g, q4, ?_, q6⟩
      rw [L2.upd_ne (show b ≠ a from fun z => ?_)]
      · exact q5
      · subst z
        exact hij (r.sep i j ds es b h e h1 q1)
  · have nj : i ≠ j := fun z => by subst z; rw [List.getElem?_set_self hi] at e1; cases e1
    have nk : i ≠ k := fun z => by subst z; rw [List.getElem?_set_self hi] at e2; cases e2
    rw [List.getElem?_set_ne nj] at e1
    rw [List.getElem?_set_ne nk] at e2
    exact r.sep j k ds1 es1 b e1 e2 e3 e4
theorem ss_frz {i : Nat} {sts : List Stmt} {ms : Env → Sto → Fo} (h : PSs X sts (tS B ms)) :
    PSs X sts (tS B fun ρ S => fb (match ownAt ρ i with | some ds => some (.nx (ρ.set i (.val (.lst ds))) S) | none => none) ms) :=
  h.imp fun D σ H ⟨μ, S, F, ρ, r, g⟩ => by
    cases q : ownAt ρ i with
    | none => simp only [q] at g; exact g.elim
    | some ds =>
      simp only [q] at g
      obtain ⟨F', _, r', _⟩ := r.freeze q
      exact ⟨μ, S, F', _, r', g⟩

/-! ### small statements -/
theorem s_expr (he : PE X e (tW B ma)) (hs : swapsWith e none pos.line X.env = pure false) : PS X (.Expr e pos) (tS B fun ρ S => vb (ma ρ S) fun _ S => some (.nx ρ S)) :=
  (ps_expr he hs).imp fun D σ H ⟨μ, S, F, ρ, r, g⟩ => ⟨μ, S, F, ρ, r, (g.vb r).mono fun d S1 μ1 F1 H1 k1 g1 v _ => g1 μ1 F1 H1 σ (r.step k1)⟩
theorem s_ret (he : PE X e (tE B ma)) : PS X (.Return (some e) pos) (tS B fun ρ S => vb (ma ρ S) fun d S => some (.rt d S)) :=
  (ps_ret he).imp fun D σ H ⟨μ, S, F, ρ, r, g⟩ => ⟨μ, S, F, ρ, r, (g.vb r).mono fun d S1 μ1 F1 H1 k1 g1 v rv => g1 μ1 F1 H1 v (r.toKp.trans k1) rv⟩
theorem s_retN : PS X (.Return none pos) (tS B fun _ S => some (.rt .non S)) :=
  ps_retN.imp fun D σ H ⟨μ, S, F, ρ, r, g⟩ => g μ F H .non r.toKp .non
theorem s_retO {i : Nat} {x : Str} {p2 : Pos} (h : PE X (.Name x p2) (tVar i)) : PS X (.Return (some (.Name x p2)) pos) (tS B fun ρ S => match ownAt ρ i with | some ds => some (.rt (.lst ds) S) | none => none) :=
  (ps_ret h).imp fun D σ H ⟨μ, S, F, ρ, r, g⟩ => by
    cases q : ownAt ρ i with
    | none => simp only [q] at g; exact g.elim
    | some ds =>
      simp only [q] at g
      obtain ⟨F', _, r', v, h1, h2⟩ := r.freeze q
      exact ⟨v, h1, g μ F' H v r'.toKp h2⟩
theorem s_if {t : Env → Sto → Mo Bool} {xs ys : List Stmt} {m1 m2 : Env → Sto → Fo} (hc : PT X c (tTt B t)) (h1 : PSs X xs (tS B m1)) (h2 : PSs X ys (tS B m2)) :
    PS X (.If c xs ys pos) (tS B fun ρ S => vb (t ρ S) fun k S => if k = true then m1 ρ S else m2 ρ S) :=
  (ps_if hc h1 h2).imp fun D σ H ⟨μ, S, F, ρ, r, g⟩ => ⟨μ, S, F, ρ, r, (g.vb r).mono fun k S1 μ1 F1 H1 k1 g1 => by
    cases k with
    | true => exact ⟨μ1, S1, F1, ρ, r.step k1, g1⟩
    | false => exact ⟨μ1, S1, F1, ρ, r.step k1, g1⟩⟩

/-! ### assignments -/
theorem Rel.setOwn {Γ : Wd} {E : En} {μ μ' : List Addr} {S S' : Sto} {F H F' H' : Hp} {ρ : Env} {σ : L2.St} {v : V} {ds : List D} (r : Rel Γ E μ S F H ρ σ) (k : Kp Γ ⟨μ, F, H⟩ μ' S' F' H') (n : New Γ H μ' F' H' v (.lst ds)) (i : Nat) :
    Rel Γ E μ' S' F' H' (ρ.set i (.own ds)) (σ.set i (some v)) := by
  obtain ⟨a, xs, ds', rfl, e, h1, h2, h3, h4, h5⟩ := n
  cases e
  have r' := r.step k
  have nother : ∀ (j : Nat) (es : List D), ρ[j]? = some (.own es) → σ[j]? ≠ some (some (.ref a)) := fun j es e z => by
    obtain ⟨b, ys, q1, q2, _⟩ := r.own j es e
    rw [z] at q1; cases q1
    rw [h1] at q2; cases q2
  have hl := r.sl
  refine ⟨r'.toKp, fun j d e => ?_, fun j es e => ?_, fun j l es1 es2 b e1 e2 e3 e4 => ?_, by simp [hl]⟩
  · by_cases hij : i = j
    · subst hij
      rw [List.getElem?_set] at e
      simp only [if_true] at e
      split at e <;> cases e
    · rw [List.getElem?_set_ne hij] at e ⊢
      exact r'.val j d e
  · by_cases hij : i = j
    · subst hij
      rw [List.getElem?_set] at e
      simp only [if_true] at e
      split at e
      · cases e
        exact ⟨a, xs, by rw [List.getElem?_set]; simp; omega, h2, h3, (r.toKp.fresh h1).1, h4, h5⟩
      · cases e
    · rw [List.getElem?_set_ne hij] at e ⊢
      exact r'.own j es e
  · by_cases hij : i = j
    · by_cases hil : i = l
      · exact hij.symm.trans hil
      · subst hij
        rw [List.getElem?_set_ne hil] at e2 e4
        rw [List.getElem?_set] at e3
        simp only [if_true] at e3
        split at e3
        · cases e3
          exact (nother l es2 e2 e4).elim
        · cases e3
    · by_cases hil : i = l
      · subst hil
        rw [List.getElem?_set_ne hij] at e1 e3
        rw [List.getElem?_set] at e4
        simp only [if_true] at e4
        split at e4
        · cases e4
          exact (nother j es1 e1 e3).elim
        · cases e4
      · rw [List.getElem?_set_ne hij] at e1 e3
        rw [List.getElem?_set_ne hil] at e2 e4
        exact r'.sep j l es1 es2 b e1 e2 e3 e4
/-- name = e, by whichever of the two rules stands -/
theorem s_asg {i : Nat} {st : Stmt} (h : PS X st (tAsg (tE B ma) (gName i))) : PS X st (tS B fun ρ S => vb (ma ρ S) fun d S => some (.nx (ρ.set i (.val d)) S)) :=
  h.imp fun D σ H ⟨μ, S, F, ρ, r, g⟩ => ⟨μ, S, F, ρ, r, (g.vb r).mono fun d S1 μ1 F1 H1 k1 g1 v rv => g1 μ1 F1 H1 _ ((r.step k1).set1 i rv)⟩
theorem s_asgO {i : Nat} {st : Stmt} (h : PS X st (tAsg (tN B ma) (gName i))) : PS X st (tS B fun ρ S => vb (ma ρ S) fun d S => match lstD d with | some ds => some (.nx (ρ.set i (.own ds)) S) | none => none) :=
  h.imp fun D σ H ⟨μ, S, F, ρ, r, g⟩ => ⟨μ, S, F, ρ, r, (g.vb r).mono fun d S1 μ1 F1 H1 k1 g1 v nv => by
    obtain ⟨a, xs, ds, e1, e2, _⟩ := id nv
    subst e2
    exact g1 μ1 F1 H1 _ (r.setOwn k1 nv i)⟩
/-- a new list may be given to a name as a frozen one -/
theorem tAsg_frozen {i : Nat} {st : Stmt} (h : PS X st (tAsg (tN B ma) (gName i))) : PS X st (tAsg (tE B ma) (gName i)) :=
  h.imp fun D σ H ⟨μ, S, F, ρ, r, g⟩ => ⟨μ, S, F, ρ, r, by
    revert g
    match ma ρ S with
    | none => exact id
    | some (.ex x S') => exact id
    | some (.ok d S') =>
      intro g μ' F' H' k v n
      obtain ⟨F2, k2, rp⟩ := New.freeze (E := ⟨μ, F, H⟩) n k
      exact g μ' F2 H' k2 v rp⟩
theorem s_unp {t : Tg} {st : Stmt} (h : PS X st (tAsg (tE B ma) (gT B.Γ.K t))) : PS X st (tS B fun ρ S => vb (ma ρ S) fun d S => match bindT t d ρ with | some ρ' => some (.nx ρ' S) | none => none) :=
  h.imp fun D σ H ⟨μ, S, F, ρ, r, g⟩ => ⟨μ, S, F, ρ, r, (g.vb r).mono fun d S1 μ1 F1 H1 k1 g1 v rv => by
    cases q : bindT t d ρ with
    | none => simp only [q] at g1; exact g1.elim
    | some ρ' =>
      simp only [q] at g1
      exact gT_of k1.toSok.le q rv fun σ' hb => g1 μ1 F1 H1 σ' (hb.rel (r.step k1) rfl (fun _ _ => rfl) q)⟩

/-! ### our own lists -/
/-- our own list is changed in its place -/
theorem Rel.write {Γ : Wd} {E : En} {μ : List Addr} {S : Sto} {F H : Hp} {ρ : Env} {σ : L2.St} {i : Nat} {a : Addr} {ys : List V} {ds es : List D} (r : Rel Γ E μ S F H ρ σ) (h : ownAt ρ i = some ds) (ha : σ[i]? = some (some (.ref a)))
    (hy : Reps Γ μ F ys es) : Rel Γ E μ S F (L2.upd H a (.lst ys)) (ρ.set i (.own es)) σ := by
  have h : ρ[i]? = some (.own ds) := by
    unfold ownAt at h
    split at h
    · cases h; assumption
    · cases h
  obtain ⟨a', xs', h1, h2, h3, h4, h5, h6⟩ := r.own i ds h
  rw [ha] at h1; cases h1
  have hi : i < ρ.length := (List.getElem?_eq_some_iff.mp h).1
  refine ⟨r.toKp.mine h4 h5 h6, fun j d e => ?_, fun j es' e => ?_, fun j k ds1 es1 b e1 e2 e3 e4 => ?_, by simp [r.sl]⟩
  · by_cases hij : i = j
    · subst hij; rw [List.getElem?_set_self hi] at e; cases e
    · rw [List.getElem?_set_ne hij] at e; exact r.val j d e
  · by_cases hij : i = j
    · subst hij
      rw [List.getElem?_set_self hi] at e; cases e
      exact ⟨a, ys, ha, L2.upd_same, hy, h4, h5, h6⟩
    · rw [List.getElem?_set_ne hij] at e
      obtain ⟨b, zs, q1, q2, q3, q4, q5, q6⟩ := r.own j es' e
      refine ⟨b, zs, q1, ?_, q3, q4, q5, q6⟩
      rw [L2.upd_ne (show b ≠ a from fun z => by subst z; exact hij (r.sep i j ds es' b h e ha q1))]
      exact q2
  · have own_of : ∀ (l : Nat) (ts : List D), (ρ.set i (.own es))[l]? = some (.own ts) → ∃ us, ρ[l]? = some (.own us) := fun l ts q => by
      by_cases hil : i = l
      · subst hil; exact ⟨ds, h⟩
      · rw [List.getElem?_set_ne hil] at q; exact ⟨ts, q⟩
    obtain ⟨u1, w1⟩ := own_of j ds1 e1
    obtain ⟨u2, w2⟩ := own_of k es1 e2
    exact r.sep j k u1 u2 b w1 w2 e3 e4
theorem ownAt_rel {Γ : Wd} {E : En} {μ : List Addr} {S : Sto} {F H : Hp} {ρ : Env} {σ : L2.St} {i : Nat} {ds : List D} (r : Rel Γ E μ S F H ρ σ) (h : ownAt ρ i = some ds) : ∃ a xs, σ[i]? = some (some (.ref a)) ∧ H a = some (.lst xs) ∧ Reps Γ μ F xs ds := by
  unfold ownAt at h
  split at h
  · cases h
    obtain ⟨a, xs, h1, h2, h3, _⟩ := r.own i ds ‹_›
    exact ⟨a, xs, h1, h2, h3⟩
  · cases h
end
end Mi
end

section
set_option linter.all false
set_option maxRecDepth 100000
set_option Elab.async false
/-! Mi10: statements that change lists and dicts; loops. -/
namespace Mi
open PySem L2

section
variable {B : At} {X : Cx} {e a b c : Expr} {ma mb mc : Env → Sto → Mo D} {pos : Pos}

theorem own_of {Γ : Wd} {E : En} {μ : List Addr} {S : Sto} {F H : Hp} {ρ : Env} {σ : L2.St} {i : Nat} {ds : List D} (r : Rel Γ E μ S F H ρ σ) (h : ownAt ρ i = some ds) : ∃ a xs, σ[i]? = some (some (.ref a)) ∧ H a = some (.lst xs) ∧ Reps Γ μ F xs ds := ownAt_rel r h

theorem s_app {i : Nat} {x : Str} {p1 ap cp : Pos} (hx : PE X (.Name x p1) (tVar i)) (he : PE X e (tE B ma)) (hs : swapsWith (.Call (.Attribute (.Name x p1) "append" ap) [e] [] cp) none pos.line X.env = pure false)
    (hbase : attributeBase (.Name x p1) "append" X.env (eval (.Name x p1) X.env) = eval (.Name x p1) X.env)
    (hfew : ((backTo cp (starEach [e] X.env)).all (fun x => !x.1) && (backToKw cp (keywordEach [] X.env)).all (fun x => x.1.isSome) && decide (([e] : List Expr).length + ([] : List Keyword).length + (if ([] : List Keyword).isEmpty then 0 else 1) < 30)) = true)
    (hline : (ap.endLine == cp.line) = true) (st : starEach [e] X.env = [(false, eval e X.env)]) (hpl : (backTo cp (starEach [] X.env)).any (·.1) = false) :
    PS X (.Expr (.Call (.Attribute (.Name x p1) "append" ap) [e] [] cp) pos) (tS B fun ρ S => match ownAt ρ i with
      | some ds => vb (ma ρ S) fun d S => if ds.length < maxLen then some (.nx (ρ.set i (.own (ds ++ [d]))) S) else none
      | none => none) := by
  refine (ps_expr (pe_bm PySem.F.plainAttrs_list PySem.F.slot_list_append PySem.F.type_list_append mt_append hx (pa_cons he pa_nil st) hbase hfew hline st hpl) hs).imp fun D0 σ H ⟨μ, S, F, ρ, r, g⟩ => ?_
  cases q : ownAt ρ i with
  | none => simp only [q] at g; exact g.elim
  | some ds =>
    simp only [q] at g
    obtain ⟨p, xs, h1, h2, h3⟩ := ownAt_rel r q
    refine ⟨_, h1, .inl ⟨rfl, xs, SqL.of h2⟩, μ, S, F, ρ, r, (g.vb r).mono fun d S1 μ1 F1 H1 k1 g1 v rv => ?_⟩
    have r1 := r.step k1
    obtain ⟨p', xs', h1', h2', h3'⟩ := ownAt_rel r1 q
    rw [h1] at h1'; cases h1'
    by_cases hl : ds.length < maxLen
    · simp only [hl, if_true] at g1
      refine ⟨p, xs', v, rfl, rfl, h2', by rw [h3'.length]; exact hl, ?_⟩
      exact g1 μ1 F1 _ σ (r1.write q h1 (h3'.append (.cons rv .nil)))
    · simp only [hl, if_false] at g1
      exact g1.elim
theorem s_ext {i : Nat} {x : Str} {p1 ap cp : Pos} (hx : PE X (.Name x p1) (tVar i)) (he : PE X e (tN B ma)) (hs : swapsWith (.Call (.Attribute (.Name x p1) "extend" ap) [e] [] cp) none pos.line X.env = pure false)
    (hbase : attributeBase (.Name x p1) "extend" X.env (eval (.Name x p1) X.env) = eval (.Name x p1) X.env)
    (hfew : ((backTo cp (starEach [e] X.env)).all (fun x => !x.1) && (backToKw cp (keywordEach [] X.env)).all (fun x => x.1.isSome) && decide (([e] : List Expr).length + ([] : List Keyword).length + (if ([] : List Keyword).isEmpty then 0 else 1) < 30)) = true)
    (hline : (ap.endLine == cp.line) = true) (st : starEach [e] X.env = [(false, eval e X.env)]) (hpl : (backTo cp (starEach [] X.env)).any (·.1) = false) :
    PS X (.Expr (.Call (.Attribute (.Name x p1) "extend" ap) [e] [] cp) pos) (tS B fun ρ S => match ownAt ρ i with
      | some ds => vb (ma ρ S) fun d S => match lstD d with
        | some es => if ds.length + es.length ≤ maxLen then some (.nx (ρ.set i (.own (ds ++ es))) S) else none
        | none => none
      | none => none) := by
  refine (ps_expr (pe_bm PySem.F.plainAttrs_list PySem.F.slot_list_extend PySem.F.type_list_extend mt_extend hx (pa_cons he pa_nil st) hbase hfew hline st hpl) hs).imp fun D0 σ H ⟨μ, S, F, ρ, r, g⟩ => ?_
  cases q : ownAt ρ i with
  | none => simp only [q] at g; exact g.elim
  | some ds =>
    simp only [q] at g
    obtain ⟨p, xs, h1, h2, h3⟩ := ownAt_rel r q
    refine ⟨_, h1, .inl ⟨rfl, xs, SqL.of h2⟩, μ, S, F, ρ, r, (g.vb r).mono fun d S1 μ1 F1 H1 k1 g1 v nv => ?_⟩
    have r1 := r.step k1
    obtain ⟨p', xs', h1', h2', h3'⟩ := ownAt_rel r1 q
    rw [h1] at h1'; cases h1'
    obtain ⟨p2, ys, es, rfl, rfl, n1, n2, n3, n4, n5⟩ := nv
    simp only [lstD] at g1
    by_cases hl : ds.length + es.length ≤ maxLen
    · simp only [hl, if_true] at g1
      refine ⟨p, p2, xs', ys, rfl, rfl, h2', n2, by rw [h3'.length, n3.length]; exact hl, ?_⟩
      exact g1 μ1 F1 _ σ (r1.write q h1 (h3'.append n3))
    · simp only [hl, if_false] at g1
      exact g1.elim
theorem ixN_nat {n : Nat} {k : Int} (h0 : 0 ≤ k) (h1 : k < n) : ixN n k = some k.toNat := by
  unfold ixN
  rw [if_pos h0, if_pos h1]
theorem s_seti {i : Nat} {x : Str} {k : Expr} {mk : Env → Sto → Mo D} {p1 p2 : Pos} (hx : PE X (.Name x p1) (tVar i)) (hk : PE X k (tE B mk)) (he : PE X e (tE B ma))
    (ha : ∀ v, assign (.Subscript (.Name x p1) k p2) X.env v = (do
      let ov ← holding [v] (eval (.Name x p1) X.env)
      let iv ← holding [v, ov] (eval k X.env)
      standAt p2
      holding [v, ov, iv] (setItem ov iv v)
      release [v, ov, iv] []))
    (hs : swapsWithSole [.Subscript (.Name x p1) k p2] e pos.line X.env = pure false) (hw : swappedStores [.Subscript (.Name x p1) k p2] e X.env = pure none)
    (h1 : (assignEach [.Subscript (.Name x p1) k p2] X.env).map (·.2) = [assign (.Subscript (.Name x p1) k p2) X.env]) :
    PS X (.Assign [.Subscript (.Name x p1) k p2] e pos) (tS B fun ρ S => match ownAt ρ i with
      | some ds => vb (ma ρ S) fun d S => vb (mk ρ S) fun j S => match intD j with
        | some n => if 0 ≤ n ∧ n < ds.length then some (.nx (ρ.set i (.own (ds.set n.toNat d))) S) else none
        | none => none
      | none => none) := by
  refine (ps_asg he (pg_sub hx hk set_list ha) hs hw h1).imp fun D0 σ H ⟨μ, S, F, ρ, r, g⟩ => ?_
  cases q : ownAt ρ i with
  | none => simp only [q] at g; exact g.elim
  | some ds =>
    simp only [q] at g
    obtain ⟨p, xs, h1, h2, h3⟩ := ownAt_rel r q
    refine ⟨μ, S, F, ρ, r, (g.vb r).mono fun d S1 μ1 F1 H1 k1 g1 v rv => ?_⟩
    refine ⟨_, h1, μ1, S1, F1, ρ, r.step k1, (g1.vb (r.step k1)).mono fun j S2 μ2 F2 H2 k2 g2 w rw' => ?_⟩
    have r2 := (r.step k1).step k2
    obtain ⟨p', xs', h1', h2', h3'⟩ := ownAt_rel r2 q
    rw [h1] at h1'; cases h1'
    cases j <;> first | exact g2.elim | skip
    rename_i n
    cases rw'
    simp only [intD] at g2
    by_cases hl : 0 ≤ n ∧ n < ds.length
    · simp only [hl, and_self, if_true] at g2
      refine ⟨p, xs', n, n.toNat, rfl, rfl, h2', ixN_nat hl.1 (by rw [h3'.length]; exact hl.2), ?_⟩
      exact g2 μ2 F2 _ σ (r2.write q h1 (h3'.set _ (rv.gr k2.gr)))
    · simp only [hl, if_false] at g2
      exact g2.elim

/-! ### loops -/
/-- the same place, told from a later entry; and back -/
theorem Kp.at {Γ : Wd} {E : En} {μ : List Addr} {S : Sto} {F H : Hp} (k : Kp Γ E μ S F H) : Kp Γ ⟨μ, F, E.H⟩ μ S F H where
  toSok := k.toSok
  gr := Gr.refl _ _
  base := fun a o e n => k.base a o e fun hm => n (k.gr.m.subset hm)
  fz := fun _ _ e => .inl e
  mz := fun _ h => .inl h
theorem Kp.back {Γ : Wd} {E : En} {μ μ' : List Addr} {S S' : Sto} {F H F' H' : Hp} (k : Kp Γ E μ S F H) (l : Kp Γ ⟨μ, F, E.H⟩ μ' S' F' H') : Kp Γ E μ' S' F' H' where
  toSok := l.toSok
  gr := k.gr.trans l.gr
  base := fun a o e n => l.base a o e fun hm => (k.mz a hm).elim n fun z => by rw [e] at z; cases z
  fz := fun a o e => (l.fz a o e).elim (k.fz a o) .inr
  mz := fun a hm => (l.mz a hm).elim (k.mz a) .inr
theorem Rel.at {Γ : Wd} {E : En} {μ : List Addr} {S : Sto} {F H : Hp} {ρ : Env} {σ : L2.St} (r : Rel Γ E μ S F H ρ σ) : Rel Γ ⟨μ, F, E.H⟩ μ S F H ρ σ := ⟨r.toKp.at, r.val, r.own, r.sep, r.sl⟩
theorem Rel.back {Γ : Wd} {E : En} {μ μ' : List Addr} {S S' : Sto} {F H F' H' : Hp} {ρ : Env} {σ : L2.St} (k : Kp Γ E μ S F H) (r : Rel Γ ⟨μ, F, E.H⟩ μ' S' F' H' ρ σ) : Rel Γ E μ' S' F' H' ρ σ := ⟨k.back r.toKp, r.val, r.own, r.sep, r.sl⟩
/-- a piece that is understood from any entry -/
def tSX (B : At) (m : Env → Sto → Fo) : TS := fun D σ H => ∃ E, tS ⟨B.Γ, E, B.W⟩ m D σ H
theorem ss_any {sts : List Stmt} {m : Env → Sto → Fo} (h : ∀ E, PSs X sts (tS ⟨B.Γ, E, B.W⟩ m)) : PSs X sts (tSX B m) := ⟨fun pins s σ H D I ⟨E, q⟩ => (h E).run pins s σ H D I q⟩

theorem s_for {tg iter : Expr} {body : List Stmt} {t : Tg} {mi : Env → Sto → Mo (List D)} {mb : Env → Sto → Fo} (hp : PassesOwn (model X.prog X.w) X.A X.env X.xe) (hc : X.calm = true) (hi : PI X tg iter (tIs B mi)) (hg : PG X tg (gT B.Γ.K t))
    (hb : ∀ E, PSs X body (tS ⟨B.Γ, E, B.W⟩ mb)) (hs : ∀ x, foldedSetIterable iter X.env x = pure x) :
    PS X (.For tg iter body [] pos) (tS B fun ρ S => vb (mi ρ S) fun xs S => forM (fun x ρ S => match bindT t x ρ with
      | some ρ' => mb ρ' S
      | none => none) xs ρ S) := by
  refine (ps_for hp hc hi hg (ss_any hb) hs).imp fun σ0 H0 Q ⟨μ, S, F, ρ, r, g⟩ => ⟨μ, S, F, ρ, r, (g.vb r).mono fun ds S1 μ1 F1 H1 k1 g1 J ok src stay ok1 => ?_⟩
  refine ⟨fun i m σ H => m = ds.length - i ∧ i ≤ ds.length ∧ ∃ μ S F ρ, Rel B.Γ B.E μ S F H ρ σ ∧ ok μ F H ∧ Gs B σ0 (forM (fun x ρ S => match bindT t x ρ with
      | some ρ' => mb ρ' S
      | none => none) (ds.drop i) ρ S), ⟨_, rfl, Nat.zero_le _, μ1, S1, F1, ρ, r.step k1, ok1, g1⟩, ?_⟩
  rintro i m σ H ⟨rfl, hi, μ2, S2, F2, ρ2, r2, ok2, g2⟩
  by_cases hlt : i < ds.length
  · refine .inr ⟨src.go i μ2 F2 H ok2 hlt, fun σ' H' => (i + 1 ≤ ds.length ∧ ∃ μ S F ρ, Rel B.Γ B.E μ S F H' ρ σ' ∧ ok μ F H' ∧ Gs B σ0 (forM (fun x ρ S => match bindT t x ρ with
      | some ρ' => mb ρ' S
      | none => none) (ds.drop (i + 1)) ρ S)), fun σ' H' p => ⟨ds.length - (i + 1), by omega, rfl, p⟩, fun x H' y => ?_⟩
    obtain ⟨F3, d, k3, hd, rd⟩ := src.yld i x μ2 S2 F2 H H' ok2 r2.toKp.toSok y hlt
    have r3 := r2.step k3
    have ok3 := stay μ2 F2 H μ2 S2 F3 H' ok2 k3.gr k3.toSok
    have hdr : ds.drop i = d :: ds.drop (i + 1) := by
      rw [List.drop_eq_getElem_cons hlt]
      congr 1
      rw [List.getElem?_eq_getElem hlt] at hd
      exact Option.some.inj hd
    rw [hdr] at g2
    simp only [forM] at g2
    cases qb : bindT t d ρ2 with
    | none => simp only [qb] at g2; exact g2.elim
    | some ρ3 =>
      simp only [qb] at g2
      refine gT_of k3.toSok.le qb rd fun σ4 hb4 => ?_
      have r4 := hb4.rel r3 rfl (fun _ _ => rfl) qb
      refine ⟨⟨μ2, F3, B.E.H⟩, μ2, S2, F3, ρ3, r4.at, ?_⟩
      have next : ∀ {μ' F' H' σ' ρ' S'}, Rel B.Γ ⟨μ2, F3, B.E.H⟩ μ' S' F' H' ρ' σ' → Gs B σ0 (forM (fun x ρ S => match bindT t x ρ with
          | some ρ' => mb ρ' S
          | none => none) (ds.drop (i + 1)) ρ' S') → (i + 1 ≤ ds.length ∧ ∃ μ S F ρ, Rel B.Γ B.E μ S F H' ρ σ' ∧ ok μ F H' ∧ Gs B σ0 (forM (fun x ρ S => match bindT t x ρ with
          | some ρ' => mb ρ' S
          | none => none) (ds.drop (i + 1)) ρ S)) := fun {μ' F' H' σ' ρ' S'} r5 g5 =>
        ⟨hlt, μ', S', F', ρ', r5.back r4.toKp, stay μ2 F3 _ μ' S' F' H' ok3 r5.toKp.gr r5.toKp.toSok, g5⟩
      revert g2
      match mb ρ3 S2 with
      | none => exact fun g => g.elim
      | some (.nx ρ' S') => exact fun g μ' F' H' σ' r5 => next r5 g
      | some (.ct ρ' S') => exact fun g μ' F' H' σ' r5 => next r5 g
      | some (.bk ρ' S') => exact fun g μ' F' H' σ' r5 => g μ' F' H' σ' (r5.back r4.toKp)
      | some (.rt d' S') => exact fun g μ' F' H' v k5 rv => g μ' F' H' v (r4.toKp.back k5) rv
      | some (.ex x' S') => exact fun g μ' F' H' cls dc σ' k5 rx => g μ' F' H' cls dc σ' (r4.toKp.back k5) rx
  · have e : i = ds.length := by omega
    subst e
    rw [List.drop_length] at g2
    exact .inl ⟨src.stop μ2 F2 H ok2, g2 μ2 F2 H σ r2⟩

theorem s_whl {body : List Stmt} {n : Nat} {t : Env → Sto → Mo Bool} {mb : Env → Sto → Fo} (hp : PassesOwn (model X.prog X.w) X.A X.env X.xe) (hc : PT X c (tTt B t)) (hb : PSs X body (tS B mb)) :
    PS X (.While c body [] pos) (tS B fun ρ S => whlM t mb n ρ S) := by
  refine (ps_while hp hc hb).imp fun D σ H ⟨μ, S, F, ρ, r, g⟩ => ?_
  refine ⟨fun m σ H => ∃ μ S F ρ, Rel B.Γ B.E μ S F H ρ σ ∧ Gs B D (whlM t mb m ρ S), ⟨n, μ, S, F, ρ, r, g⟩, ?_⟩
  rintro m σ H ⟨μ, S, F, ρ, r, g⟩
  cases m with
  | zero => exact g.elim
  | succ m =>
    simp only [whlM] at g
    refine ⟨μ, S, F, ρ, r, (g.vb r).mono fun k S1 μ1 F1 H1 k1 g1 => ?_⟩
    cases k with
    | false =>
      rw [if_neg Bool.false_ne_true] at g1 ⊢
      exact g1 μ1 F1 H1 σ (r.step k1)
    | true =>
      rw [if_pos rfl] at g1 ⊢
      refine ⟨fun σ' H' => ∃ μ S F ρ, Rel B.Γ B.E μ S F H' ρ σ' ∧ Gs B D (whlM t mb m ρ S), fun σ' H' p => ⟨m, Nat.lt_succ_self _, p⟩, μ1, S1, F1, ρ, r.step k1, ?_⟩
      revert g1
      match mb ρ S1 with
      | none => exact fun g => g.elim
      | some (.nx ρ' S') => exact fun g μ' F' H' σ' r5 => ⟨μ', S', F', ρ', r5, g⟩
      | some (.ct ρ' S') => exact fun g μ' F' H' σ' r5 => ⟨μ', S', F', ρ', r5, g⟩
      | some (.bk ρ' S') => exact fun g => g
      | some (.rt d' S') => exact fun g => g
      | some (.ex x' S') => exact fun g => g
end
end Mi
end

section
set_option linter.all false
set_option maxRecDepth 100000
set_option Elab.async false
/-! Mi11: dicts made and changed; errors raised. -/
namespace Mi
open PySem L2

/-! ### the store -/
theorem putK_kvK {k : Str} {v : V} {ws : List (Str × V)} (h : (ws.lookup k).isSome) : L2.putK (kvK ws) (Sum.inr k : Key) v = kvK (ws.map fun kv => if kv.1 = k then (kv.1, v) else kv) := by
  have ha : ((kvK ws).any fun kv => decide (kv.1 = (Sum.inr k : Key))) = true := by
    rw [List.any_eq_true]
    induction ws with
    | nil => simp at h
    | cons p r ih =>
      obtain ⟨k', v'⟩ := p
      rw [List.lookup_cons] at h
      by_cases q : k = k'
      · subst q
        exact ⟨(Sum.inr k, v'), by simp [kvK], by simp⟩
      · have : (k == k') = false := by simpa using q
        rw [this] at h
        obtain ⟨x, hx, e⟩ := ih h
        exact ⟨x, by simp [kvK] at hx ⊢; exact .inr hx, e⟩
  unfold L2.putK
  rw [if_pos ha]
  unfold kvK
  rw [List.map_map, List.map_map]
  apply List.map_congr_left
  intro p hp
  by_cases q : p.1 = k
  · simp [q]
  · simp [q]
theorem RepF.put {Γ : Wd} {μ : List Addr} {F : Hp} {k : Str} {v : V} {d : D} (r : Rep Γ μ F v d) : ∀ {ws : List (Str × V)} {kvs : List (Str × D)}, RepF Γ μ F ws kvs → RepF Γ μ F (ws.map fun kv => if kv.1 = k then (kv.1, v) else kv) (putK k d kvs)
  | _, _, .nil => .nil
  | _, _, .cons (k := k') h t => by
    unfold putK
    simp only [List.map_cons]
    by_cases q : k' = k
    · simp only [q, if_true]; exact .cons r (RepF.put r t)
    · simp only [q, if_false]; exact .cons h (RepF.put r t)
theorem RepF.some {Γ : Wd} {μ : List Addr} {F : Hp} {k : Str} : ∀ {ws : List (Str × V)} {kvs : List (Str × D)}, RepF Γ μ F ws kvs → (kvs.lookup k).isSome → (ws.lookup k).isSome
  | _, _, .nil, h => by simp at h
  | _, _, .cons (k := k') r t, h => by
    rw [List.lookup_cons] at h ⊢
    cases q : k == k' with
    | true => rfl
    | false => rw [q] at h; exact RepF.some t h
/-- an object of the store is changed -/
theorem Rel.put {Γ : Wd} {E : En} {μ : List Addr} {S : Sto} {F H : Hp} {ρ : Env} {σ : L2.St} {n : Nat} {a : Addr} {o : SO} {u : HO} (r : Rel Γ E μ S F H ρ σ) (ha : μ[n]? = some a) (hs : SRep Γ μ F (L2.upd H a u) a o) :
    Rel Γ E μ (S.set n o) F (L2.upd H a u) ρ σ := by
  have hm : a ∈ μ := List.mem_of_getElem? ha
  have hF : F a = none := r.fr a hm
  refine ⟨⟨⟨fun b w e => ?_, by simp [r.len], r.nd, fun m b w h1 h2 => ?_, r.fr, fun b qs e => (by
    by_cases z : b = a
    · subst z; exact hm
    · rw [L2.upd_ne z] at e; exact r.tb b qs e)⟩, r.gr, fun b w e h => ?_, r.fz, r.mz⟩, r.val, fun j es e => ?_, r.sep, r.sl⟩
  · rw [L2.upd_ne (show b ≠ a from fun z => by rw [z, hF] at e; cases e)]; exact r.le b w e
  · by_cases q : n = m
    · subst q
      rw [ha] at h1; cases h1
      have hlt : n < S.length := by rw [r.len]; exact (List.getElem?_eq_some_iff.mp ha).1
      rw [List.getElem?_set_self hlt] at h2; cases h2
      exact hs
    · rw [List.getElem?_set_ne q] at h2
      have hne : b ≠ a := fun z => by
        subst z
        obtain ⟨l1, e1⟩ := List.getElem?_eq_some_iff.mp ha
        obtain ⟨l2, e2⟩ := List.getElem?_eq_some_iff.mp h1
        have pw := List.pairwise_iff_getElem.mp r.nd
        rcases Nat.lt_or_gt_of_ne q with l | l
        · exact pw n m l1 l2 l (e1.trans e2.symm)
        · exact pw m n l2 l1 l (e2.trans e1.symm)
      refine (r.obj m b w h1 h2).gr (Gr.refl _ _) fun x e => ?_
      rw [L2.upd_ne hne]; exact e
  · have := r.base b w e h
    rw [L2.upd_ne (show b ≠ a from fun z => ?_)]
    · exact this
    · subst z
      rcases r.mz b hm with w1 | w1
      · exact h w1
      · rw [e] at w1; cases w1
  · obtain ⟨b, xs, h1, h2, h3, h4, h5, h6⟩ := r.own j es e
    exact ⟨b, xs, h1, by rw [L2.upd_ne (show b ≠ a from fun z => h6 (z ▸ hm))]; exact h2, h3, h4, h5, h6⟩
/-- an object of our own joins the store -/
theorem Kp.join {Γ : Wd} {E : En} {μ : List Addr} {S : Sto} {F H : Hp} {p : Addr} {o : SO} {u : HO} (k : Kp Γ E μ S F H) (hE : E.H p = none) (hF : F p = none) (hm : p ∉ μ) (hs : SRep Γ (μ ++ [p]) F (L2.upd H p u) p o) : Kp Γ E (μ ++ [p]) (S ++ [o]) F (L2.upd H p u) := by
  have g : Gr μ F (μ ++ [p]) F := ⟨fun _ _ e => e, List.prefix_append _ _⟩
  refine ⟨⟨fun b w e => ?_, by simp [k.len], ?_, fun m b w h1 h2 => ?_, fun b hb => ?_, fun b qs e => ?_⟩, k.gr.trans g, fun b w e h => ?_, k.fz, fun b hb => ?_⟩
  · rw [L2.upd_ne (show b ≠ p from fun z => by rw [z, hF] at e; cases e)]; exact k.le b w e
  · rw [List.nodup_append]
    exact ⟨k.nd, by simp, fun x hx y hy => by simp at hy; subst hy; exact fun z => hm (z ▸ hx)⟩
  · by_cases q : m < μ.length
    · rw [List.getElem?_append_left q] at h1
      rw [List.getElem?_append_left (by rw [k.len]; exact q)] at h2
      refine (k.obj m b w h1 h2).gr g fun x e => ?_
      rw [L2.upd_ne (show b ≠ p from fun z => hm (z ▸ List.mem_of_getElem? h1))]; exact e
    · have : m = μ.length := by
        have := (List.getElem?_eq_some_iff.mp h1).1
        simp at this; omega
      subst this
      rw [List.getElem?_append_right (Nat.le_refl _)] at h1
      rw [List.getElem?_append_right (by rw [k.len]; exact Nat.le_refl _), k.len] at h2
      simp at h1 h2
      subst h1; subst h2
      exact hs
  · rcases List.mem_append.mp hb with hb | hb
    · exact k.fr b hb
    · simp at hb; subst hb; exact hF
  · by_cases z : b = p
    · subst z; exact List.mem_append_right _ (List.mem_singleton.mpr rfl)
    · rw [L2.upd_ne z] at e; exact List.mem_append_left _ (k.tb b qs e)
  · rw [L2.upd_ne (show b ≠ p from fun z => by rw [z, hE] at e; cases e)]; exact k.base b w e h
  · rcases List.mem_append.mp hb with hb | hb
    · exact k.mz b hb
    · simp at hb; subst hb; exact .inr hE

section
variable {B : At} {X : Cx} {e a b c : Expr} {ma mb mc : Env → Sto → Mo D} {pos : Pos}
theorem s_dput {k : Str} {j : Nat} {p2 p3 : Pos} (hu : X.A.units + 1 < cLine) (ha : PE X a (tE B ma)) (he : PE X e (tE B mb)) (hs : swapsWith e (some (.Subscript a (.Constant (.str k) j p2) p3)) pos.line X.env = pure false) :
    PS X (.Assign [.Subscript a (.Constant (.str k) j p2) p3] e pos) (tS B fun ρ S => vb (mb ρ S) fun d S => vb (ma ρ S) fun x S => match putD S k d x with
      | some S' => some (.nx ρ S')
      | none => none) := by
  refine (ps_dput hu ha pe_str he hs).imp fun D0 σ H ⟨μ, S, F, ρ, r, g⟩ => ⟨μ, S, F, ρ, r, (g.vb r).mono fun d S1 μ1 F1 H1 k1 g1 v rv => ⟨μ1, S1, F1, ρ, r.step k1, (g1.vb (r.step k1)).mono fun x S2 μ2 F2 H2 k2 g2 w rw' => ?_⟩⟩
  have r2 := (r.step k1).step k2
  cases x <;> first | exact g2.elim | skip
  rename_i n
  cases rw' with
  | loc ea =>
    rename_i p
    cases q : S2[n]? with
    | none => simp only [putD, q] at g2; exact g2.elim
    | some so =>
      cases so with
      | tab j => simp only [putD, q] at g2; exact g2.elim
      | dct kvs =>
        simp only [putD, q] at g2
        by_cases hc : (kvs.lookup k).isSome ∧ kvs.length < maxLen
        · simp only [hc, and_self, if_true] at g2
          obtain ⟨ws, h1, h2⟩ := r2.obj n p _ ea q
          have hw := h2.some hc.1
          refine ⟨p, _, rfl, DPut.k (k := Sum.inr k) h1 (by unfold kvK; rw [List.length_map, h2.length]; exact hc.2), ?_⟩
          rw [putK_kvK hw]
          exact g2 μ2 F2 _ σ (r2.put ea ⟨_, upd_same, h2.put (rv.gr k2.gr)⟩)
        · simp only [hc, if_false] at g2; exact g2.elim

theorem Go.bind0 {α β : Type} {σ : L2.St} {μ : List Addr} {F H : Hp} {o : Mo α} {f : α → Sto → Mo β} {P : β → Sto → List Addr → Hp → Hp → Prop} (h : Go B σ μ F H (rb o f) P) : Go B σ μ F H o fun a S' _ _ _ => Go B σ μ F H (f a S') P := by
  match o, h with
  | some (.ok a S'), h => exact fun _ _ _ _ => h
  | some (.ex x S'), h => exact h
/-- the pairs of a display with texts as keys -/
def PPx (B : At) (X : Cx) (pos : Pos) (keys : List (Option Expr)) (values : List Expr) (ks : List Str) (ms : Env → Sto → Mo (List D)) : Prop :=
  ∃ trs, PPs X pos keys values trs ∧ ∀ σ H (Q : List (V × V) → Hp → Prop), (∃ μ S F ρ, Rel B.Γ B.E μ S F H ρ σ ∧ Go B σ μ F H (ms ρ S) fun ds _ μ' F' H' => ∀ vs, Reps B.Γ μ' F' vs ds → Q ((ks.map V.str).zip vs) H') → tPairs trs σ H Q
theorem pp_nil : PPx B X pos [] [] [] fun _ S => some (.ok [] S) := ⟨_, pps_nil, fun σ H Q ⟨μ, S, F, ρ, r, g⟩ => Go.here (P := fun ds _ μ' F' H' => ∀ vs, Reps B.Γ μ' F' vs ds → Q (([] : List V).zip vs) H') g r.toSok [] .nil⟩
theorem pp_cons {k : Str} {j : Nat} {p2 : Pos} {keys : List (Option Expr)} {values : List Expr} {ks : List Str} {ms : Env → Sto → Mo (List D)} (he : PE X e (tE B ma)) (h : PPx B X pos keys values ks ms) :
    PPx B X pos (some (.Constant (.str k) j p2) :: keys) (e :: values) (k :: ks) fun ρ S => rb (ma ρ S) fun d S => rb (ms ρ S) fun ds S => some (.ok (d :: ds) S) := by
  obtain ⟨trs, h1, h2⟩ := h
  refine ⟨_, pps_cons pe_str he h1, fun σ H Q ⟨μ, S, F, ρ, r, g⟩ => ?_⟩
  refine ⟨μ, S, F, ρ, r, g.bind.mono fun d S1 μ1 F1 H1 k1 g1 v rv => ?_⟩
  refine h2 σ H1 _ ⟨μ1, S1, F1, ρ, r.step k1, g1.bind.mono fun ds S2 μ2 F2 H2 k2 g2 vs rvs => ?_⟩
  exact Go.here (P := fun ds _ μ' F' H' => ∀ vs, Reps B.Γ μ' F' vs ds → Q (((k :: ks).map V.str).zip vs) H') g2 k2.toSok (v :: vs) (.cons (rv.gr k2.gr) rvs)
theorem merge_kvK : ∀ (ws acc : List (Str × V)), (acc.map (·.1) ++ ws.map (·.1)).Nodup → mergeK (kvK acc) (kvK ws) = kvK (acc ++ ws)
  | [], acc, _ => by simp [mergeK, kvK]
  | (k, v) :: r, acc, h => by
    have hk : k ∉ acc.map (·.1) := fun z => by
      rw [List.nodup_append] at h
      exact h.2.2 k z k (by simp) rfl
    have hp : L2.putK (kvK acc) (Sum.inr k : Key) v = kvK (acc ++ [(k, v)]) := by
      unfold L2.putK
      rw [if_neg]
      · simp [kvK]
      · simp only [kvK, List.any_map, List.any_eq_true, not_exists, not_and, Function.comp, decide_eq_true_eq]
        intro p hp e
        exact hk (List.mem_map.mpr ⟨p, hp, Sum.inr.inj e⟩)
    have := merge_kvK r (acc ++ [(k, v)]) (by simpa using h)
    show mergeK (L2.putK (kvK acc) (Sum.inr k) v) (kvK r) = _
    rw [hp, this]
    simp
theorem repF_zip {Γ : Wd} {μ : List Addr} {F : Hp} : ∀ {ks : List Str} {vs : List V} {ds : List D}, Reps Γ μ F vs ds → RepF Γ μ F (ks.zip vs) (ks.zip ds)
  | [], _, _, _ => by simp; exact .nil
  | k :: ks, _, _, .nil => by simp; exact .nil
  | k :: ks, _, _, .cons h t => .cons h (repF_zip t)
theorem zip_kV : ∀ (ks : List Str) (vs : List V), (ks.map V.str).zip vs = (kvK (ks.zip vs)).map fun kv => (kV kv.1, kv.2)
  | [], _ => rfl
  | _ :: _, [] => rfl
  | k :: ks, v :: vs => by
    show (V.str k, v) :: (ks.map V.str).zip vs = _
    rw [zip_kV ks vs]; rfl
theorem s_dct {keys : List (Option Expr)} {values : List Expr} {ks : List Str} {ms : Env → Sto → Mo (List D)} (h : PPx B X pos keys values ks ms) (hall : keys.all (·.isSome) = true) (hl : keys.length = values.length) (h0 : keys ≠ []) (h15 : keys.length ≤ 15) (hk : ks.length ≤ 15) :
    PE X (.Dict keys values pos) (tE B fun ρ S => rb (ms ρ S) fun ds S => mkDct ks ds S) := by
  obtain ⟨trs, h1, h2⟩ := h
  refine (pe_disp h1 hall hl h0 h15).imp fun σ H Q ⟨μ, S, F, ρ, r, g⟩ p hp => ?_
  have fr := r.toKp.fresh hp
  have k0 : Kp B.Γ ⟨μ, F, H⟩ μ S F (upd H p (.dK [])) := r.toKp.toSok.enter.mine hp fr.2.1 fr.2.2
  refine h2 σ _ _ ⟨μ, S, F, ρ, r.step k0, (Go.kp k0 (Go.bind0 g)).mono fun ds S1 μ1 F1 H1 k1 g1 vs rvs => ?_⟩
  obtain ⟨w1, w2, w3⟩ := k1.keepOwn upd_same fr.2.1 fr.2.2
  unfold mkDct at g1
  by_cases hc : ks.length = ds.length ∧ ks.Nodup
  · simp only [hc, and_self, if_true] at g1
    refine ⟨w1, kvK (ks.zip vs), zip_kV ks vs, by unfold kvK; rw [List.length_map, List.length_zip]; omega, ?_⟩
    have kt := k0.trans k1
    have hm : mergeK [] (kvK (ks.zip vs)) = kvK (ks.zip vs) := by
      have := merge_kvK (ks.zip vs) [] (by
        rw [List.map_nil, List.nil_append, List.map_fst_zip (by rw [rvs.length]; omega)]
        exact hc.2)
      simpa [kvK] using this
    rw [hm]
    have gg : Gr μ1 F1 (μ1 ++ [p]) F1 := ⟨fun _ _ e => e, List.prefix_append _ _⟩
    have kj := kt.join (o := .dct (ks.zip ds)) (u := .dK (kvK (ks.zip vs))) hp w2 w3 ⟨_, upd_same, (repF_zip rvs).gr gg⟩
    exact g1 _ _ _ kj _ (.loc (by rw [kt.len]; simp))
  · simp only [hc, if_false] at g1; exact g1.elim
end
end Mi
end

section
set_option linter.all false
set_option maxRecDepth 100000
set_option Elab.async false
/-! Mi12: errors raised. -/
namespace Mi
open PySem L2

/-- what C.__init__(self, v1, v2) does with two fields -/
def sp2 (K : PySem.W.Frag) (C : Addr) (f1 f2 : Str) : Sp := fun vs H Q E => ∃ a v1 v2, vs = [.ref a, v1, v2] ∧ H a = some (exo a C none) ∧
  ∀ dx, H dx = none → dx ≠ a → Q .non (upd (upd (upd H dx (exd dx [(f1, v1)])) a (exo a C (some dx))) dx (exd dx [(f2, v2), (f1, v1)]))
section
variable {X : Cx}
/-- its body -/
theorem init2 {C : Addr} {f1 f2 sn x1 x2 : Str} {p1 p2 p3 p4 p5 p6 p7 p8 : Pos} (hf : f1 ≠ f2) (T : OexC X.K C) (h1 : PySem.W.findIn X.K (.ref C) f1 = some none) (h2 : PySem.W.findIn X.K (.ref C) f2 = some none)
    (e0 : PE X (.Name sn p1) (tVar 0)) (e0' : PE X (.Name sn p5) (tVar 0)) (e1 : PE X (.Name x1 p3) (tVar 1)) (e2 : PE X (.Name x2 p7) (tVar 2))
    (s1 : swapsWith (.Name x1 p3) (some (.Attribute (.Name sn p1) f1 p2)) p4.line X.env = pure false) (s2 : swapsWith (.Name x2 p7) (some (.Attribute (.Name sn p5) f2 p6)) p8.line X.env = pure false) :
    ∃ t, PSs X [.Assign [.Attribute (.Name sn p1) f1 p2] (.Name x1 p3) p4, .Assign [.Attribute (.Name sn p5) f2 p6] (.Name x2 p7) p8] t ∧
      ∀ (D : Ends) (vs : List V) (H : Hp) (Q : VK) (E : XK), (∀ σ H, D.nx σ H = Q .non H) → sp2 X.K C f1 f2 vs H Q E → t D (vs.map some) H := by
  refine ⟨_, pss_cons (ps_ost e0 e1 s1) (pss_cons (ps_ost e0' e2 s2) pss_nil), fun D vs H Q E hn ⟨a, v1, v2, hv, ha, hq⟩ => ?_⟩
  subst hv
  refine ⟨v1, rfl, .ref a, rfl, a, C, rfl, T, h1, .inl ⟨ha, fun dx hd hne => ?_⟩⟩
  refine ⟨v2, rfl, .ref a, rfl, a, C, rfl, T, h2, .inr ⟨dx, [(f1, v1)], upd_same, ?_, by show 1 ≤ 900; decide, ?_⟩⟩
  · rw [upd_ne hne]; exact upd_same
  · show D.nx _ _
    rw [hn]
    exact hq dx hd hne
end

/-- a class of errors with two fields -/
structure ExcOk (P : Program) (w : World) (K : PySem.W.Frag) (mg : Str → Option Value) (base : Heap) (Γ : Wd) (k c : Nat) (f1 f2 : Str) : Prop where
  T : OexC K (Γ.ca c)
  ini : ∃ (fI : Addr) (fd : FuncData) (ps : List Str), PySem.W.findIn K (.ref (Γ.ca c)) "__init__" = some (some (.ref fI)) ∧ PySem.W.typeIn K (.ref fI) = some (.type "function") ∧
    FnOk P w K mg base (L2.CX P w) k fI fd ps (sp2 K (Γ.ca c) f1 f2) ∧ Binds K fd ps []
section
variable {B : At} {X : Cx} {k c : Nat} {f1 f2 : Str} {ms : Env → Sto → Mo (List D)}
theorem s_raise {x : Str} {e : Expr} {es : List Expr} {p pos pos' : Pos} (O : ExcOk X.prog X.w X.K X.mg X.base B.Γ k c f1 f2) (hc : X.calm = true) (hr : Room (k + 1) X.A) (hg : Gl X x) (hm : X.mg x = some (.ref (B.Γ.ca c))) (tk : Takes X B.W) (ha : PA X (e :: es) (tEs B ms))
    (hdb : (x == ("__debug__" : Str)) = false) (he : starEach (e :: es) X.env = (false, eval e X.env) :: starEach es X.env) (hpl : (backTo pos (starEach es X.env)).any (·.1) = false) :
    PS X (.Raise (some (.Call (.Name x p) (e :: es) [] pos)) none pos') (tS B fun ρ S => vb (ms ρ S) fun ds S => if ds.length = 2 then some (.ex ⟨c, (([f1, f2] : List Str).zip ds).reverse⟩ S) else none) := by
  obtain ⟨fI, fd, ps, iC, tI, F1, hb⟩ := O.ini
  refine (ps_raise hc tk (pmk_oex O.T iC tI F1 hr hb .nil (fun pins σ H s e s' I h => ?_) hg hm ha hdb he hpl)).imp fun D0 σ H ⟨μ, S, F, ρ, r, g⟩ => ?_
  · obtain ⟨_, _, _, _, _, _, _, _, _, _, _, _, z⟩ := h
    exact z.elim
  · refine ⟨μ, S, F, ρ, r, (g.vb r).mono fun ds S1 μ1 F1 H1 k1 g1 vs rvs => ?_⟩
    by_cases hl : ds.length = 2
    · simp only [hl, if_true] at g1
      obtain ⟨d1, d2, rfl⟩ : ∃ d1 d2, ds = [d1, d2] := by
        match ds, hl with
        | [d1, d2], _ => exact ⟨d1, d2, rfl⟩
      cases rvs with
      | cons r1 rvs =>
        cases rvs with
        | cons r2 rvs =>
          cases rvs
          rename_i v1 v2
          refine ⟨by show 2 ≤ 1000; decide, fun a hna => ⟨a, v1, v2, by simp, upd_same, fun dx hd hne => ⟨rfl, dx, [(f2, v2), (f1, v1)], ?_, upd_same, ?_, ?_⟩⟩⟩
          · rw [upd_ne (Ne.symm hne)]; exact upd_same
          · rw [upd_ne hne] at hd; exact hd
          · have hd1 : H1 dx = none := by rw [upd_ne hne] at hd; exact hd
            have eH : upd (del (upd (upd (upd (upd H1 a (exo a (B.Γ.ca c) none)) dx (exd dx [(f1, v1)])) a (exo a (B.Γ.ca c) (some dx))) dx (exd dx [(f2, v2), (f1, v1)])) a) dx (.xd [(f2, v2), (f1, v1)]) = upd H1 dx (.xd [(f2, v2), (f1, v1)]) := by
              funext b
              by_cases hb : b = dx
              · subst hb; rw [upd_same, upd_same]
              · rw [upd_ne hb, upd_ne hb]
                by_cases hba : b = a
                · subst hba; rw [del_same]; exact hna.symm
                · rw [del_ne hba, upd_ne hb, upd_ne hba, upd_ne hb, upd_ne hba]
            rw [eH]
            have kn := (r.toKp.trans k1).new (o := .xd [(f2, v2), (f1, v1)]) hd1
            refine g1 μ1 _ _ _ _ σ kn ⟨rfl, dx, [(f2, v2), (f1, v1)], rfl, upd_same, ?_⟩
            have g : Gr μ1 F1 μ1 (upd F1 dx (.xd [(f2, v2), (f1, v1)])) := ⟨fun b u e => by rw [upd_ne (show b ≠ dx from fun z => by rw [z, (k1.fresh hd1).2.1] at e; cases e)]; exact e, List.prefix_refl _⟩
            exact .cons (r2.gr g) (.cons (r1.gr g) .nil)
    · simp only [hl, if_false] at g1
      exact g1.elim
end
end Mi
end

section
set_option linter.all false
set_option maxRecDepth 100000
set_option Elab.async false
/-! Mi13: some tests; a name given a comprehension; pairs exchanged. -/
namespace Mi
open PySem L2
section
variable {B : At} {X : Cx} {e a b c : Expr} {ma mb mc : Env → Sto → Mo D} {pos : Pos}
theorem s_isNT {j p2} (ha : PE X a (tW B ma)) : PT X (.Compare a [.Is] [.Constant .none j p2] pos) (tTt B fun ρ S => rb (rb (ma ρ S) fun x S => some (.ok (D.bl (if false then !isNonD x else isNonD x)) S)) fun (d : D) S => lift d.truth S) := by
  refine (pt_cmp (pc_isN ha) rfl).imp fun σ H Q ⟨μ, S, F, ρ, r, g⟩ => one r g.bind fun x S2 μ2 F2 H2 v r2 k2 rv g2 => ?_
  rw [isNon_of rv]
  exact ⟨_, rfl, (g2.here r2.toSok).here r2.toSok⟩
theorem s_isNnT {j p2} (ha : PE X a (tW B ma)) : PT X (.Compare a [.IsNot] [.Constant .none j p2] pos) (tTt B fun ρ S => rb (rb (ma ρ S) fun x S => some (.ok (D.bl (if true then !isNonD x else isNonD x)) S)) fun (d : D) S => lift d.truth S) := by
  refine (pt_cmp (pc_notN ha) rfl).imp fun σ H Q ⟨μ, S, F, ρ, r, g⟩ => one r g.bind fun x S2 μ2 F2 H2 v r2 k2 rv g2 => ?_
  rw [isNon_of rv]
  exact ⟨_, rfl, (g2.here r2.toSok).here r2.toSok⟩
theorem s_cmp2T {o o' : Cop} (hu : X.A.units + 65 < cLine) (hK : X.K = B.Γ.K) (ha : PE X a (tW B ma)) (hb : PE X b (tW B mb)) (hc : PE X c (tW B mc)) (hm : lastMarks [cmpOp o, cmpOp o'] [b, c] = false) :
    PT X (.Compare a [cmpOp o, cmpOp o'] [b, c] pos) (tTt B fun ρ S => rb (rb (ma ρ S) fun x S => rb (mb ρ S) fun y S => rb (lift (cop o x y) S) fun k S =>
      if k = true then rb (mc ρ S) fun z S => lift ((cop o' y z).map D.bl) S else some (.ok (.bl false) S)) fun (d : D) S => lift d.truth S) := by
  refine (pt_chain (op_cop hu o) (op_cop hu o') ha hb hc hm).imp fun σ H Q ⟨μ, S, F, ρ, r, g⟩ => two r g.bind fun x y S2 μ2 F2 H2 v w r2 k2 rv rw' g2 => ?_
  obtain ⟨k, hk, g3⟩ := g2.bind.lift
  have g4 := g3.here r2.toSok
  rw [hK]
  refine rCop_some (Q := fun z H3 => _) r2.toSok.le hk rv rw' ⟨k, rfl, ?_⟩
  cases k with
  | true =>
    rw [if_pos rfl]
    rw [if_pos rfl] at g4
    refine one r2 g4 fun z S3 μ3 F3 H3 u r3 k3 ru g5 => ?_
    obtain ⟨t, ht, g6⟩ := g5.lift
    obtain ⟨k', hk', rfl⟩ := Option.map_eq_some_iff.mp ht
    exact rCop_some r3.toSok.le hk' (rw'.kp k3) ru ⟨k', rfl, (g6.here r3.toSok).here r3.toSok⟩
  | false =>
    rw [if_neg Bool.false_ne_true]
    rw [if_neg Bool.false_ne_true] at g4
    exact ⟨false, rfl, (g4.here r2.toSok).here r2.toSok⟩
theorem s_setLc {tg iter elt : Expr} {ifs : List Expr} {scope : Scope} {own : List (Str × Nat)} {mi : Env → Sto → Mo (List D)} {me : Env → Sto → Mo D} {mt : Env → Sto → Mo Bool} {t : Tg} {spos py : Pos} {i : Nat} {y : Str}
    (hc : X.calm = true) (hN : X.N.Nodup) (hy : X.N[i]? = some y) (hyl : X.env.scope.names.lookup y = some .local)
    (hsw : swapsWith (.ListComp elt [⟨tg, iter, ifs, 0⟩] scope pos) (some (.Name y py)) spos.line X.env = pure true) (hi : PI X tg iter (tI B mi)) (ok : BlkOk X.N X.env.scope scope own) (hv : own.map (·.2) = t.vs)
    (hg : ∀ (s : Shared) (H : Hp) (C : Addr) (cl : List (Str × Addr)) (fp : List Addr), PG (X.blk s H scope (compEnvC scope cl C X.env) fp) tg (gT B.Γ.K t))
    (ht : ∀ (s : Shared) (H : Hp) (C : Addr) (cl : List (Str × Addr)) (fp : List Addr), PTs (X.blk s H scope (compEnvC scope cl C X.env) fp) ifs (tTt B.calm mt))
    (he : ∀ (s : Shared) (H : Hp) (C : Addr) (cl : List (Str × Addr)) (fp : List Addr), PE (X.blk s H scope (compEnvC scope cl C X.env) fp) elt (tE B.calm me)) (hs : ∀ x, foldedSetIterable iter X.env x = pure x) :
    PS X (.Assign [.Name y py] (.ListComp elt [⟨tg, iter, ifs, 0⟩] scope pos) spos) (tAsg (tN B (compE t mi mt me)) (gName i)) :=
  (ps_setLc hc hN hy hyl hsw hi ok hg ht he hs).imp fun D σ H h => by rw [hv]; exact comp_imp σ H _ h
/-- a, b = x, y between plain local names -/
theorem s_par {i j : Nat} {ms : Env → Sto → Mo (List D)} {st : Stmt} (hij : i ≠ j) (h : PS X st (tPar i j (tEs B ms))) :
    PS X st (tS B fun ρ S => vb (rb (ms ρ S) fun ds S => lift (mkT ds) S) fun d S => match bindT (.tp [i, j]) d ρ with
      | some ρ' => some (.nx ρ' S)
      | none => none) :=
  h.imp fun D0 σ H ⟨μ, S, F, ρ, r, g⟩ => by
    refine ⟨μ, S, F, ρ, r, (g.vb r).bind.mono fun ds S1 μ1 F1 H1 k1 g1 vs rvs => ?_⟩
    obtain ⟨d, hd, g2⟩ := g1.lift
    have g3 := g2.here k1.toSok
    unfold mkT at hd
    split at hd
    · cases hd
      match ds, rvs, g3 with
      | [d1, d2], .cons r1 (.cons r2 .nil), g3 =>
        refine ⟨_, _, rfl, ?_⟩
        simp only [bindT, List.length_cons, List.length_nil, if_true, unpE] at g3
        exact g3 μ1 F1 H1 _ (((r.step k1).set1 i r1).set1 j r2)
      | [], _, g3 => simp [bindT] at g3; exact g3.elim
      | [_], _, g3 => simp [bindT] at g3; exact g3.elim
      | _ :: _ :: _ :: _, _, g3 => simp [bindT] at g3; exact g3.elim
    · cases hd
theorem cnt_flat {Γ : Wd} {μ : List Addr} {F H : Hp} {x : D} {v : V} (hx : x.flat = true) (r : RepL Γ μ F H v x) : ∀ {ds : List D} {xs : List V}, Reps Γ μ F xs ds → ds.all D.flat = true → xs.all flatV = true ∧ (xs.countP fun z => eqV z v) = ds.countP fun z => eqV1 z x
  | [], _, h, _ => by cases h; exact ⟨rfl, rfl⟩
  | d :: ds, _, h, f => by
    cases h with
    | cons h1 h2 =>
      rw [List.all_cons, Bool.and_eq_true] at f
      obtain ⟨i1, i2⟩ := cnt_flat hx r h2 f.2
      refine ⟨by rw [List.all_cons, flat_V (H := H) f.1 (.inl h1), i1]; rfl, ?_⟩
      rw [List.countP_cons, List.countP_cons, i2, eqV_flat (H := H) f.1 hx (.inl h1) r]
theorem s_cnt {i : Nat} {x : Str} {p1 ap cp : Pos} (hx : PE X (.Name x p1) (tVar i)) (he : PE X e (tE B ma)) (hbase : attributeBase (.Name x p1) "count" X.env (eval (.Name x p1) X.env) = eval (.Name x p1) X.env)
    (hfew : ((backTo cp (starEach [e] X.env)).all (fun x => !x.1) && (backToKw cp (keywordEach [] X.env)).all (fun x => x.1.isSome) && decide (([e] : List Expr).length + ([] : List Keyword).length + (if ([] : List Keyword).isEmpty then 0 else 1) < 30)) = true)
    (hline : (ap.endLine == cp.line) = true) (st : starEach [e] X.env = [(false, eval e X.env)]) (hpl : (backTo cp (starEach [] X.env)).any (·.1) = false) :
    PE X (.Call (.Attribute (.Name x p1) "count" ap) [e] [] cp) (tE B fun ρ S => match ownAt ρ i with
      | some ds => rb (ma ρ S) fun y S => lift (cntD ds y) S
      | none => none) := by
  refine (pe_bm PySem.F.plainAttrs_list PySem.F.slot_list_count PySem.F.type_list_count mt_cnt hx (pa_cons he pa_nil st) hbase hfew hline st hpl).imp fun σ H Q ⟨μ, S, F, ρ, r, g⟩ => ?_
  cases q : ownAt ρ i with
  | none => simp only [q] at g; exact g.elim
  | some ds =>
    simp only [q] at g
    obtain ⟨p, xs, h1, h2, h3⟩ := ownAt_rel r q
    refine ⟨_, h1, .inl ⟨rfl, xs, SqL.of h2⟩, μ, S, F, ρ, r, g.bind.mono fun y S1 μ1 F1 H1 k1 g1 v rv => ?_⟩
    have r1 := r.step k1
    obtain ⟨p', xs', h1', h2', h3'⟩ := ownAt_rel r1 q
    rw [h1] at h1'; cases h1'
    obtain ⟨z, hz, g4⟩ := g1.lift
    unfold cntD at hz
    split at hz
    · rename_i hf
      rw [Bool.and_eq_true] at hf
      cases hz
      obtain ⟨i1, i2⟩ := cnt_flat (H := H1) hf.1 (.inl rv) h3' hf.2
      exact ⟨p, xs', v, rfl, rfl, h2', i1, flat_V (H := H1) hf.1 (.inl rv), done g4 k1.toSok (by rw [i2]; exact .int _)⟩
    · cases hz
end
end Mi
end

section
set_option linter.all false
set_option maxRecDepth 100000
set_option Elab.async false
set_option maxHeartbeats 2000000
/-! MiY: a lambda without parameters is made and handed to a def that calls it and holds its error. -/
namespace Mi
open PySem PySem.Spec PyProof.Rows L2 LamX L2H

/-- what is known when a lambda has been made: its code object is found in the table, or is new and stands in it now -/
def Made (P : Addr) (q : Str) (ps : Array Value) (H H1 : Hp) (c' : Addr) : Prop :=
  H1 c' = some (CodeO c' q) ∧ (H1 = H ∨ (H c' = none ∧ ∃ more : Array Value, H1 = upd (upd H P (.tbl (ps ++ more))) c' (CodeO c' q) ∧ TriplesOk (ps ++ more).toList ∧
    ∀ (pos : Pos) (cv : Value), codeAmong pos (ps ++ more).toList = some cv → codeAmong pos ps.toList = some cv ∨ cv = .ref c'))
/-- the table's codes are known -/
def Coded (q : Str) (ps : Array Value) (H : Hp) : Prop := TriplesOk ps.toList ∧ ∀ (pos : Pos) (cv : Value), codeAmong pos ps.toList = some cv → ∃ c, cv = .ref c ∧ H c = some (CodeO c q)

section
variable {X : Cx} {pins : List (Addr × Obj)} {σ : L2.St} {H : Hp} {s : Shared}
abbrev lamName (X : Cx) : Str := X.env.qual ++ "<lambda>"
theorem mi_lam {P c : Addr} {ps : Array Value} {params : Arguments} {body : Expr} {scope : Scope} {pos : Pos} {E Q : Value → Shared → Prop} (I : L2.Inv X pins σ H s) (TB : TabB X.base X.mg c P) (hcode : X.env.code = .ref c) (hP : H P = some (.tbl ps)) (hco : Coded (lamName X) ps H)
    (hdef : defaultsOf params X.env = ([], [])) (hfree : ∀ y ∈ scope.names, y.2 = .free → ∃ c, X.env.cells.lookup y.1 = some c)
    (h : ∀ (f c' : Addr) (pm ctv : Value) (H1 : Hp) (s' : Shared), L2.Inv X pins σ H1 s' → Made P (lamName X) ps H H1 c' →
      s'.heap.get? f = some (PySem.W.kla_obj "<lambda>" (lamName X) params body scope (cloFrom X.env.cells scope.names []) pm c' ctv) → H1 f = none → f ∉ frs X.stack → Q (.ref f) s') :
    wpAny (model X.prog X.w) X.A (eval (.Lambda params body scope pos) X.env) Q E s := by
  obtain ⟨ht, ha⟩ := hco
  refine PySem.W.kla_eval hdef ?_
  have bP := TB.bm.keeps I.bk
  have hP' := I.hok P _ hP
  have away : ∀ f, s.heap.objs.size ≤ f → f ∉ frs X.stack := fun f hf z => by
    rcases List.mem_cons.mp (I.stkSub _ z) with e | e
    · exact Nat.lt_irrefl _ (Nat.lt_of_lt_of_le (show f < s.heap.objs.size by rw [e]; exact I.lt) hf)
    · exact I.nofs hf e
  cases hc : codeAmong pos ps.toList with
  | none =>
    refine PySem.W.kla_makeFunction (mg := X.mg) (c := c) (P := P) (ps := ps) (closure_ok hfree) I.ok.glob (I.mod.glob.keeps I.bk) hcode (TB.code.keeps I.bk)
      hP' ht hc TB.gP bP fun c' ctv h' tk hx hge hlt ⟨c2, oc, vs, t, e2, hoc, hd, hv⟩ htb => ?_
    cases e2
    have nC : H c' = none := I.hok.fresh hge
    have grow : s.heap.objs.size ≤ h'.objs.size := Nat.le_trans hge (Nat.le_of_lt hlt)
    have eL : (ps ++ #[rawInt pos.line, rawInt pos.col, .ref c']).toList = ps.toList ++ [rawInt pos.line, rawInt pos.col, .ref c'] := by simp
    have J := inv_table (t' := tk) (more := #[rawInt pos.line, rawInt pos.col, .ref c']) (q := lamName X) (h' := h'.push (PySem.W.kla_obj "<lambda>" (lamName X) params body scope (cloFrom X.env.cells scope.names []) ((X.mg "__name__").getD .none) c' ctv)) I hP
      (fun b o hb e => Heap.get?_push_of_some _ (hx b o hb e)) (Heap.get?_push_of_some _ htb) hge ⟨oc, vs, t, Heap.get?_push_of_some _ hoc, hd, hv⟩
    refine h h'.objs.size c' ((X.mg "__name__").getD .none) ctv _ _ J ⟨upd_same, .inr ⟨nC, _, rfl, by rw [eL]; exact PySem.TriplesOk_snoc _ _ _ _ ht, fun p' cv hcv => ?_⟩⟩ (Heap.get?_push_size _ rfl) ?_ (away _ grow)
    · rw [eL] at hcv
      exact among_app _ ht hcv
    · rw [upd_ne (Nat.ne_of_gt hlt), upd_ne (Nat.ne_of_gt (Nat.lt_of_lt_of_le (Heap.lt_size hP') grow))]
      exact I.hok.fresh grow
  | some cv =>
    obtain ⟨c', e, hco⟩ := ha pos cv hc
    subst e
    refine PySem.W.kla_makeFunctionHit (mg := X.mg) (c := c) (P := P) (ps := ps) (closure_ok hfree) I.ok.glob (I.mod.glob.keeps I.bk) hcode (TB.code.keeps I.bk)
      hP' ht hc bP fun ctv h' tk hx hsz => ?_
    exact h h'.objs.size c' ((X.mg "__name__").getD .none) ctv H _ (I.kept (t' := tk) fun b o e => Heap.get?_push_of_some _ (hx b o e)) ⟨hco, .inl rfl⟩ (Heap.get?_push_size _ rfl) (I.hok.fresh hsz) (away _ hsz)

/-- the call of the lambda, in the def that got it; an error is told of where that def stands at the call -/
theorem mi_act {CXg : CXT} {Eg : XK} {Ng : List Str} {qg : Str} {sg : Scope} {g f c' : Addr} {cdg pm ctv : Value} {params : Arguments} {body : Expr} {scope : Scope} {k i : Nat} {a : Str} {pn : List (Addr × Obj)} {xe : Value → Shared → Prop} {W : WX} {tb : XK → TE} {p1 p2 : Pos}
    (I : L2.Inv X pins σ H s) (L : LamS X.env.scope scope) (hf : s.heap.get? f = some (PySem.W.kla_obj "<lambda>" (lamName X) params body scope (cloFrom X.env.cells scope.names []) pm c' ctv)) (hfn : H f = none) (hfr : f ∉ frs X.stack)
    (hbind : bindArgs (PySem.W.kla_fn "<lambda>" (lamName X) params body scope (cloFrom X.env.cells scope.names []) pm (.ref c') ctv) ⟨[], []⟩ = pure []) (tk : Takes ((cxOf CXg X.prog X.w X.K X.mg X.base Ng qg sg g cdg X.A X.stack s H Eg).tr pn xe) W)
    (hr : Room (k + 1) (X.A.deeper (envOfC qg sg s.heap.objs.size g cdg))) (hbody : ∀ (E : XK) (A : Around) (outer : List PySem.Env) (s : Shared) (H : Hp), Room k (A.deeper (lamEnv X scope s.heap.objs.size f c')) → PE (lamCx X A outer s H E scope f c') body (tb E))
    (hN : Ng[i]? = some a) (hv : Vis sg a) (hd : (a == ("__debug__" : Str)) = false) (hcd : (a == ("__classdict__" : Str)) = false) :
    PE ((cxOf CXg X.prog X.w X.K X.mg X.base Ng qg sg g cdg X.A X.stack s H Eg).tr pn xe) (.Call (.Name a p1) [] [] p2) fun σZ HZ Q => σZ[i]? = some (some (.ref f)) ∧ HZ c' = some (CodeO c' (lamName X)) ∧ tb (WE W σZ) σ HZ Q := by
  refine ⟨fun pinsZ sZ σZ HZ Q IZ ⟨hs, hc, ht⟩ => ?_⟩
  refine wpAny_Call_Name_kw (thn ((pe_var (pos := p1) (i := i) hN hv hd hcd).run pinsZ sZ σZ HZ (fun v H1 => v = .ref f ∧ H1 = HZ) IZ ⟨.ref f, hs, rfl, rfl⟩) fun u s1 ⟨v, H1, I1, r1, ev, eH⟩ => ?_)
  subst ev
  subst eH
  obtain rfl : u = Value.ref f := r1
  have of1 := I1.base.keep f _ hf hfn hfr (fun z => nomatch (show f ∈ ([] : List Addr) from z))
  refine PySem.W.callWith_F0 ⟨_, _, _, _, of1⟩ ?_
  obtain ⟨⟨oc, vs, t, hoc, hdc, hvc⟩, _, _⟩ := I1.hok c' _ hc
  refine wpAny_call (codeAny_mono (R := CR (L2.CX X.prog X.w) (envOfC qg sg s.heap.objs.size g cdg :: X.stack) X.prog X.w H1 s1 Q (WE W σZ)) ?run fun r s' hq => ?aft)
  case run =>
    show codeAny _ _ (.call (.ref f) ⟨[], []⟩) _ _
    refine PySem.W.kla_callFunE hr.depth of1 rfl L.co L.gen rfl ⟨c', oc, vs, t, rfl, hoc, hdc, hvc⟩ ?_
    rw [hbind]
    refine wpAny_pure (wpAny_newFunctionEnv (fun y hy => (L.own y hy).2) (fun y hy => absurd hy (by simp)) (fun h₁ hns hsb => ⟨I1.nolimit.fresh _ hsb, ?_⟩) L.kind)
    have J : L2.Inv (lamCx X (X.A.deeper (envOfC qg sg s.heap.objs.size g cdg)) (envOfC qg sg s.heap.objs.size g cdg :: X.stack) s1 H1 (WE W σZ) scope f c') [] σ H1 { s1 with heap := h₁, toks := s1.toks + ([] : List (Str × Value)).length } :=
      lam_start2 I L I1.env0 hr.hd I1.base hns fun b o e => hsb.extBut b o (Nat.ne_of_lt (Heap.lt_size e)) (Heap.get?_push_of_some _ e)
    refine PySem.W.kla_codeExpr (wpAny_mono ((hbody (WE W σZ) _ _ s1 H1 (hr.deeper _)).run [] _ _ H1 Q J ht) (fun v s' hq => ?_) fun e s' hq => hq)
    obtain ⟨w', H', J', rv, q⟩ := hq
    exact ⟨w', H', J'.os, J'.bare, J'.base, J'.hok, rv, q⟩
  case aft =>
    match r, hq with
    | .error e, hq => exact passAt tk σZ pinsZ H1 s1 e s' I1 hq
    | .ok (.ret u), hq => exact I1.after hq
end

/-- more is told -/
def MonoL (tl : XK → Hp → VK → Prop) : Prop := ∀ (E E' : XK) (H : Hp) (Q Q' : VK), tl E H Q → (∀ cls d H', E cls d H' → E' cls d H') → (∀ v H', Q v H' → Q' v H') → tl E' H Q'
/-- the def g calls what it gets as a and holds its errors; TT: what it makes of the lambda's reading -/
def Holds (X : Cx) (Ng : List Str) (x : Str) (sg : Scope) (g : Addr) (cdg : Value) (bg : List Stmt) (a q : Str) (k : Nat) (TT : (XK → Hp → VK → Prop) → Hp → VK → Prop) : Prop :=
  ∀ (f c' : Addr) (s : Shared) (H : Hp) (Q : VK) (tl : XK → Hp → VK → Prop), MonoL tl → Room (k + 1) (X.A.deeper (envOfC x sg s.heap.objs.size g cdg)) →
    (∀ (W : WX) (pn : List (Addr × Obj)) (xe : Value → Shared → Prop) (p1 p2 : Pos), Takes ((cxOf C8.CX0 X.prog X.w X.K X.mg X.base Ng x sg g cdg X.A X.stack s H C8.E0).tr pn xe) W →
      PE ((cxOf C8.CX0 X.prog X.w X.K X.mg X.base Ng x sg g cdg X.A X.stack s H C8.E0).tr pn xe) (.Call (.Name a p1) [] [] p2) fun σZ HZ Q => σZ[0]? = some (some (.ref f)) ∧ HZ c' = some (CodeO c' q) ∧ tl (WE W σZ) HZ Q) →
    H c' = some (CodeO c' q) → TT tl H Q →
    ∃ t, PSs (cxOf C8.CX0 X.prog X.w X.K X.mg X.base Ng x sg g cdg X.A X.stack s H C8.E0).nox bg t ∧ t { nx := fun _ H' => Q .non H', rt := Q } (L2.start Ng [.ref f]) H
section
variable {X : Cx}
/-- x(lambda: body) -/
theorem mi_lamcall {TT : (XK → Hp → VK → Prop) → Hp → VK → Prop} {x a : Str} {g c P : Addr} {k : Nat} {pg : Arguments} {bg : List Stmt} {sg : Scope} {dV kV doc pm cdv ct oc : Value} {an od : Option Addr} {osl : Array (Option Value)} {Ng : List Str}
    {params : Arguments} {body : Expr} {scope : Scope} {t : XK → TE} {p lpos pos : Pos} (hg : Gl X x) (hm : X.mg x = some (.ref g)) (hk : PySem.W.keepIn X.K (.ref g) = true) (lk : X.K.lookup g = some ⟨oc, od, .func (PySem.W.fnOf x x pg bg sg dV kV doc pm an cdv ct), osl⟩)
    (hcg : PySem.W.codeIn X.K cdv x = true) (hb : L2.Binds X.K (PySem.W.fnOf x x pg bg sg dV kV doc pm an cdv ct) [a] []) (Sg : FnScope Ng [a] sg) (hNg : Ng[0]? = some a) (hva : Vis sg a) (hG : Holds X Ng x sg g cdv bg a (lamName X) k TT)
    (TB : TabB X.base X.mg c P) (hcode : X.env.code = .ref c) (hr : Room (k + 2) X.A) (L : LamS X.env.scope scope) (hdef : defaultsOf params X.env = ([], []))
    (hbind : ∀ (q : Str) (cl : List (Str × Addr)) (pm cv ctv : Value), bindArgs (PySem.W.kla_fn "<lambda>" q params body scope cl pm cv ctv) ⟨[], []⟩ = pure [])
    (hbody : ∀ (E : XK) (A : Around) (outer : List PySem.Env) (s : Shared) (H : Hp) (f c' : Addr), Room k (A.deeper (lamEnv X scope s.heap.objs.size f c')) → PE (lamCx X A outer s H E scope f c') body (t E))
    (hmo : ∀ σ, MonoL fun E H Q => t E σ H Q) (hdb : (x == ("__debug__" : Str)) = false) (hd : (a == ("__debug__" : Str)) = false) (hcd : (a == ("__classdict__" : Str)) = false) :
    PE X (.Call (.Name x p) [.Lambda params body scope lpos] [] pos) fun σ H Q => ∃ ps : Array Value, H P = some (.tbl ps) ∧ Coded (lamName X) ps H ∧ ∀ H1 c', Made P (lamName X) ps H H1 c' → TT (fun E H' Q' => t E σ H' Q') H1 Q := by
  refine ⟨fun pins s σ H Q I ⟨ps, hP, hco, h⟩ => ?_⟩
  refine wpAny_Call_Name_kw (ld_glob I hg hm (PySem.W.callWith_K (h₀ := X.base) I.ok.mod.kin hk ?_ (by rfl) (by rfl)) hdb)
  show wpAny _ _ (spliced ((false, eval (.Lambda params body scope lpos) X.env) :: backTo pos (starEach [] X.env))) _ _ s
  refine Calls.spliced_cons (mi_lam I TB hcode hP hco hdef (L.has I.ok) fun f c' pm' ctv H1 s' I1 made hf hfn hfr => Calls.spliced_nil ⟨I1.kIn, ?_⟩)
  refine wpAny_call (codeAny_mono (R := CR C8.CX0 X.stack X.prog X.w H1 s' Q C8.E0) ?run fun r s2 hq => ?aft)
  case run =>
    refine run_ofS (N := Ng) (ps := [a]) (us := [.ref f]) (vs := [.ref f]) lk hcg Sg hr I1.env0 (hb s' [.ref f] I1.kIn rfl) (.cons rfl .nil) rfl fun hr' => ?_
    obtain ⟨t', ht', hq'⟩ := hG f c' s' H1 Q (fun E H' Q' => t E σ H' Q') (hmo σ) hr' (fun W pn xe p1 p2 tk => mi_act (i := 0) I1 L hf hfn hfr (hbind _ _ _ _ _) tk hr' (fun E A outer s H hr2 => hbody E A outer s H f c' hr2) hNg hva hd hcd) made.1 (h H1 c' made)
    exact ⟨t', ht'.nox, hq'⟩
  case aft =>
    match r, hq with
    | .error e, hq => exact (show False from hq).elim
    | .ok (.ret u), hq => exact I1.after hq
end
end Mi
end

section
set_option linter.all false
set_option maxRecDepth 100000
set_option Elab.async false
/-! MiZ: a def that is asked of the error that is held; the def that holds the errors of what it calls. -/
namespace Mi
open PySem L2 PyProof.Rows L2H LamX

/-- a def's promise by the error p that is held -/
structure FnX (P : Program) (w : World) (K : PySem.W.Frag) (mg : Str → Option Value) (base : Heap) (k : Nat) (f : Addr) (fd : FuncData) (ps : List Str) (sp : Addr × Obj → Sp) : Prop where
  len : ∀ p vs H Q E, sp p vs H Q E → vs.length = ps.length
  run : ∀ (A : Around) (outer : List PySem.Env) (s : Shared) (H : Hp) (args : Args) (us : List Value) (vs : List V) (Q : VK) (E : XK) (p : Addr × Obj), RoomH k A → (∃ vs : Array Value, p.2.data = .fields vs) → PinOk outer H s p → Env0 P w K mg base A outer s H →
    BindsTo s fd args (ps.zip us) → Vals vs us → sp p vs H Q E → codeAny (model P w) A (.call (.ref f) args) (CR (L2.CX P w) outer P w H s Q E) s
section
variable {P : Program} {w : World} {K : PySem.W.Frag} {mg : Str → Option Value} {base : Heap} {k : Nat} {f : Addr} {sp : Addr × Obj → Sp}
theorem FnX.of {x qual : Str} {st : Stmt} {fd : FuncData} {N ps : List Str} (F : Fun K x qual st f fd) (Sc : FnScope N ps (defScope st)) (len : ∀ p vs H Q E, sp p vs H Q E → vs.length = ps.length)
    (body : ∀ (cdv : Value) (A : Around) (outer : List PySem.Env) (s : Shared) (H : Hp) (vs : List V) (Q : VK) (E : XK) (p : Addr × Obj), (∃ vs : Array Value, p.2.data = .fields vs) → RoomH k (A.deeper (envOfC qual (defScope st) s.heap.objs.size f cdv)) → sp p vs H Q E →
      ∃ t, PSs (cxH (L2.CX P w) P w K mg base N qual (defScope st) f cdv A outer s H E p) (defBody st) t ∧ t { nx := fun _ H' => Q .non H', rt := Q } (L2.start N vs) H) : FnX P w K mg base (k + 1) f fd ps sp := by
  obtain ⟨oc, od, kV, doc, pm, an, cdv, ct, osl, rfl, lk, hcd⟩ := F.ex
  refine ⟨len, fun A outer s H args us vs Q E p hr hot hpin e0 hb r hsp => ?_⟩
  have hlen := len _ _ _ _ _ hsp
  have inK : K.In s.heap := e0.mod.kin.keeps (fun b o e => (e0.bs b o e).1)
  have nl : s.heap.NoLimit := e0.mod.nolimit.keeps (fun b o e => (e0.bs b o e).1)
  refine codeAny_call_function hr.depth (inK _ _ lk) rfl Sc.co Sc.gen rfl (PySem.W.codeRec_of inK hcd) (hb _ _ _ _ (wpAny_newFunctionEnv_cells Sc.kind (fun ⟨n, v⟩ hy => (Sc.par n (List.of_mem_zip hy).1).elim .inl fun q => .inr ⟨q, PySem.W.cellsFrom_some _ _ _ (.inl q)⟩) (fun env he s1 xc => ?_)))
  subst he
  refine ⟨nl.keeps xc.toInCall.keep, codeAny_func ?_⟩
  obtain ⟨t, ht, hq⟩ := body cdv A outer s H vs Q E p hot (hr.deeper _) hsp
  have I : L2.Inv (cxH (L2.CX P w) P w K mg base N qual (defScope st) f cdv A outer s H E p) [] (L2.start N vs) H s1 := inv_startH Sc hpin e0 hlen r xc
  refine wpAny_mono (ht.run [] s1 (L2.start N vs) H _ I hq) ?_ (fun e s' hs => hs)
  intro fl s' hs
  match fl, hs with
  | .ret u, ⟨v, σ', H', J, rv, q⟩ => exact ⟨v, H', J.os, J.bare, J.base, J.hok, rv, q⟩
  | .next, ⟨σ', H', J, q⟩ => exact ⟨.non, H', J.os, J.bare, J.base, J.hok, rfl, q⟩
  | .brk, ⟨_, _, _, q⟩ => exact q.elim
  | .cont, ⟨_, _, _, q⟩ => exact q.elim
end
section
variable {X : Cx} {k : Nat} {f : Addr} {fd : FuncData} {ps : List Str} {sp : Addr × Obj → Sp} {x : Str} {q pos : Pos} {e : Expr} {es : List Expr} {t : TA} {p : Addr × Obj}
/-- its call where p is pinned; nothing is raised -/
theorem pe_askX (F : FnX X.prog X.w X.K X.mg X.base k f fd ps sp) (hr : RoomH k X.A) (hot : ∃ vs : Array Value, p.2.data = .fields vs) (hp : p ∈ X.pn) (hg : Gl X x) (hm : X.mg x = some (.ref f)) (hk : PySem.W.keepIn X.K (.ref f) = true) (hb : Binds X.K fd ps []) (ha : PA X (e :: es) t)
    (hdb : (x == ("__debug__" : Str)) = false) (he : starEach (e :: es) X.env = (false, eval e X.env) :: starEach es X.env) (hpl : (backTo pos (starEach es X.env)).any (·.1) = false) :
    PE X (.Call (.Name x q) (e :: es) [] pos) (fun σ H Q => t σ H fun vs H1 => sp p vs H1 Q fun _ _ _ => False) := by
  refine ⟨fun pins s σ H Q I h => wpAny_Call_Name_kw (ld_glob I hg hm (PySem.W.callWith_K (h₀ := X.base) I.ok.mod.kin hk (thn (ha.run pos pins s σ H _ I h) fun us s1 ⟨vs, H1, I1, r, h1⟩ => ⟨I1.kIn, ?_⟩) he hpl) hdb)⟩
  have hl : us.length = ps.length := by rw [← r.length]; exact F.len _ _ _ _ _ h1
  have b := hb s1 us I1.kIn (by rw [List.append_nil]; exact hl)
  rw [List.append_nil] at b
  have P1 := I1.pin p (List.mem_append_left _ hp)
  have hpin : PinOk X.stack H1 s1 p := ⟨P1.1, P1.2.1, fun hm => (List.mem_cons.mp (I1.stkSub p.1 hm)).elim P1.2.2.1 P1.2.2.2.1, P1.2.2.2.2⟩
  refine wpAny_call (codeAny_mono (F.run X.A X.stack s1 H1 ⟨us, []⟩ us vs Q (fun _ _ _ => False) p hr hot hpin I1.env0 b r h1) fun res s' hq => ?_)
  match res, hq with
  | .error e, ⟨_, _, _, _, _, _, _, _, _, _, _, _, z⟩ => exact z.elim
  | .ok (.ret u), hq => exact I1.after hq
end

/-- said(ask): found = ('odd',); try: found = ('told', ask()) / except er as e: found = rf(e); return found -/
def TTsaid (K : PySem.W.Frag) (CS : Addr) (sp : Addr × Obj → Sp) (odd told : Str) : (XK → Hp → VK → Prop) → Hp → VK → Prop := fun tl H Q => ∀ p1, H p1 = none →
  tl (fun cls d H' => ∃ b, PySem.W.exmOne K cls (.ref CS) = some b ∧ (b = true → ∀ a, H' a = none → ∀ oe, Zc cls d oe → ∀ Q' : VK, (∀ v H2, Q v H2 → Q' v H2) → sp (a, oe) [.ref a] H' Q' fun _ _ _ => False) ∧ (b = false → False)) (upd H p1 (.tup [.str odd]))
    fun v H1 => ∀ p, H1 p = none → Q (.ref p) (upd H1 p (.tup [.str told, v]))
def saidB (bg : List Stmt) (a fnd e er rfn odd told : Str) : Prop := ∃ (p1 p2 p3 p4 p5 p6 p7 p8 p9 p10 p11 p12 p13 p14 p15 p16 p17 : Pos) (j1 j2 j3 j4 : Nat),
  bg = [.Assign [.Name fnd p1] (.Tuple [.Constant (.str odd) j1 p2] j2 p3) p4,
    .Try [.Assign [.Name fnd p5] (.Tuple [.Constant (.str told) j3 p6, .Call (.Name a p7) [] [] p8] j4 p9) p10] [.ExceptHandler (some (.Name er p11)) (some e) [.Assign [.Name fnd p12] (.Call (.Name rfn p13) [.Name e p14] [] p15) p16] p17] [] [] p1,
    .Return (some (.Name fnd p2)) p3]
section
variable {X : Cx} {x a fnd e er rfn odd told q : Str} {sg : Scope} {g CS frf : Addr} {cdg : Value} {k : Nat} {fd : FuncData} {ps : List Str} {sp : Addr × Obj → Sp}
theorem said_holds {p1 p2 p3 p4 p5 p6 p7 p8 p9 p10 p11 p12 p13 p14 p15 p16 p17 p18 p19 p20 : Pos} {j1 j2 j3 j4 : Nat} (nd : [a, fnd, e].Nodup) (va : Vis sg a) (vf : sg.names.lookup fnd = some .local) (ve : sg.names.lookup e = some .local)
    (hge : sg.names.lookup er = some .globalImplicit) (hme : X.mg er = some (.ref CS)) (hgr : sg.names.lookup rfn = some .globalImplicit) (hmr : X.mg rfn = some (.ref frf)) (hkr : PySem.W.keepIn X.K (.ref frf) = true) (hbr : Binds X.K fd ps [])
    (F : FnX X.prog X.w X.K X.mg X.base 1 frf fd ps sp) (d1 : (er == ("__debug__" : Str)) = false) (d2 : (rfn == ("__debug__" : Str)) = false) (d3 : (fnd == ("__debug__" : Str)) = false) (d4 : (fnd == ("__classdict__" : Str)) = false) (d5 : (e == ("__debug__" : Str)) = false) (d6 : (e == ("__classdict__" : Str)) = false) :
    Holds X [a, fnd, e] x sg g cdg [.Assign [.Name fnd p1] (.Tuple [.Constant (.str odd) j1 p2] j2 p3) p4,
      .Try [.Assign [.Name fnd p5] (.Tuple [.Constant (.str told) j3 p6, .Call (.Name a p7) [] [] p8] j4 p9) p10] [.ExceptHandler (some (.Name er p11)) (some e) [.Assign [.Name fnd p12] (.Call (.Name rfn p13) [.Name e p14] [] p15) p16] p17] [] [] p18,
      .Return (some (.Name fnd p19)) p20] a q k (TTsaid X.K CS sp odd told) := by
  intro f c' s H Q tl mono hr act hc h
  have hN : ([a, fnd, e] : List Str).Nodup := nd
  have i1 : ([a, fnd, e] : List Str)[1]? = some fnd := rfl
  have i2 : ([a, fnd, e] : List Str)[2]? = some e := rfl
  have s1 := ps_set (X := (cxOf C8.CX0 X.prog X.w X.K X.mg X.base [a, fnd, e] x sg g cdg X.A X.stack s H C8.E0).nox) (pos := p4) (pos' := p1) (x := fnd) hN i1 (.inl vf) (pe_tup (pos := p3) (x1 := j2) (pa_cons (pe_str (x := odd) (j := j1) (pos := p2)) pa_nil rfl)) rfl (.inl rfl)
  have s3 := ps_ret (X := (cxOf C8.CX0 X.prog X.w X.K X.mg X.base [a, fnd, e] x sg g cdg X.A X.stack s H C8.E0).nox) (pos := p20) (pe_var (pos := p19) (i := 1) (x := fnd) i1 (.inl vf) d3 d4)
  have s2 := ps_try_as (X := (cxOf C8.CX0 X.prog X.w X.K X.mg X.base [a, fnd, e] x sg g cdg X.A X.stack s H C8.E0).nox) (x := er) (n := e) (c := .ref CS) (i := 2) (np := p11) (pos := p18) (pos' := p17) (Wout := fun _ _ _ _ => False)
    (body := [.Assign [.Name fnd p5] (.Tuple [.Constant (.str told) j3 p6, .Call (.Name a p7) [] [] p8] j4 p9) p10]) (b₀ := .Assign [.Name fnd p12] (.Call (.Name rfn p13) [.Name e p14] [] p15) p16) (suite := [])
    (ts := fun ad cls d => fun D σ H => ∀ oe, Zc cls d oe → σ[2]? = some (some (.ref ad)) ∧ sp (ad, oe) [.ref ad] H (fun v H' => D.nx (σ.set 1 (some v)) H') fun _ _ _ => False)
    (tb := fun W => tAsg (tTup (tCons (tC (.str told)) (tCons (fun σZ HZ Q => σZ[0]? = some (some (V.ref f)) ∧ HZ c' = some (CodeO c' q) ∧ tl (WE W σZ) HZ Q) tNil))) (gName 1))
    rfl rfl hN i2 ve ⟨hge, d1, .inl hme⟩ LamX.takes0
    (fun W pn xe tk _ => pss_one (ps_set hN i1 (.inl vf) (pe_tup (pa_cons pe_str (pa_cons (act W pn xe p7 p8 tk) pa_nil rfl) rfl)) rfl (.inl rfl)))
    (fun ad oe cls d pn hz hf => pss_one (PS.imp (ps_set hN i1 (.inl vf) (pe_askX F (roomH_mark (hr.mono (by omega)) _) hf (List.mem_cons_self) hgr hmr hkr hbr (pa_cons (pe_var i2 (.inl ve) d5 d6) pa_nil rfl) d2 rfl rfl) rfl (.inl rfl))
      fun D σ H w => by
        obtain ⟨z1, z2⟩ := w oe hz
        exact ⟨.ref ad, z1, z2⟩))
  refine ⟨_, pss_cons s1 (pss_cons s2 (pss_one s3)), ?_⟩
  have one : ([V.str odd] : List V).length ≤ sizeLine := by rw [sizeLine_eq]; simp
  refine ⟨one, fun p1 hp1 => ⟨rfl, ?_, mono _ _ _ _ _ (h p1 hp1) ?er ?ok⟩⟩
  · rw [upd_ne (ne_of_none hc hp1)]; exact hc
  case er =>
    rintro cls d H' ⟨b, z1, z2, z3⟩
    exact ⟨b, z1, fun hb ad hn oe hz => ⟨rfl, z2 hb ad hn oe hz _ fun v H2 q => ⟨v, rfl, q⟩⟩, z3⟩
  case ok =>
    intro v H' q
    have two : ([V.str told, v] : List V).length ≤ sizeLine := by rw [sizeLine_eq]; simp
    exact ⟨two, fun p hp => ⟨_, rfl, q p hp⟩⟩
end
end Mi
end

section
set_option linter.all false
set_option maxRecDepth 100000
set_option Elab.async false
/-! MiW: said(lambda: e) in the short programs. -/
namespace Mi
open PySem L2 PyProof.Rows L2H LamX

theorem isTab_some {S : Sto} {k : Nat} (h : isTab S k = true) : S[k]? = some (.tab k) := by
  unfold isTab at h
  split at h
  · rename_i j e
    rw [of_decide_eq_true h] at e
    exact e
  · cases h
/-- what the def that holds errors is known by -/
structure SaidOk (P : Program) (w : World) (K : PySem.W.Frag) (mg : Str → Option Value) (base : Heap) (Γ : Wd) (rf : Exc → Sto → Mo D) (x : Str) : Prop where
  ex : ∃ (a fnd e er rfn odd : Str) (sg : Scope) (g CS frf : Addr) (fd : FuncData) (ps : List Str) (sp : Addr × Obj → Sp) (pg : Arguments) (dV kV doc pm cdv ct oc : Value) (an od : Option Addr) (osl : Array (Option Value)) (bg : List Stmt),
    (∃ (p1 p2 p3 p4 p5 p6 p7 p8 p9 p10 p11 p12 p13 p14 p15 p16 p17 p18 p19 p20 : Pos) (j1 j2 j3 j4 : Nat), bg = [.Assign [.Name fnd p1] (.Tuple [.Constant (.str odd) j1 p2] j2 p3) p4,
      .Try [.Assign [.Name fnd p5] (.Tuple [.Constant (.str "told") j3 p6, .Call (.Name a p7) [] [] p8] j4 p9) p10] [.ExceptHandler (some (.Name er p11)) (some e) [.Assign [.Name fnd p12] (.Call (.Name rfn p13) [.Name e p14] [] p15) p16] p17] [] [] p18,
      .Return (some (.Name fnd p19)) p20]) ∧
    (mg x = some (.ref g) ∧ PySem.W.keepIn K (.ref g) = true ∧ K.lookup g = some ⟨oc, od, .func (PySem.W.fnOf x x pg bg sg dV kV doc pm an cdv ct), osl⟩ ∧ PySem.W.codeIn K cdv x = true ∧ L2.Binds K (PySem.W.fnOf x x pg bg sg dV kV doc pm an cdv ct) [a] [] ∧ FnScope [a, fnd, e] [a] sg) ∧
    ([a, fnd, e].Nodup ∧ Vis sg a ∧ sg.names.lookup fnd = some .local ∧ sg.names.lookup e = some .local ∧ sg.names.lookup er = some .globalImplicit ∧ mg er = some (.ref CS) ∧ sg.names.lookup rfn = some .globalImplicit ∧ mg rfn = some (.ref frf) ∧ PySem.W.keepIn K (.ref frf) = true ∧ Binds K fd ps []) ∧
    FnX P w K mg base 1 frf fd ps sp ∧
    ((er == ("__debug__" : Str)) = false ∧ (rfn == ("__debug__" : Str)) = false ∧ (fnd == ("__debug__" : Str)) = false ∧ (fnd == ("__classdict__" : Str)) = false ∧ (e == ("__debug__" : Str)) = false ∧ (e == ("__classdict__" : Str)) = false ∧ (a == ("__debug__" : Str)) = false ∧ (a == ("__classdict__" : Str)) = false ∧ (x == ("__debug__" : Str)) = false) ∧
    (∀ (c : Exc) (S S' : Sto) (d : D), rf c S = some (.ok d S') → PySem.W.exmOne K (.ref (Γ.ca c.c)) (.ref CS) = some true) ∧
    ∀ (c : Exc) (S S' : Sto) (d : D) (μ : List Addr) (F H : Hp) (ad dd : Addr) (oe : Obj) (ws : List (Str × V)), rf c S = some (.ok d S') → Sok Γ μ S F H → F dd = some (.xd ws) → RepF Γ μ F ws c.fs → Zc (.ref (Γ.ca c.c)) (some dd) oe → ∀ (Q : VK) (E : XK),
      (∀ μ' F' H' v, Kp Γ ⟨μ, F, H⟩ μ' S' F' H' → Rep Γ μ' F' v d → Q v H') → sp (ad, oe) [.ref ad] H Q E

section
variable {B : At} {X : Cx} {m : Env → Sto → Mo D}
theorem tE_mono (Γ : Wd) (E0 : En) (m : Env → Sto → Mo D) (σ : L2.St) : MonoL fun E H Q => tE ⟨Γ, E0, fun cls d _ H => E cls d H⟩ m σ H Q := by
  rintro E E' H Q Q' ⟨μ, S, F, ρ, r, g⟩ hE hQ
  refine ⟨μ, S, F, ρ, r, ?_⟩
  revert g
  match m ρ S with
  | none => exact id
  | some (.ok d S') => exact fun g μ' F' H' k v rv => hQ v H' (g μ' F' H' k v rv)
  | some (.ex x S') => exact fun g μ' F' H' cls dc k rx => hE cls dc H' (g μ' F' H' cls dc k rx)
theorem s_said {rf : Exc → Sto → Mo D} {x : Str} {k kk : Nat} {c : Addr} {params : Arguments} {body : Expr} {scope : Scope} {p lpos pos : Pos} (SO : SaidOk X.prog X.w X.K X.mg X.base B.Γ rf x) (hg : Gl X x) (TB : TabB X.base X.mg c (B.Γ.ta k)) (hcode : X.env.code = .ref c) (hq : lamName X = B.Γ.tq k)
    (hr : Room (kk + 2) X.A) (L : LamS X.env.scope scope) (hdef : defaultsOf params X.env = ([], [])) (hbind : ∀ (q : Str) (cl : List (Str × Addr)) (pm cv ctv : Value), bindArgs (PySem.W.kla_fn "<lambda>" q params body scope cl pm cv ctv) ⟨[], []⟩ = pure [])
    (hbody : ∀ (E : XK) (A : Around) (outer : List PySem.Env) (s : Shared) (H : Hp) (f c' : Addr), Room kk (A.deeper (lamEnv X scope s.heap.objs.size f c')) → PE (lamCx X A outer s H E scope f c') body (tE ⟨B.Γ, B.E, fun cls d _ H => E cls d H⟩ m)) :
    PE X (.Call (.Name x p) [.Lambda params body scope lpos] [] pos) (tE B fun ρ S => if isTab S k = true then saidM rf (m ρ S) else none) := by
  obtain ⟨a, fnd, e, er, rfn, odd, sg, g, CS, frf, fd, ps, sp, pg, dV, kV, doc, pm, cdv, ct, oc, an, od, osl, bg, ⟨p1, p2, p3, p4, p5, p6, p7, p8, p9, p10, p11, p12, p13, p14, p15, p16, p17, p18, p19, p20, j1, j2, j3, j4, rfl⟩,
    ⟨f1, f2, f3, f4, f5, f6⟩, ⟨g1, g2, g3, g4, g5, g6, g7, g8, g9, g10⟩, FX, ⟨e1, e2, e3, e4, e5, e6, e7, e8, e9⟩, hex, hask⟩ := SO
  refine (mi_lamcall (k := kk) (t := fun E => tE ⟨B.Γ, B.E, fun cls d _ H => E cls d H⟩ m) hg f1 f2 f3 f4 f5 f6 rfl g2 (said_holds g1 g2 g3 g4 g5 g6 g7 g8 g9 g10 FX e1 e2 e3 e4 e5 e6) TB hcode hr L hdef hbind hbody (tE_mono _ _ _) e9 e7 e8).imp fun σ H Q ⟨μ, S, F, ρ, r, gg⟩ => ?_
  cases ht : isTab S k with
  | false => simp only [ht, Bool.false_eq_true, if_false] at gg; exact gg.elim
  | true =>
    simp only [ht, if_true] at gg
    have hS := isTab_some ht
    have hlt : k < μ.length := by rw [← r.toSok.len]; exact (List.getElem?_eq_some_iff.mp hS).1
    have hμ : μ[k]? = some μ[k] := List.getElem?_eq_getElem hlt
    obtain ⟨q0, qs, q1, q2, q3⟩ := r.toSok.obj k _ _ hμ hS
    rw [q0] at hμ q1
    refine ⟨qs, q1, ⟨q2, fun pos cv hc => ?_⟩, fun H1 c' made po hpo => ?_⟩
    · obtain ⟨c0, z1, z2⟩ := q3 pos cv hc
      exact ⟨c0, z1, by rw [hq]; exact r.toSok.le _ _ z2⟩
    -- what has been laid so far
    obtain ⟨F1, k1⟩ : ∃ F1, Kp B.Γ ⟨μ, F, H⟩ μ S F1 H1 := by
      obtain ⟨m1, m2⟩ := made
      rcases m2 with m2 | ⟨hn, more, m3, m4, m5⟩
      · subst m2; exact ⟨F, r.toSok.enter⟩
      · rw [hq] at m3
        subst m3
        exact ⟨_, r.toSok.enter.table hμ hS q1 hn m4 m5⟩
    obtain ⟨o1, o2, o3⟩ := k1.toSok.enter.fresh hpo
    have k2 : Kp B.Γ ⟨μ, F, H⟩ μ S F1 (upd H1 po (.tup [.str odd])) := k1.trans (k1.toSok.enter.mine o1 o2 o3)
    refine ⟨μ, S, F1, ρ, r.step k2, ?_⟩
    revert gg
    match m ρ S with
    | none => exact fun gg => gg.elim
    | some (.ok d S') =>
      intro gg μ' F' H' k3 v rv p hp
      have gg : ∀ μ' F' H', Kp B.Γ ⟨μ, F, H⟩ μ' S' F' H' → ∀ v, Rep B.Γ μ' F' v (.tup [.str "told", d]) → Q v H' := gg
      have k4 := (k2.trans k3).new (o := .tup [.str "told", v]) hp
      exact gg μ' _ _ k4 _ (.tup (SqT.of upd_same) (.cons (.str _) (.cons (rv.gr (k3.toSok.enter.new hp).gr) .nil)))
    | some (.ex y S') =>
      intro gg μ' F' H' cls dc k3 rx
      obtain ⟨hcls, dd, ws, hdc, hdd, hws⟩ := rx
      subst hcls
      subst hdc
      have gg : Go B σ μ F H (match rf y S' with
        | some (.ok d S') => some (.ok d S')
        | _ => none) fun d x μ' F' H' => ∀ v, Rep B.Γ μ' F' v d → Q v H' := gg
      match hrf : rf y S' with
      | none => rw [hrf] at gg; exact gg.elim
      | some (.ex _ _) => rw [hrf] at gg; exact gg.elim
      | some (.ok d S'') =>
        rw [hrf] at gg
        refine ⟨true, hex y S' S'' d hrf, fun _ ad _ oe hz Q' hQ' => hask y S' S'' d μ' F' H' ad dd oe ws hrf k3.toSok hdd hws hz Q' _ fun μ2 F2 H2 v k4 rv => hQ' v H2 ?_, fun z => nomatch z⟩
        exact gg μ2 F2 H2 ((k2.trans k3).trans k4) v rv
end
end Mi
end

section
set_option linter.all false
set_option maxRecDepth 100000
set_option Elab.async false
/-! Mi14: a program's text is what the short program says: expressions. -/
namespace Mi
open PySem L2

structure Gt where
  rp : Bool
  hot : Bool
  fns : List (Str × Nat × Nat)
  gcs : List (Str × Nat)
  exs : List (Str × Nat × Str × Str)
  kws : List (Str × Nat × List Str × List Nat)
  cls : List (Str × Nat) := []
  flds : List Str := []
  lam : Option (Str × Nat) := none
  /-- defs that are called where no repr is under way -/
  rfns : List (Str × Nat × Nat) := []
def Gt.low (g : Gt) : Gt := { g with rp := false, lam := none }
structure Sc where
  N : List Str
  nms : List (Str × NameKind)
  all : Bool
def Sc.vis (sc : Sc) (x : Str) (i : Nat) : Bool := decide (sc.N[i]? = some x) && (match sc.nms.lookup x with | some .local => true | some .cell => true | some .free => true | _ => false) && !(x == ("__debug__" : Str)) && !(x == ("__classdict__" : Str))
def Sc.tgt (sc : Sc) (x : Str) (i : Nat) : Bool := decide (sc.N[i]? = some x) && (match sc.nms.lookup x with | some .local => true | some .cell => sc.all | _ => false)
def Sc.gl (sc : Sc) (x : Str) : Bool := (match sc.nms.lookup x with | some .globalImplicit => true | _ => false) && !(x == ("__debug__" : Str))
def relN (nms outer : List (Str × NameKind)) : List (Str × NameKind) := nms.map fun (n, k) => if (k == .free && true && outer.lookup n == some .cell) then (n, .cell) else (n, k)
def Sc.blk (sc : Sc) (scope : Scope) : Sc := { N := sc.N, nms := relN scope.names sc.nms, all := false }

def noStar : Expr → Bool
  | .Starred _ _ => false
  | _ => true
def noSlice : Expr → Bool
  | .Slice _ _ _ _ => false
  | _ => true
def noSet : Expr → Bool
  | .Set _ _ _ => false
  | _ => true
def plainT : Expr → Bool
  | .UnaryOp .Not _ _ => false
  | .BoolOp _ _ _ => false
  | .IfExp _ _ _ _ => false
  | .Compare _ _ _ _ => false
  | _ => true
def isBop : Bop → Operator → Bool
  | .add, .Add => true | .sub, .Sub => true | .mul, .Mult => true | .fdiv, .FloorDiv => true | .mod, .Mod => true | .pow, .Pow => true
  | _, _ => false
def isCop : Cop → CmpOp → Bool
  | .eq, .Eq => true | .ne, .NotEq => true | .lt, .Lt => true | .le, .LtE => true | .gt, .Gt => true | .ge, .GtE => true | .inn, .In => true | .nin, .NotIn => true
  | _, _ => false
def isConj : Bool → BoolOp → Bool
  | true, .And => true | false, .Or => true
  | _, _ => false
theorem isCop_eq {o : Cop} {p : CmpOp} (h : isCop o p = true) : p = cmpOp o := by cases o <;> cases p <;> first | rfl | cases h
def ckCst : D → Expr → Bool
  | .non, .Constant .none _ _ => true
  | .bl b, .Constant (.bool c) _ _ => b == c
  | .int i, .Constant (.int j) _ _ => decide (i = j)
  | .str x, .Constant (.str y) _ _ => decide (x = y)
  | _, _ => false
def bltOf : Blt → Option Str
  | .len => some "len" | .tuple => some "tuple" | .list => some "list" | .all => some "all" | .any => some "any" | .int => some "int" | .sorted => some "sorted" | .repr => some "repr" | .str => some "str"
def ckKeys : List Str → List (Option Expr) → Bool
  | [], [] => true
  | k :: ks, some (.Constant (.str x) _ _) :: es => decide (k = x) && ckKeys ks es
  | _, _ => false
/-- a new list comes out -/
def newC : CE → Bool
  | .lst _ | .cat _ _ | .comp _ _ _ _ | .blt .list _ | .blt .sorted _ | .sset _ => true
  | _ => false

def ckTg (sc : Sc) : Tg → Expr → Bool
  | .nm i, .Name x _ => sc.tgt x i
  | .tp is, .Tuple es _ _ => go is es
  | _, _ => false
where go : List Nat → List Expr → Bool
  | [], [] => true
  | i :: is, .Name x _ :: es => sc.tgt x i && go is es
  | _, _ => false
/-- the block's own names with their slots -/
def ownOf (sc : Sc) (t : Tg) : List (Str × Nat) := t.vs.map fun i => ((sc.N[i]?).getD "", i)

mutual
def ckE (g : Gt) : CE → Bool → Sc → Expr → Bool
  | .cst d, _, _, e => ckCst d e
  | .var i, _, sc, e => match e with
    | .Name x _ => sc.vis x i
    | _ => false
  | .pk i, rd, sc, e => match e with
    | .Name x _ => rd && sc.vis x i
    | _ => false
  | .fn _, _, _, _ => false
  | .gc n, _, sc, e => match e with
    | .Name x _ => sc.gl x && decide ((x, n) ∈ g.gcs)
    | _ => false
  | .tup es, _, sc, e => match e with
    | .Tuple xs _ _ => ckEs g es sc xs
    | _ => false
  | .lst es, _, sc, e => match e with
    | .List xs _ => ckEs g es sc xs
    | _ => false
  | .bin o a b, _, sc, e => match e with
    | .BinOp x op y _ => isBop o op && ckE g a true sc x && ckE g b true sc y
    | _ => false
  | .cat a b, _, sc, e => match e with
    | .BinOp x op y _ => isBop .add op && ckE g a true sc x && ckE g b true sc y
    | _ => false
  | .neg a, _, sc, e => match e with
    | .UnaryOp .USub x _ => ckE g a true sc x
    | _ => false
  | .cmp o a b, _, sc, e => match e with
    | .Compare x [op] [y] _ => isCop o op && noSet y && ckE g a true sc x && ckE g b true sc y
    | _ => false
  | .cmp2 o o' a b c, _, sc, e => match e with
    | .Compare x [op, op'] [y, z] _ => isCop o op && isCop o' op' && noSet z && ckE g a true sc x && ckE g b true sc y && ckE g c true sc z
    | _ => false
  | .isN false a, _, sc, e => match e with
    | .Compare x [.Is] [.Constant .none _ _] _ => ckE g a true sc x
    | _ => false
  | .isN true a, _, sc, e => match e with
    | .Compare x [.IsNot] [.Constant .none _ _] _ => ckE g a true sc x
    | _ => false
  | .isB c a, _, sc, e => match e with
    | .Compare x [.Is] [.Constant (.bool b) _ _] _ => decide (b = c) && ckE g a true sc x
    | _ => false
  | .bool conj es, _, sc, e => match e with
    | .BoolOp op xs _ => isConj conj op && !xs.isEmpty && ckWs g es sc xs
    | _ => false
  | .not a, _, sc, e => match e with
    | .UnaryOp .Not x _ => ckE g a true sc x
    | _ => false
  | .ite t a b, _, sc, e => match e with
    | .IfExp c x y _ => ckT g t sc c && ckE g a false sc x && ckE g b false sc y
    | _ => false
  | .idx a i, _, sc, e => match e with
    | .Subscript x y _ => noSlice y && ckE g a true sc x && ckE g i true sc y
    | _ => false
  | .slc a lo hi, _, sc, e => match e with
    | .Subscript x (.Slice l h none _) _ => ckE g a true sc x && ckO g lo sc l && ckO g hi sc h
    | _ => false
  | .rev a, _, sc, e => match e with
    | .Subscript x (.Slice none none (some (.UnaryOp .USub (.Constant (.int 1) _ _) _)) _) _ => ckE g a true sc x
    | _ => false
  | .call f es, _, sc, e => match e with
    | .Call (.Name x _) xs [] _ => !g.hot && (sc.gl x && (decide ((x, f, xs.length) ∈ g.fns) || (g.rp && decide ((x, f, xs.length) ∈ g.rfns))) && ckEs g es sc xs)
    | _ => false
  | .callK f ks is es, _, sc, e => match e with
    | .Call (.Name x _) [] kws _ => !g.hot && (sc.gl x && decide ((x, f, ks, is) ∈ g.kws) && ckKw g es sc ks kws)
    | _ => false
  | .blt b a, _, sc, e => match e with
    | .Call (.Name x _) [y] [] _ => decide (bltOf b = some x) && sc.gl x && noStar y && ckE g a true sc y && (match b with | .repr => g.rp | .all => !g.hot | .any => !g.hot | _ => true)
    | _ => false
  | .sset a, _, sc, e => match e with
    | .Call (.Name x _) [.Call (.Name z _) [y] [] _] [] _ => !g.hot && (decide (x = "sorted") && sc.gl x && decide (z = "set") && sc.gl z && noStar y && ckE g a true sc y)
    | _ => false
  | .said k a, _, sc, e => match e with
    | .Call (.Name x _) [.Lambda ⟨[], [], none, [], [], none, []⟩ body scope _] [] _ => !g.hot && (decide (g.lam = some (x, k)) && sc.all && sc.gl x && LamX.lamSB { scope with names := sc.nms } scope && ckE g.low a false ⟨sc.N, scope.names, false⟩ body)
    | _ => false
  | .isa a t, _, sc, e => match e with
    | .Call (.Name x _) [y, .Name z _] [] _ => decide (x = "isinstance") && sc.gl x && decide (z = Str.ofString (ityS t)) && sc.gl z && noStar y && ckE g a true sc y
    | _ => false
  | .comp el t it ifs, _, sc, e => match e with
    | .ListComp x [⟨tg, iter, cs, 0⟩] scope _ => !g.hot && (ckI g it false sc tg iter && noSet iter && blkC sc.N { scope with names := sc.nms } scope (ownOf sc t)
      && ckTg (sc.blk scope) t tg && ckTs g ifs (sc.blk scope) cs && ckE g el false (sc.blk scope) x)
    | _ => false
  | .cnt i a, _, sc, e => match e with
    | .Call (.Attribute (.Name x _) m ap) [y] [] cp => decide (m = "count") && sc.vis x i && noStar y && ap.endLine == cp.line && ckE g a false sc y
    | _ => false
  | .isaC a k, _, sc, e => match e with
    | .Call (.Name x _) [y, .Name z _] [] _ => g.hot && decide (x = "isinstance") && sc.gl x && decide ((z, k) ∈ g.cls) && sc.gl z && noStar y && ckE g a false sc y
    | _ => false
  | .fld a f, _, sc, e => match e with
    | .Attribute (.Name x p) f' _ => g.hot && (decide (f = f') && decide (f ∈ g.flds)) && ckE g a false sc (.Name x p)
    | _ => false
  | .dget a k, _, sc, e => match e with
    | .Subscript x (.Constant (.str k') _ _) _ => decide (k = k') && ckE g a false sc x
    | _ => false
  | .dct ks es, _, sc, e => match e with
    | .Dict keys vals _ => ckKeys ks keys && ckEs g es sc vals && decide (keys.length = vals.length) && !keys.isEmpty && decide (keys.length ≤ 15)
    | _ => false
def ckWs (g : Gt) : CEs → Sc → List Expr → Bool
  | .nil, _, xs => xs.isEmpty
  | .cons e es, sc, xs => match xs with
    | x :: xs => ckE g e true sc x && ckWs g es sc xs
    | _ => false
def ckEs (g : Gt) : CEs → Sc → List Expr → Bool
  | .nil, _, xs => xs.isEmpty
  | .cons e es, sc, xs => match xs with
    | x :: xs => noStar x && ckE g e false sc x && ckEs g es sc xs
    | _ => false
def ckKw (g : Gt) : CEs → Sc → List Str → List Keyword → Bool
  | .nil, _, ks, kws => ks.isEmpty && kws.isEmpty
  | .cons e es, sc, ks, kws => match ks, kws with
    | k :: ks, ⟨some n, x, _⟩ :: kws => decide (k = n) && ckE g e false sc x && ckKw g es sc ks kws
    | _, _ => false
def ckT (g : Gt) : CT → Sc → Expr → Bool
  | .val (.cmp o a b), sc, e => match e with
    | .Compare x [op] [y] _ => isCop o op && noSet y && ckE g a true sc x && ckE g b true sc y
    | _ => false
  | .val (.cmp2 o o' a b c), sc, e => match e with
    | .Compare x [op, op'] [y, z] _ => isCop o op && isCop o' op' && noSet z && ckE g a true sc x && ckE g b true sc y && ckE g c true sc z
    | _ => false
  | .val (.isN false a), sc, e => match e with
    | .Compare x [.Is] [.Constant .none _ _] _ => ckE g a true sc x
    | _ => false
  | .val (.isN true a), sc, e => match e with
    | .Compare x [.IsNot] [.Constant .none _ _] _ => ckE g a true sc x
    | _ => false
  | .val e, sc, x => plainT x && ckE g e true sc x
  | .bool conj ts, sc, e => match e with
    | .BoolOp op xs _ => isConj conj op && !xs.isEmpty && ckB g ts sc xs
    | _ => false
  | .not t, sc, e => match e with
    | .UnaryOp .Not x _ => ckT g t sc x
    | _ => false
def ckB (g : Gt) : CTs → Sc → List Expr → Bool
  | .nil, _, xs => xs.isEmpty
  | .cons t ts, sc, xs => match xs with
    | x :: xs => ckT g t sc x && ckB g ts sc xs
    | _ => false
/-- a comprehension's tests: none, or one -/
def ckTs (g : Gt) : CTs → Sc → List Expr → Bool
  | .nil, _, xs => xs.isEmpty
  | .cons t .nil, sc, xs => match xs with
    | [x] => ckT g t sc x
    | _ => false
  | _, _, _ => false
def ckO (g : Gt) : CEo → Sc → Option Expr → Bool
  | .no, _, o => o.isNone
  | .so e, sc, o => match o with
    | some x => ckE g e true sc x
    | _ => false
/-- what is walked; st: to be walked by a for loop -/
def ckI (g : Gt) : CI → Bool → Sc → Expr → Expr → Bool
  | .ex e, st, sc, _, x => ckE g e (!st) sc x
  | .rng a, _, sc, _, e => match e with
    | .Call (.Name x _) [y] [] _ => decide (x = "range") && sc.gl x && noStar y && ckE g a true sc y
    | _ => false
  | .rng2 a b, _, sc, _, e => match e with
    | .Call (.Name x _) [y, z] [] _ => decide (x = "range") && sc.gl x && noStar y && noStar z && ckE g a true sc y && ckE g b true sc z
    | _ => false
  | .enum a, _, sc, tg, e => match tg, e with
    | .Tuple _ _ _, .Call (.Name x _) [y] [] _ => decide (x = "enumerate") && sc.gl x && noStar y && ckE g a false sc y
    | _, _ => false
end
end Mi
end

section
set_option linter.all false
set_option maxRecDepth 100000
set_option Elab.async false
set_option maxHeartbeats 4000000
/-! MiX: isinstance, and the fields, of an error that is pinned: with fields of its own, in any context. -/
namespace PySem.W
open PySem PySem.Spec PySem.Calls PyProof.Rows
section
variable {prog : Program} {w : World} {A : Around} {E : Value → Shared → Prop} {s : Shared} {K : Frag} {x D : Addr} {ox : Obj} {od : Option Obj}
theorem mi_find {C : Addr} {name : Str} {a g : Value} (hc : (clsIn K C).isSome = true) (ha : findIn K (.ref C) name = some (some a)) (hg : specialIn K a "__get__" = some (some g)) (ht : takesIn K a = some true) : findObj K C od name = some (.bind g a) := by
  obtain ⟨cd, hc⟩ := Option.isSome_iff_exists.mp hc
  unfold findObj; rw [hc, Option.bind_some, ha, Option.bind_some]; simp [hg, ht]
theorem mi_class {Q : Option Value → Shared → Prop} (c : L2.ExcC K D) (X : K.In s.heap) (I : InstAt s.heap x ox D od) (h : Q (some (.ref D)) { s with toks := s.toks + 1 }) : wpAny (model prog w) A (getAttr? (.ref x) "__class__") Q E s := by
  have hf : findObj K D od "__class__" = some (.bind (.builtin "getset_descriptor.__get__") (.builtin "object.__class__")) := mi_find (by obtain ⟨cd, hc, _⟩ := any_some c.hd; rw [hc]; rfl) c.ha c.hn c.ht
  obtain ⟨hp, g, d, t, os⟩ := s
  have L0 := I.type (M := model prog w); have L1 := looks_findIn (M := model prog w) X c.hg
  have L2 := looks_findIn (M := model prog w) X c.hk; have L3 := looks_find (M := model prog w) X I hf
  have sub : Looks (model prog w) hp (isInstance (.ref x) (.type "BaseException")) true := L0.andThen (looks_subIn X c.hs)
  have e0 : (Value.builtin "BaseException.__getattribute__" == Value.builtin "object.__getattribute__") = false := by decide +kernel
  have e1 : (onTheHeap (Value.ref D) && Value.builtin "BaseException.__getattribute__" == Value.builtin "object.__getattribute__") = false := by rw [e0]; rfl
  unfold getAttr? getAttrBy? getAttrBy
  refine wpAny_bind (wpAny_mkText (wpAny_bind (wpAny_attempt (wpAny_holding (wpAny_bind (L0.at (wpAny_bind (L1.at ?_))))))))
  show wpAny _ _ (if (onTheHeap (Value.ref D) && Value.builtin "BaseException.__getattribute__" == Value.builtin "object.__getattribute__") = true then _ else _) _ _ _
  rw [e1, if_neg Bool.false_ne_true]; unfold getAttrByItsOwn hookBefore
  refine wpAny_bind ?_; rw [if_pos (show onTheHeap (Value.ref D) = true from rfl)]
  refine L2.at (wpAny_bind (wpAny_attempt (wpAny_holding ?_)))
  unfold callGetattribute; rw [show (false && onTheHeap (Value.builtin "BaseException.__getattribute__")) = false from rfl, if_neg Bool.false_ne_true]
  unfold boundAndCalled; rw [PySem.F.excAttr_ValueError.ga.bind (.ref x)]
  refine wpAny_bind (wpAny_pure ?_)
  show wpAny _ _ (call (.builtin "BaseException.__getattribute__") [.ref x, .str "__class__" t]) _ _ _
  refine wpAny_call (codeAny_call_builtin PySem.F.excAttr_ValueError.ga.plain PySem.F.entry_bexc_ga (@check_slot (model prog w) _ _ ⟨hp, g, d, t + 1, os⟩ "BaseException.__getattribute__" "BaseException" "__getattribute__" (.ref x) [.str "__class__" t] [] _ (by decide +kernel) (by decide +kernel) sub (PySem.F.args_bexc_ga (.ref x) (.str "__class__" t)) ?_))
  unfold Builtin.«object.__getattribute__»
  refine wpAny_bind (wpAny_of_eq (a := ((Value.ref x : Value), [Value.str "__class__" t])) (by first | rfl | (simp only [slotArgs]; rfl)) (wpAny_bind (wpAny_pure (wpAny_bind (L0.at (wpAny_bind (L3.at ?_)))))))
  show wpAny _ _ (holding [Value.builtin "object.__class__"] (call (.builtin "getset_descriptor.__get__") [.builtin "object.__class__", .ref x, .ref D]) >>= ret) _ _ _
  refine wpAny_bind (wpAny_holding (wpAny_call (class_get (s := ⟨hp, g, d, t + 1, os⟩) (ox := ox) (od := od) X I c.hm (wpAny_pure ?_))))
  show wpAny _ _ (handedOut (.ref D)) _ _ _
  rw [handedOut_of (v := .ref D) rfl]
  first | exact wpAny_pure (wpAny_pure h) | exact wpAny_pure h | exact wpAny_pure (wpAny_bind (wpAny_pure (wpAny_pure h)))
theorem mi_kitx (c : L2.ExcC K D) : KitX K (.ref x) (.ref D) (fun h => InstAt h x ox D od) where
  ty := (fun _ _ _ I => I.type)
  it := fun _ _ X _ => by
    obtain ⟨cd, hc, _⟩ := any_some c.hd
    unfold clsIn at hc; split at hc
    · rename_i ho; intro A' Q' E' s' k q; unfold isType loadHead; exact wpAny_bind (wpAny_loadPart (k _ _ (X _ _ ho)) (wpAny_pure q))
    · cases hc
  ne := fun h tp dd its n sl X htp => by
    obtain ⟨cd, hc, _⟩ := any_some c.hd
    refine Bool.eq_false_iff.mpr fun q => ?_
    obtain rfl : D = tp := Value.ref.inj (beq_iff_eq.mp q)
    unfold clsIn at hc; split at hc
    · rename_i ho; have z := (X _ _ ho).symm.trans htp; cases z
    · cases hc
  ca := fun X I k => mi_class c X I k
end
end PySem.W
namespace Mi
open PySem PySem.Spec PyProof.Rows L2
section
variable {X : Cx} {pins : List (Addr × Obj)} {σ : L2.St} {H : Hp} {s : Shared} {a D : Addr} {oe : Obj} {d : Option Addr}
/-- the pinned error as an instance -/
theorem inst_of (I : L2.Inv X pins σ H s) (hz : Zc (.ref D) d oe) (hf : ∃ vs, oe.data = .fields vs) (hp : (a, oe) ∈ X.pn) (hd : ∀ dd, d = some dd → ∃ fs, H dd = some (.xd fs)) : ∃ od, PySem.W.InstAt s.heap a oe D od := by
  obtain ⟨hget, _⟩ := I.pin (a, oe) (List.mem_append_left _ hp)
  obtain ⟨vs, hv⟩ := hf
  have nc : PySem.W.notCls oe := by unfold PySem.W.notCls; rw [hv] <;> rfl
  cases d with
  | none => exact ⟨none, hget, hz.1, nc, by rw [hz.2]; trivial⟩
  | some dd =>
    obtain ⟨fs, hfs⟩ := hd dd rfl
    obtain ⟨mA, hns, hr⟩ := I.hok dd _ hfs
    obtain ⟨od, ho, hl⟩ := lookIn_ns hns
    exact ⟨some od, hget, hz.1, nc, by rw [hz.2]; exact ho⟩
theorem call_isX (C : ExcC X.K D) (hz : Zc (.ref D) d oe) (hf : ∃ vs, oe.data = .fields vs) (hp : (a, oe) ∈ X.pn) : CallR X (.builtin "isinstance") (fun xs H Q => ∃ (c : V) (cv : Value) (b : Bool), xs = [.ref a, c] ∧ (∀ u, RelV c u → u = cv) ∧ PySem.W.kitOne X.K (.ref D) cv = some b ∧
    (∀ dd, d = some dd → ∃ fs, H dd = some (.xd fs)) ∧ Q (.bl b) H) := by
  intro pins s σ H xs us Q I r h
  obtain ⟨c, cv, b, rfl, hcv, e, hd, q⟩ := h
  cases r with
  | cons rx rr =>
    cases rr with
    | cons rt rr =>
      cases rr; cases rx
      obtain rfl := hcv _ rt
      obtain ⟨od, J⟩ := inst_of I hz hf hp hd
      exact PySem.W.kia_one (PySem.W.mi_kitx C) I.kIn J e (fun z => nomatch z) fun tk => ⟨.bl b, H, I.kept (t' := tk) fun _ _ z => z, rfl, q⟩
/-- err.f -/
theorem pe_xfX {e : Expr} {te : TE} {pos : Pos} {n : Str} {cls : Value} (T : XfC X.K D) (hno : PySem.W.findIn X.K (.ref D) n = some none) (hz : Zc cls d oe) (hf : ∃ vs, oe.data = .fields vs) (hp : (a, oe) ∈ X.pn) (he : PE X e te) (hb : attributeBase e n X.env (eval e X.env) = eval e X.env) :
    PE X (.Attribute e n pos) (tXf a cls d D n te) := by
  refine ⟨fun pins s σ H Q I h => attr_of hb (thn (he.run pins s σ H _ I h) fun u s1 ⟨x, H1, I1, rx, ex, ec, dd, fs, v, ed, ea, l, q⟩ => ?_)⟩
  subst ex
  obtain rfl : u = Value.ref a := rx
  subst ec ed
  obtain ⟨ha, _⟩ := I1.pin (a, oe) (List.mem_append_left _ hp)
  obtain ⟨vs, hd⟩ := hf
  obtain ⟨mA, hns, hr⟩ := I1.hok dd _ ea
  obtain ⟨od, ho, hl⟩ := lookIn_ns hns
  obtain ⟨u, hu, ru⟩ := RelO.some_of (v := v) (o := mA n) (by rw [← l]; exact hr n)
  have J : PySem.W.InstAt s1.heap a oe D (some od) := ⟨ha, hz.1, by unfold PySem.W.notCls; rw [hd] <;> rfl, by rw [hz.2]; exact ho⟩
  exact HandSPX.exc_get I1.kIn J T.ga T.gg T.exC (PySem.W.findObj_own T.hdC hno rfl (by rw [hl, hu])) (handed_of ru) ⟨v, H1, I1.tok _, ru, q⟩
end
end Mi
end

section
set_option linter.all false
set_option maxRecDepth 100000
set_option Elab.async false
/-! Mi15: what is checked of an expression holds of it. -/
namespace Mi
open PySem L2

def bltNames : List Str := ["len", "tuple", "list", "sorted", "set", "all", "any", "int", "repr", "str", "isinstance", "range", "enumerate", "bool"]
/-- the module's names -/
structure Okg (P : Program) (w : World) (K : PySem.W.Frag) (mg : Str → Option Value) (base : Heap) (Γ : Wd) (G : Tab) (g : Gt) : Prop where
  k2 : 2 ≤ G.k
  blt : ∀ x ∈ bltNames, mg x = none
  fns : ∀ (x : Str) (f n : Nat), (x, f, n) ∈ g.fns → mg x = some (.ref (Γ.fa f)) ∧ PySem.W.keepIn K (.ref (Γ.fa f)) = true ∧ ∃ fd ps, Binds K fd ps [] ∧ FnG false P w K mg base G.k (Γ.fa f) fd ps (spOf Γ n (G.f f))
  gcs : ∀ (x : Str) (n : Nat), (x, n) ∈ g.gcs → ∃ u v, mg x = some u ∧ RelV v u ∧ ∀ d, G.gc n = some d → ∀ μ F, Rep Γ μ F v d
  exs : ∀ (x : Str) (c : Nat) (f1 f2 : Str), (x, c, f1, f2) ∈ g.exs → mg x = some (.ref (Γ.ca c)) ∧ ExcOk P w K mg base Γ 1 c f1 f2 ∧ G.xf c = [f1, f2]
  kws : ∀ (x : Str) (f : Nat) (ks : List Str) (is : List Nat), (x, f, ks, is) ∈ g.kws → mg x = some (.ref (Γ.fa f)) ∧ PySem.W.keepIn K (.ref (Γ.fa f)) = true ∧ ∃ fd ps n, KB K fd ps ks is ∧ ps.length = n ∧ FnG false P w K mg base G.k (Γ.fa f) fd ps (spOf Γ n (G.f f))
  cls : ∀ (x : Str) (k : Nat), (x, k) ∈ g.cls → ∃ (v : V) (cv : Value), ((mg x = some cv) ∨ (mg x = none ∧ bootBuiltins x = some cv ∧ x ≠ "__name__")) ∧ RelV v cv ∧ (∀ u, RelV v u → u = cv) ∧ ∀ c b, G.isc c k = some b → PySem.W.kitOne K (.ref (Γ.ca c)) cv = some b
  rfns : g.rp = true → ∀ (x : Str) (f n : Nat), (x, f, n) ∈ g.rfns → mg x = some (.ref (Γ.fa f)) ∧ PySem.W.keepIn K (.ref (Γ.fa f)) = true ∧ ∃ fd ps, Binds K fd ps [] ∧ FnG true P w K mg base G.k (Γ.fa f) fd ps (spOf Γ n (G.f f))
/-- a def that may be called -/
theorem Okg.call {P : Program} {w : World} {K : PySem.W.Frag} {mg : Str → Option Value} {base : Heap} {Γ : Wd} {G : Tab} {g : Gt} (O : Okg P w K mg base Γ G g) {x : Str} {f n : Nat} (h : (decide ((x, f, n) ∈ g.fns) || (g.rp && decide ((x, f, n) ∈ g.rfns))) = true) :
    mg x = some (.ref (Γ.fa f)) ∧ PySem.W.keepIn K (.ref (Γ.fa f)) = true ∧ ∃ fd ps, Binds K fd ps [] ∧ ∃ gd, (gd = true → g.rp = true) ∧ FnG gd P w K mg base G.k (Γ.fa f) fd ps (spOf Γ n (G.f f)) := by
  rw [Bool.or_eq_true, Bool.and_eq_true, decide_eq_true_eq, decide_eq_true_eq] at h
  rcases h with h | h
  · obtain ⟨a, b, fd, ps, c, d⟩ := O.fns _ _ _ h
    exact ⟨a, b, fd, ps, c, false, fun z => (by cases z), d⟩
  · obtain ⟨a, b, fd, ps, c, d⟩ := O.rfns h.1 _ _ _ h.2
    exact ⟨a, b, fd, ps, c, true, fun _ => h.1, d⟩
/-- the error that is held -/
structure ErrOk (g : Gt) (X : Cx) (B : At) (c : Nat) (fs : List (Str × D)) : Prop where
  C : ExcC X.K (B.Γ.ca c)
  T : XfC X.K (B.Γ.ca c)
  ex : ∃ (oe : Obj) (d : Addr) (ws : List (Str × V)), (B.Γ.fa eN, oe) ∈ X.pn ∧ Zc (.ref (B.Γ.ca c)) (some d) oe ∧ (∃ vs, oe.data = .fields vs) ∧ B.E.F d = some (.xd ws) ∧ RepF B.Γ B.E.μ B.E.F ws fs
  no : ∀ f, f ∈ g.flds → PySem.W.findIn X.K (.ref (B.Γ.ca c)) f = some none
/-- what a def that makes lambdas knows -/
structure LamOk (g : Gt) (G : Tab) (X : Cx) (B : At) (x : Str) (k : Nat) : Prop where
  so : SaidOk X.prog X.w X.K X.mg X.base B.Γ G.rf x
  cd : ∃ c, X.env.code = .ref c ∧ LamX.TabB X.base X.mg c (B.Γ.ta k)
  nm : lamName X = B.Γ.tq k
  low : Okg X.prog X.w X.K X.mg X.base B.Γ G.low g.low
  k4 : 4 ≤ G.k
structure Okc (g : Gt) (G : Tab) (sc : Sc) (X : Cx) (B : At) : Prop where
  nm : X.env.scope.names = sc.nms
  kd : X.env.scope.kind = .function
  N : X.N = sc.N
  nd : sc.N.Nodup
  K : X.K = B.Γ.K
  calm : g.hot = false → X.calm = true
  fn : sc.all = true → ∀ x, X.fn x = true
  room : g.hot = false → Room G.k X.A
  un : X.A.units + 65 < cLine
  gd : g.rp = true → X.A.guards = some []
  tk : Takes X B.W
  gl : Okg X.prog X.w X.K X.mg X.base B.Γ G g
  er : g.hot = true → ∃ c fs, G.exn = some (c, fs) ∧ ErrOk g X B c fs
  lam : sc.all = true → ∀ x k, g.lam = some (x, k) → LamOk g G X B x k

section
variable {g : Gt} {G : Tab} {sc : Sc} {X : Cx} {B : At} {x : Str} {i : Nat} {scope : Scope}
theorem Okc.hu (O : Okc g G sc X B) : X.A.units + 65 < cLine := O.un
theorem Okc.hu1 (O : Okc g G sc X B) : X.A.units + 1 < cLine := by
  have := O.hu
  omega
theorem Okc.gl1 (O : Okc g G sc X B) (h : sc.gl x = true) : Gl X x ∧ (x == ("__debug__" : Str)) = false := by
  unfold Sc.gl at h
  rw [Bool.and_eq_true, Bool.not_eq_true'] at h
  refine ⟨?_, h.2⟩
  have h1 := h.1
  unfold Gl Env.kindOf
  rw [O.nm]
  split at h1
  · assumption
  · cases h1
theorem Okc.var (O : Okc g G sc X B) (h : sc.vis x i = true) {pos : Pos} : PE X (.Name x pos) (tVar i) := by
  unfold Sc.vis at h
  simp only [Bool.and_eq_true, decide_eq_true_eq, Bool.not_eq_true'] at h
  obtain ⟨⟨⟨h1, h2⟩, h3⟩, h4⟩ := h
  refine pv i (by rw [O.N]; exact h1) ?_ h3 h4
  unfold Vis
  rw [O.nm]
  split at h2
  · exact .inl (by assumption)
  · exact .inr (.inl (by assumption))
  · exact .inr (.inr (by assumption))
  · cases h2
theorem Okc.tg (O : Okc g G sc X B) (h : sc.tgt x i = true) {pos : Pos} : PG X (.Name x pos) (gName i) := by
  unfold Sc.tgt at h
  simp only [Bool.and_eq_true, decide_eq_true_eq] at h
  obtain ⟨h1, h2⟩ := h
  have hN : X.N.Nodup := by rw [O.N]; exact O.nd
  split at h2
  · rename_i e
    exact pg_name hN (by rw [O.N]; exact h1) (.inl (by rw [O.nm]; exact e)) (.inr (by rw [O.nm]; exact e))
  · rename_i e
    exact pg_name hN (by rw [O.N]; exact h1) (.inr (by rw [O.nm]; exact e)) (.inl (O.fn h2 x))
  · cases h2
theorem notStarT : ∀ {es : List Expr} {is : List Nat} {env : PySem.Env}, ckTg.go sc is es = true → (assignEach es env).length = is.length ∧ (assignEach es env).findIdx? (·.1) = none
  | [], [], env, h => ⟨rfl, rfl⟩
  | [], _ :: _, env, h => by simp [ckTg.go] at h
  | e :: es, [], env, h => by cases e <;> simp [ckTg.go] at h
  | e :: es, i :: is, env, h => by
    cases e <;> first | (simp [ckTg.go] at h; done) | skip
    rename_i y p
    rw [ckTg.go, Bool.and_eq_true] at h
    obtain ⟨q1, q2⟩ := notStarT (env := env) h.2
    show ((false, assign (.Name y p) env) :: assignEach es env).length = _ ∧ ((false, assign (.Name y p) env) :: assignEach es env).findIdx? (·.1) = none
    refine ⟨by simp [q1], by simp [List.findIdx?_cons, q2]⟩
theorem Okc.tgs (O : Okc g G sc X B) : ∀ {es : List Expr} {is : List Nat}, ckTg.go sc is es = true → PGs X es (gAll is)
  | [], [], h => gs_nil
  | [], _ :: _, h => by simp [ckTg.go] at h
  | e :: es, [], h => by cases e <;> simp [ckTg.go] at h
  | e :: es, i :: is, h => by
    cases e <;> first | (simp [ckTg.go] at h; done) | skip
    rw [ckTg.go, Bool.and_eq_true] at h
    exact gs_cons (O.tg h.1) (O.tgs h.2) rfl
theorem Okc.target (O : Okc g G sc X B) (hh : g.hot = false) {t : Tg} {e : Expr} (h : ckTg sc t e = true) : PG X e (gT B.Γ.K t) := by
  cases t with
  | nm i => cases e <;> first | (simp [ckTg] at h; done) | exact O.tg (by simpa [ckTg] using h)
  | tp is =>
    cases e <;> first | (simp [ckTg] at h; done) | skip
    have h : ckTg.go sc is _ = true := h
    obtain ⟨q1, q2⟩ := notStarT (env := X.env) h
    exact g_tp O.K (O.calm hh) (O.tgs h) q1 q2
theorem blkC_names {N : List Str} {s1 s2 scope : Scope} {own : List (Str × Nat)} (h : s1.names = s2.names) : blkC N s1 scope own = blkC N s2 scope own := by
  unfold blkC
  rw [h]
theorem Okc.blkOk (O : Okc g G sc X B) {scope : Scope} {own : List (Str × Nat)} (h : blkC sc.N { scope with names := sc.nms } scope own = true) : BlkOk X.N X.env.scope scope own := by
  rw [O.N]
  refine blkOk_by ?_
  rw [blkC_names (s2 := { scope with names := sc.nms }) O.nm]
  exact h
theorem Okc.blk (O : Okc g G sc X B) (hh : g.hot = false) {scope : Scope} {own : List (Str × Nat)} (ok : BlkOk X.N X.env.scope scope own) (s : Shared) (H : Hp) (C : Addr) (cl : List (Str × Addr)) (fp : List Addr) :
    Okc g G (sc.blk scope) (X.blk s H scope (compEnvC scope cl C X.env) fp) B.calm where
  nm := by
    show (relabel scope X.env).names = relN scope.names sc.nms
    unfold relabel relN
    show List.map _ _ = List.map _ _
    apply List.map_congr_left
    rintro ⟨n, k⟩ _
    unfold Env.kindOf
    rw [O.nm, O.kd]
    rfl
  kd := ok.kind
  N := O.N
  nd := O.nd
  K := O.K
  calm := O.calm
  fn := fun h => nomatch h
  room := O.room
  un := O.un
  gd := O.gd
  tk := fun u s' ⟨_, _, _, _, _, _, _, _, _, _, _, _, _, _, _, _, w⟩ => w.elim
  gl := O.gl
  er := fun z => by rw [hh] at z; cases z
  lam := fun z => nomatch z
theorem lamSB_names {s1 s2 scope : Scope} (h : s1.names = s2.names) : LamX.lamSB s1 scope = LamX.lamSB s2 scope := by
  unfold LamX.lamSB
  rw [h]
/-- the lambda's own context -/
theorem Okc.inLam (L : LamX.LamS X.env.scope scope) (O : Okc g G sc X B) (low : Okg X.prog X.w X.K X.mg X.base B.Γ G.low g.low) (hh : g.hot = false) {A : Around} {outer : List PySem.Env} {s : Shared} {H : Hp} {E : XK} {f c' : Addr}
    (hr : Room G.low.k (A.deeper (LamX.lamEnv X scope s.heap.objs.size f c'))) : Okc g.low G.low ⟨sc.N, scope.names, false⟩ (LamX.lamCx X A outer s H E scope f c') ⟨B.Γ, B.E, fun cls d _ H => E cls d H⟩ where
  nm := rfl
  kd := L.kind
  N := O.N
  nd := O.nd
  K := O.K
  calm := fun _ => rfl
  fn := fun h => nomatch h
  room := fun _ => hr
  un := by
    have := hr.un
    show (A.deeper (LamX.lamEnv X scope s.heap.objs.size f c')).units + 65 < cLine
    omega
  gd := fun h => nomatch h
  tk := takes_of rfl rfl rfl rfl
  gl := low
  er := fun z => by
    have z : g.hot = true := z
    rw [hh] at z; cases z
  lam := fun z => nomatch z
end

section
variable {g : Gt} {B : At} {X : Cx} {a : Expr} {ma : Env → Sto → Mo D} {G : Tab} {pos p p2 : Pos}
theorem err_val {Γ : Wd} {μ : List Addr} {F : Hp} {v : V} {x : D} (h : isErr x = true) (r : Rep Γ μ F v x) : v = .ref (Γ.fa eN) := by
  cases x <;> first | (cases h; done) | skip
  have h := of_decide_eq_true h
  subst h
  cases r; rfl
theorem s_isaC {k : Nat} {z : Str} {v : V} {cv : Value} (hK : X.K = B.Γ.K) (hv : ∀ u, RelV v u → u = cv) (hb : ∀ c b, G.isc c k = some b → PySem.W.kitOne X.K (.ref (B.Γ.ca c)) cv = some b) (er : ∃ c fs, G.exn = some (c, fs) ∧ ErrOk g X B c fs)
    (hg : Gl X "isinstance") (hm : X.mg "isinstance" = none) (ha : PE X a (tE B ma)) (hc : PE X (.Name z p2) (tC v)) (st : starEach [a, .Name z p2] X.env = (false, eval a X.env) :: starEach [.Name z p2] X.env) :
    PE X (.Call (.Name "isinstance" p) [a, .Name z p2] [] pos) (tE B fun ρ S => rb (ma ρ S) fun x S => lift (excC G k x) S) := by
  obtain ⟨c, fs, hG, C, T, ⟨oe, d, ws, hp, hz, hf, hd, hr⟩, hno⟩ := er
  refine (pe_callB (call_isX C hz hf hp) hg hm (by decide +kernel) (pa_cons ha (pa_cons hc pa_nil) st) (he := st)).imp fun σ H Q ⟨μ, S, F, ρ, r, g0⟩ => ⟨μ, S, F, ρ, r, g0.bind.mono fun x S1 μ1 F1 H1 k1 g1 u rv => ?_⟩
  obtain ⟨y, hy, g4⟩ := g1.lift
  unfold excC at hy
  split at hy
  · rename_i he
    rw [hG] at hy
    obtain ⟨b, hb1, rfl⟩ := Option.map_eq_some_iff.mp hy
    have eu := err_val he rv
    refine ⟨v, cv, b, by rw [eu], hv, hb c b hb1, fun dd e => ⟨ws, ?_⟩, done g4 k1.toSok (.bl b)⟩
    cases e
    exact k1.toSok.le d _ ((r.step k1).toKp.gr.h d _ hd)
  · cases hy
theorem repF_look {Γ : Wd} {μ : List Addr} {F : Hp} {f : Str} : ∀ {ws : List (Str × V)} {fs : List (Str × D)} {x : D}, RepF Γ μ F ws fs → fs.lookup f = some x → ∃ v, ws.lookup f = some v ∧ Rep Γ μ F v x := fun {ws fs x} h e => h.look e
theorem s_fld {f x : Str} {px : Pos} (er : ∃ c fs, G.exn = some (c, fs) ∧ ErrOk g X B c fs) (ha : PE X (.Name x px) (tE B ma)) (hb : attributeBase (.Name x px) f X.env (eval (.Name x px) X.env) = eval (.Name x px) X.env) (hmem : f ∈ g.flds) :
    PE X (.Attribute (.Name x px) f pos) (tE B fun ρ S => rb (ma ρ S) fun x S => lift (excF G f x) S) := by
  obtain ⟨c, fs, hG, C, T, ⟨oe, d, ws, hp, hz, hf, hd, hr⟩, hno⟩ := er
  refine (pe_xfX T (hno f hmem) hz hf hp ha hb).imp fun σ H Q ⟨μ, S, F, ρ, r, g0⟩ => ⟨μ, S, F, ρ, r, g0.bind.mono fun x S1 μ1 F1 H1 k1 g1 u rv => ?_⟩
  obtain ⟨y, hy, g4⟩ := g1.lift
  unfold excF at hy
  split at hy
  · rename_i he
    rw [hG] at hy
    have eu := err_val he rv
    have r1 := (r.step k1).toKp
    obtain ⟨v, h1, h2⟩ := (hr.gr r1.gr).look hy
    exact ⟨eu, rfl, d, ws, v, rfl, k1.toSok.le d _ (r1.gr.h d _ hd), h1, done g4 k1.toSok h2⟩
  · cases hy
end
/-- a value, frozen or read only -/
def RdE (rd : Bool) (X : Cx) (e : Expr) (B : At) (m : Env → Sto → Mo D) : Prop := match rd with
  | true => PE X e (tW B m)
  | false => PE X e (tE B m)
section
variable {X : Cx} {B : At} {e : Expr} {m m' : Env → Sto → Mo D} {rd : Bool}
theorem RdE.of (h : PE X e (tE B m)) (hm : ∀ ρ S, m' ρ S = m ρ S) : RdE rd X e B m' := by
  have : m' = m := by funext ρ S; exact hm ρ S
  subst this
  cases rd
  · exact h
  · exact PE.weak h
theorem RdE.w (h : RdE true X e B m) : PE X e (tW B m) := h
theorem RdE.fz (h : RdE false X e B m) : PE X e (tE B m) := h
end
theorem st_of {e : Expr} {es : List Expr} {env : PySem.Env} (h : noStar e = true) : starEach (e :: es) env = (false, eval e env) :: starEach es env := by
  cases e <;> first | rfl | cases h
theorem ix_of {e : Expr} (h : noSlice e = true) : PlainIx e := fun o i => by cases e <;> first | rfl | cases h
theorem set_of {e : Expr} {op : CmpOp} (h : noSet e = true) : behindInMarks op e = false := by cases e <;> first | rfl | cases h
theorem set_of2 {op op' : CmpOp} {b e : Expr} (h : noSet e = true) : lastMarks [op, op'] [b, e] = false := set_of h
theorem fold_of {e : Expr} {env : PySem.Env} (h : noSet e = true) : ∀ x, foldedSetIterable e env x = pure x := fun x => by cases e <;> first | rfl | cases h
theorem plain_of {e : Expr} {env : PySem.Env} (h : plainT e = true) : ∀ whole, isTrue e env whole = (do let v ← whole; standAt e.pos; holding [v] (truthy v)) := fun whole => by
  cases e <;> first | rfl | (cases h; done) | skip
  rename_i op a p
  cases op <;> first | rfl | cases h
def CEs.len : CEs → Nat
  | .nil => 0
  | .cons _ r => r.len + 1
theorem evEs_len {G : Tab} : ∀ (es : CEs) (ρ : Env) (S S' : Sto) (ds : List D), evEs G es ρ S = some (.ok ds S') → ds.length = es.len
  | .nil, ρ, S, S', ds, h => by
    unfold evEs at h; cases h; rfl
  | .cons e es, ρ, S, S', ds, h => by
    unfold evEs at h
    obtain ⟨d, S1, h1, h2⟩ := rb_ok h
    obtain ⟨ds', S2, h3, h4⟩ := rb_ok h2
    cases h4
    have := evEs_len es ρ _ _ _ h3
    simp [CEs.len, this]
theorem ckEs_len {g : Gt} : ∀ (es : CEs) (sc : Sc) (xs : List Expr), ckEs g es sc xs = true → es.len = xs.length
  | .nil, sc, xs, h => by
    unfold ckEs at h
    cases xs <;> first | rfl | cases h
  | .cons e es, sc, xs, h => by
    unfold ckEs at h
    split at h
    · simp only [Bool.and_eq_true] at h
      simp [CEs.len, ckEs_len es sc _ h.2]
    · cases h
theorem backTo_star {pos : Pos} {env : PySem.Env} {g : Gt} : ∀ (es : CEs) (sc : Sc) (xs : List Expr), ckEs g es sc xs = true → (backTo pos (starEach xs env)).any (·.1) = false
  | .nil, sc, xs, h => by
    unfold ckEs at h
    cases xs <;> first | rfl | cases h
  | .cons e es, sc, xs, h => by
    unfold ckEs at h
    split at h
    · rename_i x xs
      simp only [Bool.and_eq_true] at h
      have ih := backTo_star (pos := pos) (env := env) es sc xs h.2
      rw [st_of h.1.1]
      show (false || (backTo pos (starEach xs env)).any (·.1)) = false
      rw [ih]; rfl
    · cases h

section
variable {g : Gt} {G : Tab}
theorem keys_cons {k : Str} {ks : List Str} {keys : List (Option Expr)} (h : ckKeys (k :: ks) keys = true) : ∃ j p es, keys = some (.Constant (.str k) j p) :: es ∧ ckKeys ks es = true := by
  unfold ckKeys at h
  split at h
  · cases ‹(k :: ks) = []›
  · rename_i e
    cases e
    rw [Bool.and_eq_true, decide_eq_true_eq] at h
    obtain ⟨h1, h2⟩ := h
    subst h1
    exact ⟨_, _, _, rfl, h2⟩
  · cases h
theorem keys_nil {keys : List (Option Expr)} (h : ckKeys [] keys = true) : keys = [] := by
  cases keys with
  | nil => rfl
  | cons _ _ => simp [ckKeys] at h
theorem keys_all : ∀ {ks : List Str} {keys : List (Option Expr)}, ckKeys ks keys = true → keys.all (·.isSome) = true ∧ ks.length = keys.length
  | [], keys, h => by cases keys_nil h; exact ⟨rfl, rfl⟩
  | k :: ks, keys, h => by
    obtain ⟨j, p, es, rfl, h2⟩ := keys_cons h
    obtain ⟨q1, q2⟩ := keys_all h2
    exact ⟨by simp [q1], by simp [q2]⟩

theorem kw_of : ∀ (es : CEs) (sc : Sc) (ks : List Str) (kws : List Keyword) (pos : Pos) (env : PySem.Env), ckKw g es sc ks kws = true → (backToKw pos (keywordEach kws env)).all (·.1.isSome) = true ∧ (backToKw pos (keywordEach kws env)).filterMap (·.1) = ks ∧
    (backToKw pos (keywordEach kws env)).any (·.1.isNone) = false ∧ es.len = ks.length
  | .nil, sc, ks, kws, pos, env, h => by
    unfold ckKw at h
    rw [Bool.and_eq_true] at h
    cases ks <;> first | (cases h.1; done) | skip
    cases kws <;> first | (cases h.2; done) | skip
    exact ⟨rfl, rfl, rfl, rfl⟩
  | .cons e es, sc, ks, kws, pos, env, h => by
    unfold ckKw at h
    split at h
    · rename_i k ks n x p kws
      simp only [Bool.and_eq_true, decide_eq_true_eq] at h
      obtain ⟨⟨h1, h2⟩, h3⟩ := h
      subst h1
      obtain ⟨q1, q2, q3, q4⟩ := kw_of es sc ks kws pos env h3
      refine ⟨?_, ?_, ?_, ?_⟩
      · show (true && (backToKw pos (keywordEach kws env)).all (·.1.isSome)) = true
        rw [q1]; rfl
      · show k :: (backToKw pos (keywordEach kws env)).filterMap (·.1) = k :: ks
        rw [q2]
      · show (false || (backToKw pos (keywordEach kws env)).any (·.1.isNone)) = false
        rw [q3]; rfl
      · simp [CEs.len, q4]
    · cases h
theorem PK.imp {X : Cx} {kws : List Keyword} {t t' : TA} (h : PK X kws t) (k : ∀ σ H Q, t' σ H Q → t σ H Q) : PK X kws t' := ⟨fun pos pins s σ H Q I q => h.run pos pins s σ H Q I (k _ _ _ q)⟩

mutual
theorem sEx : ∀ (g : Gt) (G : Tab) (c : CE) (rd : Bool) (sc : Sc) (e : Expr) (X : Cx) (B : At), Okc g G sc X B → ckE g c rd sc e = true → RdE rd X e B (evE G c)
  | g, G, .cst d, rd, sc, e, X, B, O, h => by
    unfold ckE at h
    have key : ∃ v, PE X e (tC v) ∧ ∀ μ F, Rep B.Γ μ F v d := by
      unfold ckCst at h
      split at h
      · exact ⟨_, pe_non, fun _ _ => .non⟩
      · rw [beq_iff_eq] at h; subst h; exact ⟨_, pe_bl, fun _ _ => .bl _⟩
      · rw [decide_eq_true_eq] at h; subst h; exact ⟨_, pe_int, fun _ _ => .int _⟩
      · rw [decide_eq_true_eq] at h; subst h; exact ⟨_, pe_str, fun _ _ => .str _⟩
      · cases h
    obtain ⟨v, h1, h2⟩ := key
    exact RdE.of (s_cst h1 h2) fun ρ S => by conv => lhs; unfold evE
  | g, G, .var i, rd, sc, e, X, B, O, h => by
    unfold ckE at h
    split at h
    · exact RdE.of (s_var (O.var h)) fun ρ S => by (conv => lhs; unfold evE); try rfl
    · cases h
  | g, G, .pk i, rd, sc, e, X, B, O, h => by
    unfold ckE at h
    split at h
    · rw [Bool.and_eq_true] at h
      obtain ⟨h1, h2⟩ := h
      subst h1
      have := s_pk (B := B) (O.var h2 (pos := ‹Pos›))
      exact this
    · cases h
  | g, G, .fn n, rd, sc, e, X, B, O, h => by unfold ckE at h; cases h
  | g, G, .gc n, rd, sc, e, X, B, O, h => by
    unfold ckE at h
    split at h
    · rw [Bool.and_eq_true, decide_eq_true_eq] at h
      obtain ⟨q1, q2⟩ := O.gl1 h.1
      obtain ⟨u, v, m1, m2, m3⟩ := O.gl.gcs _ _ h.2
      exact RdE.of (s_glb (pe_glob q1 m1 m2 q2) m3) fun ρ S => by conv => lhs; unfold evE
    · cases h
  | g, G, .tup es, rd, sc, e, X, B, O, h => by
    unfold ckE at h
    split at h
    · exact RdE.of (s_tup (sEsx g G es sc _ X B O h)) fun ρ S => by conv => lhs; unfold evE
    · cases h
  | g, G, .lst es, rd, sc, e, X, B, O, h => by
    unfold ckE at h
    split at h
    · exact RdE.of (PE.frozen (s_lst (sEsx g G es sc _ X B O h))) fun ρ S => by conv => lhs; unfold evE
    · cases h
  | g, G, .bin o a b, rd, sc, e, X, B, O, h => by
    unfold ckE at h
    split at h
    · simp only [Bool.and_eq_true] at h
      have ha := (sEx g G a true sc _ X B O h.1.2).w
      have hb := (sEx g G b true sc _ X B O h.2).w
      have ho := h.1.1
      unfold isBop at ho
      split at ho
      · exact RdE.of (s_add O.K ha hb) fun ρ S => by conv => lhs; unfold evE
      · exact RdE.of (s_sub ha hb) fun ρ S => by conv => lhs; unfold evE
      · exact RdE.of (s_mul ha hb) fun ρ S => by conv => lhs; unfold evE
      · exact RdE.of (s_fdiv ha hb) fun ρ S => by conv => lhs; unfold evE
      · exact RdE.of (s_mod ha hb) fun ρ S => by conv => lhs; unfold evE
      · exact RdE.of (s_pow ha hb) fun ρ S => by conv => lhs; unfold evE
      · cases ho
    · cases h
  | g, G, .cat a b, rd, sc, e, X, B, O, h => by
    unfold ckE at h
    split at h
    · simp only [Bool.and_eq_true] at h
      have ha := (sEx g G a true sc _ X B O h.1.2).w
      have hb := (sEx g G b true sc _ X B O h.2).w
      have ho := h.1.1
      rename_i op _ _
      cases op <;> first | cases ho; done | skip
      exact RdE.of (PE.frozen (s_cat O.K ha hb)) fun ρ S => by conv => lhs; unfold evE
    · cases h
  | g, G, .neg a, rd, sc, e, X, B, O, h => by
    unfold ckE at h
    split at h
    · exact RdE.of (s_neg (sEx g G a true sc _ X B O h).w) fun ρ S => by conv => lhs; unfold evE
    · cases h
  | g, G, .cmp o a b, rd, sc, e, X, B, O, h => by
    unfold ckE at h
    split at h
    · simp only [Bool.and_eq_true] at h
      cases isCop_eq h.1.1.1
      exact RdE.of (s_cmp O.hu O.K (sEx g G a true sc _ X B O h.1.2).w (sEx g G b true sc _ X B O h.2).w (set_of h.1.1.2)) fun ρ S => by conv => lhs; unfold evE
    · cases h
  | g, G, .cmp2 o o' a b c, rd, sc, e, X, B, O, h => by
    unfold ckE at h
    split at h
    · simp only [Bool.and_eq_true] at h
      cases isCop_eq h.1.1.1.1.1
      cases isCop_eq h.1.1.1.1.2
      exact RdE.of (s_cmp2 O.hu O.K (sEx g G a true sc _ X B O h.1.1.2).w (sEx g G b true sc _ X B O h.1.2).w (sEx g G c true sc _ X B O h.2).w (set_of2 h.1.1.1.2)) fun ρ S => by conv => lhs; unfold evE
    · cases h
  | g, G, .isN false a, rd, sc, e, X, B, O, h => by
    unfold ckE at h
    split at h
    · exact RdE.of (s_isN (sEx g G a true sc _ X B O h).w) fun ρ S => by conv => lhs; unfold evE
    · cases h
  | g, G, .isN true a, rd, sc, e, X, B, O, h => by
    unfold ckE at h
    split at h
    · exact RdE.of (s_isNn (sEx g G a true sc _ X B O h).w) fun ρ S => by conv => lhs; unfold evE
    · cases h
  | g, G, .isB c a, rd, sc, e, X, B, O, h => by
    unfold ckE at h
    split at h
    · rw [Bool.and_eq_true, decide_eq_true_eq] at h
      obtain ⟨h1, h2⟩ := h
      subst h1
      exact RdE.of (s_isB (sEx g G a true sc _ X B O h2).w) fun ρ S => by conv => lhs; unfold evE
    · cases h
  | g, G, .bool conj es, rd, sc, e, X, B, O, h => by
    unfold ckE at h
    split at h
    · rename_i op xs pos
      simp only [Bool.and_eq_true, Bool.not_eq_true'] at h
      exact RdE.of (sWsx g G es conj sc xs op pos X B O h.1.1 h.1.2 h.2) fun ρ S => by (conv => lhs; unfold evE); try rfl
    · cases h
  | g, G, .not a, rd, sc, e, X, B, O, h => by
    unfold ckE at h
    split at h
    · exact RdE.of (s_not (sEx g G a true sc _ X B O h).w) fun ρ S => by conv => lhs; unfold evE
    · cases h
  | g, G, .ite t a b, rd, sc, e, X, B, O, h => by
    unfold ckE at h
    split at h
    · simp only [Bool.and_eq_true] at h
      exact RdE.of (s_ite (sTx g G t sc _ X B O h.1.1) (sEx g G a false sc _ X B O h.1.2).fz (sEx g G b false sc _ X B O h.2).fz) fun ρ S => by conv => lhs; unfold evE
    · cases h
  | g, G, .idx a i, rd, sc, e, X, B, O, h => by
    unfold ckE at h
    split at h
    · simp only [Bool.and_eq_true] at h
      exact RdE.of (s_idx O.K (sEx g G a true sc _ X B O h.1.2).w (sEx g G i true sc _ X B O h.2).w (ix_of h.1.1)) fun ρ S => by conv => lhs; unfold evE
    · cases h
  | g, G, .slc a lo hi, rd, sc, e, X, B, O, h => by
    unfold ckE at h
    split at h
    · simp only [Bool.and_eq_true] at h
      exact RdE.of (s_slc O.K (sEx g G a true sc _ X B O h.1.1).w (sOx g G lo sc _ X B O h.1.2) (sOx g G hi sc _ X B O h.2)) fun ρ S => by conv => lhs; unfold evE
    · cases h
  | g, G, .rev a, rd, sc, e, X, B, O, h => by
    unfold ckE at h
    split at h
    · exact RdE.of (s_rev O.K (sEx g G a true sc _ X B O h).w) fun ρ S => by conv => lhs; unfold evE
    · cases h
  | g, G, .call f es, rd, sc, e, X, B, O, h => by
    unfold ckE at h
    split at h
    · rename_i x p xs pos
      rw [Bool.and_eq_true, Bool.not_eq_true'] at h; obtain ⟨hh, h⟩ := h
      rw [Bool.and_eq_true, Bool.and_eq_true] at h
      obtain ⟨q1, q2⟩ := O.gl1 h.1.1
      obtain ⟨m1, m2, fd, ps, m3, gd, gd2, m4⟩ := O.gl.call h.1.2
      cases xs with
      | nil =>
        cases es with
        | cons _ _ => unfold ckEs at h; exact absurd h.2 Bool.false_ne_true
        | nil => exact RdE.of (s_call0 m4 (O.room hh) (fun z => O.gd (gd2 z)) q1 m1 m2 m3 O.tk q2) fun ρ S => by (conv => lhs; unfold evE evEs)
      | cons x0 xs =>
        have hs := sEsx g G es sc (x0 :: xs) X B O h.2
        have hl := ckEs_len es sc (x0 :: xs) h.2
        cases es with
        | nil => unfold ckEs at h; exact absurd h.2 (by simp)
        | cons c0 cs =>
          have h2 := h.2
          unfold ckEs at h2
          simp only [Bool.and_eq_true] at h2
          exact RdE.of (s_call m4 (O.room hh) (fun z => O.gd (gd2 z)) q1 m1 m2 m3 O.tk hs (fun ρ S ds S' e => by rw [evEs_len _ _ _ _ _ e, hl]) q2 (st_of h2.1.1) (backTo_star cs sc xs h2.2)) fun ρ S => by conv => lhs; unfold evE
    · cases h
  | g, G, .callK f ks is es, rd, sc, e, X, B, O, h => by
    unfold ckE at h
    split at h
    · rename_i x p kws pos
      rw [Bool.and_eq_true, Bool.not_eq_true'] at h; obtain ⟨hh, h⟩ := h
      simp only [Bool.and_eq_true, decide_eq_true_eq] at h
      obtain ⟨q1, q2⟩ := O.gl1 h.1.1
      obtain ⟨m1, m2, fd, ps, n, m3, m4, m5⟩ := O.gl.kws _ _ _ _ h.1.2
      obtain ⟨w1, w2, w3, w4⟩ := kw_of es sc ks kws pos X.env h.2
      exact RdE.of (s_callK m5 (O.room hh) (fun z => nomatch z) q1 m1 m2 m3 m4 O.tk (sKwx g G es sc ks kws X B O h.2) (fun ρ S ds S' e => by rw [evEs_len _ _ _ _ _ e, w4]) w1 w2 q2 (by rw [w3]; rfl)) fun ρ S => by (conv => lhs; unfold evE); try rfl
    · cases h
  | g, G, .blt b a, rd, sc, e, X, B, O, h => by
    unfold ckE at h
    split at h
    · simp only [Bool.and_eq_true, decide_eq_true_eq] at h
      obtain ⟨h, hrp⟩ := h
      obtain ⟨q1, q2⟩ := O.gl1 h.1.1.2
      have ha := (sEx g G a true sc _ X B O h.2).w
      have st := st_of (es := []) (env := X.env) h.1.2
      have hb := h.1.1.1
      cases b <;> first | (cases hb; done) | skip
      · cases hb; exact RdE.of (s_len O.K q1 (O.gl.blt _ (by simp [bltNames])) ha st) fun ρ S => by conv => lhs; unfold evE
      · cases hb; exact RdE.of (s_tuple O.K q1 (O.gl.blt _ (by simp [bltNames])) ha st) fun ρ S => by conv => lhs; unfold evE
      · cases hb; exact RdE.of (PE.frozen (s_list O.K q1 (O.gl.blt _ (by simp [bltNames])) ha st)) fun ρ S => by conv => lhs; unfold evE
      · cases hb; exact RdE.of (PE.frozen (s_sorted O.K O.hu q1 (O.gl.blt _ (by simp [bltNames])) ha st)) fun ρ S => by conv => lhs; unfold evE
      · cases hb; exact RdE.of (s_all O.K (O.calm (by simpa using hrp)) q1 (O.gl.blt _ (by simp [bltNames])) ha st) fun ρ S => by conv => lhs; unfold evE
      · cases hb; exact RdE.of (s_any O.K (O.calm (by simpa using hrp)) q1 (O.gl.blt _ (by simp [bltNames])) ha st) fun ρ S => by conv => lhs; unfold evE
      · cases hb; exact RdE.of (s_int q1 (O.gl.blt _ (by simp [bltNames])) ha st) fun ρ S => by conv => lhs; unfold evE
      · cases hb; exact RdE.of (s_repr O.K (O.gd hrp) O.hu q1 (O.gl.blt _ (by simp [bltNames])) ha st) fun ρ S => by conv => lhs; unfold evE
      · cases hb; exact RdE.of (s_str q1 (O.gl.blt _ (by simp [bltNames])) ha st) fun ρ S => by conv => lhs; unfold evE
    · cases h
  | g, G, .sset a, rd, sc, e, X, B, O, h => by
    unfold ckE at h
    split at h
    · rw [Bool.and_eq_true, Bool.not_eq_true'] at h; obtain ⟨hh, h⟩ := h
      simp only [Bool.and_eq_true, decide_eq_true_eq] at h
      obtain ⟨⟨⟨⟨⟨h1, h2⟩, h3⟩, h4⟩, h5⟩, h6⟩ := h
      subst h1; subst h3
      exact RdE.of (PE.frozen (s_sset O.K (O.calm hh) O.hu (O.gl1 h2).1 (O.gl.blt _ (by simp [bltNames])) (O.gl1 h4).1 (O.gl.blt _ (by simp [bltNames])) (sEx g G a true sc _ X B O h6).w (st_of h5) rfl)) fun ρ S => by conv => lhs; unfold evE
    · cases h
  | g, G, .said k a, rd, sc, e, X, B, O, h => by
    unfold ckE at h
    split at h
    · rw [Bool.and_eq_true, Bool.not_eq_true'] at h; obtain ⟨hh, h⟩ := h
      simp only [Bool.and_eq_true, decide_eq_true_eq] at h
      obtain ⟨⟨⟨⟨h1, h2⟩, h3⟩, h4⟩, h5⟩ := h
      obtain ⟨so, ⟨c, cd, TB⟩, nm, low, k4⟩ := O.lam h2 _ _ h1
      have L := LamX.lamS_by ((lamSB_names O.nm).trans h4)
      have hr : Room (G.low.k + 2) X.A := (O.room hh).mono (by show G.k - 2 + 2 ≤ G.k; omega)
      exact RdE.of (s_said so (O.gl1 h3).1 TB cd nm hr L rfl (fun _ _ _ _ _ => rfl) fun E A outer s H f c' hr2 => (sEx g.low G.low a false _ _ _ _ (O.inLam L low hh hr2) h5).fz) fun ρ S => by conv => lhs; unfold evE
    · cases h
  | g, G, .isa a t, rd, sc, e, X, B, O, h => by
    unfold ckE at h
    split at h
    · simp only [Bool.and_eq_true, decide_eq_true_eq] at h
      obtain ⟨⟨⟨⟨⟨h1, h2⟩, h3⟩, h4⟩, h5⟩, h6⟩ := h
      subst h1; subst h3
      obtain ⟨q1, q2⟩ := O.gl1 h2
      obtain ⟨z1, z2⟩ := O.gl1 h4
      have hz : X.mg (Str.ofString (ityS t)) = none := O.gl.blt _ (by cases t <;> simp [bltNames, ityS])
      have hc : ∀ p2, PE X (.Name (Str.ofString (ityS t)) p2) (tC (.ty (ityS t))) := fun p2 => pe_bltn (v := .ty (ityS t)) (u := .type (ityS t)) z1 hz (by cases t <;> decide +kernel) rfl (by cases t <;> decide +kernel) z2
      exact RdE.of (s_isa O.K q1 (O.gl.blt _ (by simp [bltNames])) (sEx g G a true sc _ X B O h6).w (hc _) (st_of h5)) fun ρ S => by conv => lhs; unfold evE
    · cases h
  | g, G, .comp el t it ifs, rd, sc, e, X, B, O, h => by
    unfold ckE at h
    split at h
    · rw [Bool.and_eq_true, Bool.not_eq_true'] at h; obtain ⟨hh, h⟩ := h
      simp only [Bool.and_eq_true] at h
      obtain ⟨⟨⟨⟨⟨h1, h2⟩, h3⟩, h4⟩, h5⟩, h6⟩ := h
      have ok := O.blkOk h3
      have hv : (ownOf sc t).map (·.2) = t.vs := by unfold ownOf; rw [List.map_map]; exact List.map_id _
      exact RdE.of (PE.frozen (s_comp O.K (O.calm hh) (by rw [O.N]; exact O.nd) (sIx g G it sc _ _ X B O h1) ok hv (fun s H C cl fp => (O.blk hh ok s H C cl fp).target hh h4)
        (fun s H C cl fp => sTsx g G ifs _ _ _ B.calm (O.blk hh ok s H C cl fp) h5) (fun s H C cl fp => (sEx g G el false _ _ _ B.calm (O.blk hh ok s H C cl fp) h6).fz) (fold_of h2))) fun ρ S => by (conv => lhs; unfold evE); try rfl
    · cases h
  | g, G, .cnt i a, rd, sc, e, X, B, O, h => by
    unfold ckE at h
    split at h
    · simp only [Bool.and_eq_true, decide_eq_true_eq] at h
      obtain ⟨⟨⟨⟨h1, h2⟩, h3⟩, h4⟩, h5⟩ := h
      subst h1
      have st := st_of (es := []) (env := X.env) h3
      exact RdE.of (s_cnt (O.var h2) (sEx g G a false sc _ X B O h5).fz rfl (by rw [st]; rfl) h4 st rfl) fun ρ S => by (conv => lhs; unfold evE); try rfl
    · cases h
  | g, G, .isaC a k, rd, sc, e, X, B, O, h => by
    unfold ckE at h
    split at h
    · simp only [Bool.and_eq_true, decide_eq_true_eq] at h
      obtain ⟨⟨⟨⟨⟨⟨h0, h1⟩, h2⟩, h3⟩, h4⟩, h5⟩, h6⟩ := h
      subst h1
      obtain ⟨q1, q2⟩ := O.gl1 h2
      obtain ⟨z1, z2⟩ := O.gl1 h4
      obtain ⟨v, cv, c1, c2, c3, c4⟩ := O.gl.cls _ _ h3
      have hc : ∀ p2, PE X (.Name _ p2) (tC v) := fun p2 => by
        rcases c1 with c1 | ⟨c1, c5, c6⟩
        · exact pe_glob z1 c1 c2 z2
        · exact pe_bltn z1 c1 c5 c2 c6 z2
      exact RdE.of (s_isaC O.K c3 c4 (O.er h0) q1 (O.gl.blt _ (by simp [bltNames])) (sEx g G a false sc _ X B O h6).fz (hc _) (st_of h5)) fun ρ S => by conv => lhs; unfold evE
    · cases h
  | g, G, .fld a f, rd, sc, e, X, B, O, h => by
    unfold ckE at h
    split at h
    · simp only [Bool.and_eq_true, decide_eq_true_eq] at h
      obtain ⟨⟨h0, h1, h3⟩, h2⟩ := h
      subst h1
      exact RdE.of (s_fld (O.er h0) (sEx g G a false sc _ X B O h2).fz rfl h3) fun ρ S => by conv => lhs; unfold evE
    · cases h
  | g, G, .dget a k, rd, sc, e, X, B, O, h => by
    unfold ckE at h
    split at h
    · simp only [Bool.and_eq_true, decide_eq_true_eq] at h
      obtain ⟨h1, h2⟩ := h
      subst h1
      exact RdE.of (s_dget O.hu1 (sEx g G a false sc _ X B O h2).fz) fun ρ S => by conv => lhs; unfold evE
    · cases h
  | g, G, .dct ks es, rd, sc, e, X, B, O, h => by
    unfold ckE at h
    split at h
    · rename_i keys vals pos
      simp only [Bool.and_eq_true, decide_eq_true_eq, Bool.not_eq_true'] at h
      obtain ⟨⟨⟨⟨h1, h2⟩, h3⟩, h4⟩, h5⟩ := h
      obtain ⟨k1, k2⟩ := keys_all h1
      exact RdE.of (s_dct (sPsx g G es ks sc keys vals pos X B O h1 h3 h2) k1 h3 (by rintro rfl; cases h4) h5 (by omega)) fun ρ S => by conv => lhs; unfold evE
    · cases h
theorem sWsx : ∀ (g : Gt) (G : Tab) (es : CEs) (conj : Bool) (sc : Sc) (xs : List Expr) (op : BoolOp) (pos : Pos) (X : Cx) (B : At), Okc g G sc X B → isConj conj op = true → xs.isEmpty = false → ckWs g es sc xs = true → PE X (.BoolOp op xs pos) (tE B (asV (evBs G conj es)))
  | g, G, .nil, conj, sc, xs, op, pos, X, B, O, hc, h0, h => by unfold ckWs at h; rw [h] at h0; cases h0
  | g, G, .cons e .nil, conj, sc, xs, op, pos, X, B, O, hc, h0, h => by
    unfold ckWs at h
    split at h
    · rename_i x xs
      rw [Bool.and_eq_true] at h
      have h2 := h.2
      unfold ckWs at h2
      cases xs <;> first | (cases h2; done) | skip
      have := s_oneV (B := B) (k := conj) (op := op) (pos := pos) (sEx g G e true sc _ X B O h.1).w
      have eq : evBs G conj (.cons e .nil) = fun ρ S => rb (evE G e ρ S) fun x S => rb (lift (blD x) S) fun b S => if b = conj then some (.ok conj S) else some (.ok b S) := by
        funext ρ S; unfold evBs; unfold evBs; rfl
      rw [eq]
      exact this
    · cases h
  | g, G, .cons e (.cons e2 es), conj, sc, xs, op, pos, X, B, O, hc, h0, h => by
    unfold ckWs at h
    split at h
    · rename_i x xs
      rw [Bool.and_eq_true] at h
      cases xs with
      | nil => have h2 := h.2; unfold ckWs at h2; cases h2
      | cons y ys =>
        have h2 := sWsx g G (.cons e2 es) conj sc (y :: ys) op pos X B O hc rfl h.2
        have h1 := (sEx g G e true sc _ X B O h.1).w
        have eq : evBs G conj (.cons e (.cons e2 es)) = fun ρ S => rb (evE G e ρ S) fun x S => rb (lift (blD x) S) fun b S => if b = conj then evBs G conj (.cons e2 es) ρ S else some (.ok b S) := by
          funext ρ S; conv => lhs; unfold evBs
        rw [eq]
        cases conj <;> cases op <;> first | (cases hc; done) | skip
        · exact s_orV h1 h2
        · exact s_andV h1 h2
    · cases h
theorem sEsx : ∀ (g : Gt) (G : Tab) (es : CEs) (sc : Sc) (xs : List Expr) (X : Cx) (B : At), Okc g G sc X B → ckEs g es sc xs = true → PA X xs (tEs B (evEs G es))
  | g, G, .nil, sc, xs, X, B, O, h => by
    unfold ckEs at h
    cases xs <;> first | (cases h; done) | skip
    have eq : evEs G .nil = fun _ S => some (.ok [] S) := by funext ρ S; unfold evEs; rfl
    rw [eq]
    exact s_nil
  | g, G, .cons e es, sc, xs, X, B, O, h => by
    unfold ckEs at h
    split at h
    · simp only [Bool.and_eq_true] at h
      have eq : evEs G (.cons e es) = fun ρ S => rb (evE G e ρ S) fun d S => rb (evEs G es ρ S) fun ds S => some (.ok (d :: ds) S) := by funext ρ S; conv => lhs; unfold evEs
      rw [eq]
      exact s_cons (sEx g G e false sc _ X B O h.1.2).fz (sEsx g G es sc _ X B O h.2) (st_of h.1.1)
    · cases h
theorem sKwx : ∀ (g : Gt) (G : Tab) (es : CEs) (sc : Sc) (ks : List Str) (kws : List Keyword) (X : Cx) (B : At), Okc g G sc X B → ckKw g es sc ks kws = true → PK X kws (tEs B (evEs G es))
  | g, G, .nil, sc, ks, kws, X, B, O, h => by
    unfold ckKw at h
    rw [Bool.and_eq_true] at h
    cases kws <;> first | (cases h.2; done) | skip
    have eq : evEs G .nil = fun _ S => some (.ok [] S) := by funext ρ S; conv => lhs; unfold evEs
    rw [eq]
    exact PK.imp pk_nil fun σ H Q ⟨μ, S, F, ρ, r, g⟩ => g.here r.toSok [] .nil
  | g, G, .cons e es, sc, ks, kws, X, B, O, h => by
    unfold ckKw at h
    split at h
    · simp only [Bool.and_eq_true] at h
      have eq : evEs G (.cons e es) = fun ρ S => rb (evE G e ρ S) fun d S => rb (evEs G es ρ S) fun ds S => some (.ok (d :: ds) S) := by funext ρ S; conv => lhs; unfold evEs
      rw [eq]
      refine PK.imp (pk_cons (sEx g G e false sc _ X B O h.1.2).fz (sKwx g G es sc _ _ X B O h.2)) fun σ H Q ⟨μ, S, F, ρ, r, g⟩ => ?_
      refine ⟨μ, S, F, ρ, r, g.bind.mono fun d S1 μ1 F1 H1 k1 g1 v rv => ⟨μ1, S1, F1, ρ, r.step k1, g1.bind.mono fun ds S2 μ2 F2 H2 k2 g2 vs rvs => ?_⟩⟩
      exact Go.here (P := fun ds _ μ' F' H' => ∀ vs, Reps B.Γ μ' F' vs ds → Q vs H') g2 k2.toSok (v :: vs) (.cons (rv.gr k2.gr) rvs)
    · cases h
theorem sPsx : ∀ (g : Gt) (G : Tab) (es : CEs) (ks : List Str) (sc : Sc) (keys : List (Option Expr)) (xs : List Expr) (pos : Pos) (X : Cx) (B : At), Okc g G sc X B → ckKeys ks keys = true → keys.length = xs.length → ckEs g es sc xs = true → PPx B X pos keys xs ks (evEs G es)
  | g, G, .nil, ks, sc, keys, xs, pos, X, B, O, hk, hl, h => by
    unfold ckEs at h
    cases xs <;> first | (cases h; done) | skip
    cases keys <;> first | (cases hl; done) | skip
    cases ks with
    | cons _ _ => simp [ckKeys] at hk
    | nil =>
      have eq : evEs G .nil = fun _ S => some (.ok [] S) := by funext ρ S; conv => lhs; unfold evEs
      rw [eq]
      exact pp_nil
  | g, G, .cons e es, ks, sc, keys, xs, pos, X, B, O, hk, hl, h => by
    unfold ckEs at h
    split at h
    · rename_i x xs
      simp only [Bool.and_eq_true] at h
      cases ks with
      | nil => cases keys_nil hk; cases hl
      | cons k ks =>
        obtain ⟨j, p, keys', rfl, hk'⟩ := keys_cons hk
        have eq : evEs G (.cons e es) = fun ρ S => rb (evE G e ρ S) fun d S => rb (evEs G es ρ S) fun ds S => some (.ok (d :: ds) S) := by funext ρ S; conv => lhs; unfold evEs
        rw [eq]
        exact pp_cons (sEx g G e false sc _ X B O h.1.2).fz (sPsx g G es ks sc keys' xs pos X B O hk' (by simpa using hl) h.2)
    · cases h
theorem sTx : ∀ (g : Gt) (G : Tab) (t : CT) (sc : Sc) (e : Expr) (X : Cx) (B : At), Okc g G sc X B → ckT g t sc e = true → PT X e (tTt B (evT G t))
  | g, G, .val c, sc, e, X, B, O, h => by
    have plain : ∀ {c : CE} {e : Expr}, (plainT e && ckE g c true sc e) = true → RdE true X e B (evE G c) → PT X e (tTt B (evT G (.val c))) := fun {c e} h hs => by
      rw [Bool.and_eq_true] at h
      have eq : evT G (.val c) = fun ρ S => rb (evE G c ρ S) fun x S => lift x.truth S := by funext ρ S; conv => lhs; unfold evT
      rw [eq]
      exact s_truth O.K hs.w (plain_of h.1)
    cases c with
    | cmp o a b =>
      unfold ckT at h
      split at h
      · simp only [Bool.and_eq_true] at h
        cases isCop_eq h.1.1.1
        have eq : evT G (.val (.cmp o a b)) = fun ρ S => rb (rb (evE G a ρ S) fun x S => rb (evE G b ρ S) fun y S => lift ((cop o x y).map D.bl) S) fun (d : D) S => lift d.truth S := by
          funext ρ S; conv => lhs; unfold evT; unfold evE
        rw [eq]
        exact s_cmpT O.hu O.K (sEx g G a true sc _ X B O h.1.2).w (sEx g G b true sc _ X B O h.2).w (set_of h.1.1.2)
      · cases h
    | cmp2 o o' a b c =>
      unfold ckT at h
      split at h
      · simp only [Bool.and_eq_true] at h
        cases isCop_eq h.1.1.1.1.1
        cases isCop_eq h.1.1.1.1.2
        have eq : evT G (.val (.cmp2 o o' a b c)) = fun ρ S => rb (rb (evE G a ρ S) fun x S => rb (evE G b ρ S) fun y S => rb (lift (cop o x y) S) fun k S =>
            if k = true then rb (evE G c ρ S) fun z S => lift ((cop o' y z).map D.bl) S else some (.ok (.bl false) S)) fun (d : D) S => lift d.truth S := by
          funext ρ S; conv => lhs; unfold evT; unfold evE
        rw [eq]
        exact s_cmp2T O.hu O.K (sEx g G a true sc _ X B O h.1.1.2).w (sEx g G b true sc _ X B O h.1.2).w (sEx g G c true sc _ X B O h.2).w (set_of2 h.1.1.1.2)
      · cases h
    | isN ng a =>
      cases ng with
      | false =>
        unfold ckT at h
        split at h
        · have eq : evT G (.val (.isN false a)) = fun ρ S => rb (rb (evE G a ρ S) fun x S => some (.ok (D.bl (if false then !isNonD x else isNonD x)) S)) fun (d : D) S => lift d.truth S := by
            funext ρ S; conv => lhs; unfold evT; unfold evE
          rw [eq]
          exact s_isNT (sEx g G a true sc _ X B O h).w
        · cases h
      | true =>
        unfold ckT at h
        split at h
        · have eq : evT G (.val (.isN true a)) = fun ρ S => rb (rb (evE G a ρ S) fun x S => some (.ok (D.bl (if true then !isNonD x else isNonD x)) S)) fun (d : D) S => lift d.truth S := by
            funext ρ S; conv => lhs; unfold evT; unfold evE
          rw [eq]
          exact s_isNnT (sEx g G a true sc _ X B O h).w
        · cases h
    | cst d => unfold ckT at h; exact plain h (sEx g G _ true sc _ X B O (Bool.and_eq_true _ _ ▸ h).2)
    | var i => unfold ckT at h; exact plain h (sEx g G _ true sc _ X B O (Bool.and_eq_true _ _ ▸ h).2)
    | pk i => unfold ckT at h; exact plain h (sEx g G _ true sc _ X B O (Bool.and_eq_true _ _ ▸ h).2)
    | fn n => unfold ckT at h; exact plain h (sEx g G _ true sc _ X B O (Bool.and_eq_true _ _ ▸ h).2)
    | gc n => unfold ckT at h; exact plain h (sEx g G _ true sc _ X B O (Bool.and_eq_true _ _ ▸ h).2)
    | tup es => unfold ckT at h; exact plain h (sEx g G _ true sc _ X B O (Bool.and_eq_true _ _ ▸ h).2)
    | lst es => unfold ckT at h; exact plain h (sEx g G _ true sc _ X B O (Bool.and_eq_true _ _ ▸ h).2)
    | bin o a b => unfold ckT at h; exact plain h (sEx g G _ true sc _ X B O (Bool.and_eq_true _ _ ▸ h).2)
    | cat a b => unfold ckT at h; exact plain h (sEx g G _ true sc _ X B O (Bool.and_eq_true _ _ ▸ h).2)
    | neg a => unfold ckT at h; exact plain h (sEx g G _ true sc _ X B O (Bool.and_eq_true _ _ ▸ h).2)
    | isB c a => unfold ckT at h; exact plain h (sEx g G _ true sc _ X B O (Bool.and_eq_true _ _ ▸ h).2)
    | bool k es => unfold ckT at h; exact plain h (sEx g G _ true sc _ X B O (Bool.and_eq_true _ _ ▸ h).2)
    | not a => unfold ckT at h; exact plain h (sEx g G _ true sc _ X B O (Bool.and_eq_true _ _ ▸ h).2)
    | ite t a b => unfold ckT at h; exact plain h (sEx g G _ true sc _ X B O (Bool.and_eq_true _ _ ▸ h).2)
    | idx a i => unfold ckT at h; exact plain h (sEx g G _ true sc _ X B O (Bool.and_eq_true _ _ ▸ h).2)
    | slc a lo hi => unfold ckT at h; exact plain h (sEx g G _ true sc _ X B O (Bool.and_eq_true _ _ ▸ h).2)
    | rev a => unfold ckT at h; exact plain h (sEx g G _ true sc _ X B O (Bool.and_eq_true _ _ ▸ h).2)
    | callK f ks is es => unfold ckT at h; exact plain h (sEx g G _ true sc _ X B O (Bool.and_eq_true _ _ ▸ h).2)
    | call f es => unfold ckT at h; exact plain h (sEx g G _ true sc _ X B O (Bool.and_eq_true _ _ ▸ h).2)
    | blt b a => unfold ckT at h; exact plain h (sEx g G _ true sc _ X B O (Bool.and_eq_true _ _ ▸ h).2)
    | sset a => unfold ckT at h; exact plain h (sEx g G _ true sc _ X B O (Bool.and_eq_true _ _ ▸ h).2)
    | said k a => unfold ckT at h; exact plain h (sEx g G _ true sc _ X B O (Bool.and_eq_true _ _ ▸ h).2)
    | isa a t => unfold ckT at h; exact plain h (sEx g G _ true sc _ X B O (Bool.and_eq_true _ _ ▸ h).2)
    | comp e t it ifs => unfold ckT at h; exact plain h (sEx g G _ true sc _ X B O (Bool.and_eq_true _ _ ▸ h).2)
    | cnt i a => unfold ckT at h; exact plain h (sEx g G _ true sc _ X B O (Bool.and_eq_true _ _ ▸ h).2)
    | isaC a k => unfold ckT at h; exact plain h (sEx g G _ true sc _ X B O (Bool.and_eq_true _ _ ▸ h).2)
    | fld a f => unfold ckT at h; exact plain h (sEx g G _ true sc _ X B O (Bool.and_eq_true _ _ ▸ h).2)
    | dget a k => unfold ckT at h; exact plain h (sEx g G _ true sc _ X B O (Bool.and_eq_true _ _ ▸ h).2)
    | dct ks es => unfold ckT at h; exact plain h (sEx g G _ true sc _ X B O (Bool.and_eq_true _ _ ▸ h).2)
  | g, G, .bool conj ts, sc, e, X, B, O, h => by
    unfold ckT at h
    split at h
    · rename_i op xs pos
      simp only [Bool.and_eq_true, Bool.not_eq_true'] at h
      have eq : evT G (.bool conj ts) = evB G conj ts := by funext ρ S; conv => lhs; unfold evT
      rw [eq]
      exact (sBx g G ts conj sc xs op pos X B O h.1.1 h.1.2 h.2).pt
    · cases h
  | g, G, .not t, sc, e, X, B, O, h => by
    unfold ckT at h
    split at h
    · have eq : evT G (.not t) = fun ρ S => rb (evT G t ρ S) fun b S => some (.ok (!b) S) := by funext ρ S; conv => lhs; unfold evT
      rw [eq]
      exact s_notT (sTx g G t sc _ X B O h)
    · cases h
theorem sBx : ∀ (g : Gt) (G : Tab) (ts : CTs) (conj : Bool) (sc : Sc) (xs : List Expr) (op : BoolOp) (pos : Pos) (X : Cx) (B : At), Okc g G sc X B → isConj conj op = true → xs.isEmpty = false → ckB g ts sc xs = true → PW X (.BoolOp op xs pos) (tTt B (evB G conj ts))
  | g, G, .nil, conj, sc, xs, op, pos, X, B, O, hc, h0, h => by unfold ckB at h; rw [h] at h0; cases h0
  | g, G, .cons t .nil, conj, sc, xs, op, pos, X, B, O, hc, h0, h => by
    unfold ckB at h
    split at h
    · rename_i x xs
      rw [Bool.and_eq_true] at h
      have h2 := h.2
      unfold ckB at h2
      cases xs <;> first | (cases h2; done) | skip
      have eq : evB G conj (.cons t .nil) = fun ρ S => rb (evT G t ρ S) fun b S => if b = conj then some (.ok conj S) else some (.ok b S) := by
        funext ρ S; unfold evB; unfold evB; rfl
      rw [eq]
      have h1 := sTx g G t sc _ X B O h.1
      cases conj <;> cases op <;> first | (cases hc; done) | skip
      · exact s_one h1 fun _ t ht => pw_or1 ht
      · exact s_one h1 fun _ t ht => pw_and1 ht
    · cases h
  | g, G, .cons t (.cons t2 ts), conj, sc, xs, op, pos, X, B, O, hc, h0, h => by
    unfold ckB at h
    split at h
    · rename_i x xs
      rw [Bool.and_eq_true] at h
      cases xs with
      | nil => have h2 := h.2; unfold ckB at h2; cases h2
      | cons y ys =>
        have h2 := sBx g G (.cons t2 ts) conj sc (y :: ys) op pos X B O hc rfl h.2
        have h1 := sTx g G t sc _ X B O h.1
        have eq : evB G conj (.cons t (.cons t2 ts)) = fun ρ S => rb (evT G t ρ S) fun b S => if b = conj then evB G conj (.cons t2 ts) ρ S else some (.ok b S) := by
          funext ρ S; conv => lhs; unfold evB
        rw [eq]
        cases conj <;> cases op <;> first | (cases hc; done) | skip
        · exact s_orT h1 h2
        · exact s_andT h1 h2
    · cases h
theorem sTsx : ∀ (g : Gt) (G : Tab) (ts : CTs) (sc : Sc) (xs : List Expr) (X : Cx) (B : At), Okc g G sc X B → ckTs g ts sc xs = true → PTs X xs (tTt B (evTs G ts))
  | g, G, .nil, sc, xs, X, B, O, h => by
    unfold ckTs at h
    cases xs <;> first | (cases h; done) | skip
    have eq : evTs G .nil = fun _ S => some (.ok true S) := by funext ρ S; conv => lhs; unfold evTs
    rw [eq]
    exact ts_nil
  | g, G, .cons t .nil, sc, xs, X, B, O, h => by
    unfold ckTs at h
    split at h
    · have eq : evTs G (.cons t .nil) = fun ρ S => rb (evT G t ρ S) fun b S => if b = true then some (.ok true S) else some (.ok false S) := by funext ρ S; unfold evTs; unfold evTs; rfl
      rw [eq]
      exact ts_one (sTx g G t sc _ X B O h)
    · cases h
  | g, G, .cons t (.cons t2 ts), sc, xs, X, B, O, h => by unfold ckTs at h; cases h
theorem sOx : ∀ (g : Gt) (G : Tab) (o : CEo) (sc : Sc) (e : Option Expr) (X : Cx) (B : At), Okc g G sc X B → ckO g o sc e = true → PO X e (tOo B (evO G o))
  | g, G, .no, sc, e, X, B, O, h => by
    unfold ckO at h
    cases e with
    | some _ => cases h
    | none =>
      have eq : evO G .no = fun _ S => some (.ok none S) := by funext ρ S; conv => lhs; unfold evO
      rw [eq]
      exact s_no
  | g, G, .so c, sc, e, X, B, O, h => by
    unfold ckO at h
    split at h
    · have eq : evO G (.so c) = oI (evE G c) := by funext ρ S; (conv => lhs; unfold evO); unfold oI; rfl
      rw [eq]
      exact s_so (sEx g G c true sc _ X B O h).w
    · cases h
theorem sIx : ∀ (g : Gt) (G : Tab) (c : CI) (sc : Sc) (tg e : Expr) (X : Cx) (B : At), Okc g G sc X B → ckI g c false sc tg e = true → PI X tg e (tI B (evI G c))
  | g, G, .ex c, sc, tg, e, X, B, O, h => by
    unfold ckI at h
    have eq : evI G (.ex c) = fun ρ S => rb (evE G c ρ S) fun x S => lift (iterD x) S := by funext ρ S; conv => lhs; unfold evI
    rw [eq]
    exact i_ex O.K (sEx g G c true sc _ X B O h).w
  | g, G, .rng c, sc, tg, e, X, B, O, h => by
    unfold ckI at h
    split at h
    · simp only [Bool.and_eq_true, decide_eq_true_eq] at h
      obtain ⟨⟨⟨h1, h2⟩, h3⟩, h4⟩ := h
      subst h1
      have eq : evI G (.rng c) = fun ρ S => rb (evE G c ρ S) fun x S => lift (rng1D x) S := by funext ρ S; conv => lhs; unfold evI
      rw [eq]
      exact PI.weakS (i_rng (O.gl1 h2).1 (O.gl.blt _ (by simp [bltNames])) (sEx g G c true sc _ X B O h4).w (st_of h3))
    · cases h
  | g, G, .rng2 a b, sc, tg, e, X, B, O, h => by
    unfold ckI at h
    split at h
    · simp only [Bool.and_eq_true, decide_eq_true_eq] at h
      obtain ⟨⟨⟨⟨⟨h1, h2⟩, h3⟩, h4⟩, h5⟩, h6⟩ := h
      subst h1
      have eq : evI G (.rng2 a b) = fun ρ S => rb (evE G a ρ S) fun x S => rb (evE G b ρ S) fun y S => lift (rng2D x y) S := by funext ρ S; conv => lhs; unfold evI
      rw [eq]
      exact PI.weakS (i_rng2 (O.gl1 h2).1 (O.gl.blt _ (by simp [bltNames])) (sEx g G a true sc _ X B O h5).w (sEx g G b true sc _ X B O h6).w (by rw [st_of h3, st_of h4]; rfl) (st_of h4))
    · cases h
  | g, G, .enum c, sc, tg, e, X, B, O, h => by
    unfold ckI at h
    split at h
    · simp only [Bool.and_eq_true, decide_eq_true_eq] at h
      obtain ⟨⟨⟨h1, h2⟩, h3⟩, h4⟩ := h
      subst h1
      have eq : evI G (.enum c) = fun ρ S => rb (evE G c ρ S) fun x S => lift ((seqD x).map enumD) S := by funext ρ S; conv => lhs; unfold evI
      rw [eq]
      exact PI.weakS (i_enum O.K (O.gl1 h2).1 (O.gl.blt _ (by simp [bltNames])) (sEx g G c false sc _ X B O h4).fz (st_of h3))
    · cases h
end
theorem sE : ∀ (c : CE) (rd : Bool) (sc : Sc) (e : Expr) (X : Cx) (B : At), Okc g G sc X B → ckE g c rd sc e = true → RdE rd X e B (evE G c) := sEx g G
theorem sWs : ∀ (es : CEs) (conj : Bool) (sc : Sc) (xs : List Expr) (op : BoolOp) (pos : Pos) (X : Cx) (B : At), Okc g G sc X B → isConj conj op = true → xs.isEmpty = false → ckWs g es sc xs = true → PE X (.BoolOp op xs pos) (tE B (asV (evBs G conj es))) := sWsx g G
theorem sEs : ∀ (es : CEs) (sc : Sc) (xs : List Expr) (X : Cx) (B : At), Okc g G sc X B → ckEs g es sc xs = true → PA X xs (tEs B (evEs G es)) := sEsx g G
theorem sKw : ∀ (es : CEs) (sc : Sc) (ks : List Str) (kws : List Keyword) (X : Cx) (B : At), Okc g G sc X B → ckKw g es sc ks kws = true → PK X kws (tEs B (evEs G es)) := sKwx g G
theorem sPs : ∀ (es : CEs) (ks : List Str) (sc : Sc) (keys : List (Option Expr)) (xs : List Expr) (pos : Pos) (X : Cx) (B : At), Okc g G sc X B → ckKeys ks keys = true → keys.length = xs.length → ckEs g es sc xs = true → PPx B X pos keys xs ks (evEs G es) := sPsx g G
theorem sT : ∀ (t : CT) (sc : Sc) (e : Expr) (X : Cx) (B : At), Okc g G sc X B → ckT g t sc e = true → PT X e (tTt B (evT G t)) := sTx g G
theorem sB : ∀ (ts : CTs) (conj : Bool) (sc : Sc) (xs : List Expr) (op : BoolOp) (pos : Pos) (X : Cx) (B : At), Okc g G sc X B → isConj conj op = true → xs.isEmpty = false → ckB g ts sc xs = true → PW X (.BoolOp op xs pos) (tTt B (evB G conj ts)) := sBx g G
theorem sTs : ∀ (ts : CTs) (sc : Sc) (xs : List Expr) (X : Cx) (B : At), Okc g G sc X B → ckTs g ts sc xs = true → PTs X xs (tTt B (evTs G ts)) := sTsx g G
theorem sO : ∀ (o : CEo) (sc : Sc) (e : Option Expr) (X : Cx) (B : At), Okc g G sc X B → ckO g o sc e = true → PO X e (tOo B (evO G o)) := sOx g G
theorem sI : ∀ (c : CI) (sc : Sc) (tg e : Expr) (X : Cx) (B : At), Okc g G sc X B → ckI g c false sc tg e = true → PI X tg e (tI B (evI G c)) := sIx g G
end
end Mi
end

section
set_option linter.all false
set_option maxRecDepth 100000
set_option Elab.async false
/-! Mi16: a program's text is what the short program says: statements. -/
namespace Mi
open PySem L2

section
variable {g : Gt} {G : Tab}
theorem sN (c : CE) (sc : Sc) (e : Expr) (X : Cx) (B : At) (O : Okc g G sc X B) (h : ckE g c false sc e = true) (hn : newC c = true) : PE X e (tN B (evE G c)) := by
  cases c <;> first | (cases hn; done) | skip
  case lst es =>
    unfold ckE at h
    split at h
    · have eq : evE G (.lst es) = fun ρ S => rb (evEs G es ρ S) fun ds S => lift (mkL ds) S := by funext ρ S; conv => lhs; unfold evE
      rw [eq]
      exact s_lst (sEs es sc _ X B O h)
    · cases h
  case cat a b =>
    unfold ckE at h
    split at h
    · simp only [Bool.and_eq_true] at h
      have ha := (sE a true sc _ X B O h.1.2).w
      have hb := (sE b true sc _ X B O h.2).w
      have ho := h.1.1
      rename_i op _ _
      cases op <;> first | cases ho; done | skip
      have eq : evE G (.cat a b) = fun ρ S => rb (evE G a ρ S) fun x S => rb (evE G b ρ S) fun y S => lift (catD x y) S := by funext ρ S; conv => lhs; unfold evE
      rw [eq]
      exact s_cat O.K ha hb
    · cases h
  case blt b a =>
    cases b <;> first | (cases hn; done) | skip
    · unfold ckE at h
      split at h
      · simp only [Bool.and_eq_true, decide_eq_true_eq] at h
        obtain ⟨h, hrp⟩ := h
        obtain ⟨q1, q2⟩ := O.gl1 h.1.1.2
        have hb := h.1.1.1
        cases hb
        have eq : evE G (.blt .list a) = fun ρ S => rb (evE G a ρ S) fun x S => lift (bltD .list x) S := by funext ρ S; conv => lhs; unfold evE
        rw [eq]
        exact s_list O.K q1 (O.gl.blt _ (by simp [bltNames])) (sE a true sc _ X B O h.2).w (st_of (es := []) (env := X.env) h.1.2)
      · cases h
    · unfold ckE at h
      split at h
      · simp only [Bool.and_eq_true, decide_eq_true_eq] at h
        obtain ⟨h, hrp⟩ := h
        obtain ⟨q1, q2⟩ := O.gl1 h.1.1.2
        have hb := h.1.1.1
        cases hb
        have eq : evE G (.blt .sorted a) = fun ρ S => rb (evE G a ρ S) fun x S => lift (bltD .sorted x) S := by funext ρ S; conv => lhs; unfold evE
        rw [eq]
        exact s_sorted O.K O.hu q1 (O.gl.blt _ (by simp [bltNames])) (sE a true sc _ X B O h.2).w (st_of (es := []) (env := X.env) h.1.2)
      · cases h
  case sset a =>
    unfold ckE at h
    split at h
    · rw [Bool.and_eq_true, Bool.not_eq_true'] at h; obtain ⟨hh, h⟩ := h
      simp only [Bool.and_eq_true, decide_eq_true_eq] at h
      obtain ⟨⟨⟨⟨⟨h1, h2⟩, h3⟩, h4⟩, h5⟩, h6⟩ := h
      subst h1; subst h3
      have eq : evE G (.sset a) = fun ρ S => rb (evE G a ρ S) fun x S => lift (ssetD x) S := by funext ρ S; conv => lhs; unfold evE
      rw [eq]
      exact s_sset O.K (O.calm hh) O.hu (O.gl1 h2).1 (O.gl.blt _ (by simp [bltNames])) (O.gl1 h4).1 (O.gl.blt _ (by simp [bltNames])) (sE a true sc _ X B O h6).w (st_of h5) rfl
    · cases h
  case comp el t it ifs =>
    unfold ckE at h
    split at h
    · rw [Bool.and_eq_true, Bool.not_eq_true'] at h; obtain ⟨hh, h⟩ := h
      simp only [Bool.and_eq_true] at h
      obtain ⟨⟨⟨⟨⟨h1, h2⟩, h3⟩, h4⟩, h5⟩, h6⟩ := h
      have ok := O.blkOk h3
      have hv : (ownOf sc t).map (·.2) = t.vs := by unfold ownOf; rw [List.map_map]; exact List.map_id _
      have eq : evE G (.comp el t it ifs) = compE t (evI G it) (evTs G ifs) (evE G el) := by funext ρ S; (conv => lhs; unfold evE); try rfl
      rw [eq]
      exact s_comp O.K (O.calm hh) (by rw [O.N]; exact O.nd) (sI it sc _ _ X B O h1) ok hv (fun s H C cl fp => (O.blk hh ok s H C cl fp).target hh h4)
        (fun s H C cl fp => sTs ifs _ _ _ B.calm (O.blk hh ok s H C cl fp) h5) (fun s H C cl fp => (sE el false _ _ _ B.calm (O.blk hh ok s H C cl fp) h6).fz) (fold_of h2)
    · cases h
theorem sIs : ∀ (c : CI) (sc : Sc) (tg e : Expr) (X : Cx) (B : At), Okc g G sc X B → ckI g c true sc tg e = true → PI X tg e (tIs B (evI G c))
  | .ex c, sc, tg, e, X, B, O, h => by
    unfold ckI at h
    have eq : evI G (.ex c) = fun ρ S => rb (evE G c ρ S) fun x S => lift (iterD x) S := by funext ρ S; conv => lhs; unfold evI
    rw [eq]
    exact i_exs O.K (sE c false sc _ X B O h).fz
  | .rng c, sc, tg, e, X, B, O, h => by
    unfold ckI at h
    split at h
    · simp only [Bool.and_eq_true, decide_eq_true_eq] at h
      obtain ⟨⟨⟨h1, h2⟩, h3⟩, h4⟩ := h
      subst h1
      have eq : evI G (.rng c) = fun ρ S => rb (evE G c ρ S) fun x S => lift (rng1D x) S := by funext ρ S; conv => lhs; unfold evI
      rw [eq]
      exact i_rng (O.gl1 h2).1 (O.gl.blt _ (by simp [bltNames])) (sE c true sc _ X B O h4).w (st_of h3)
    · cases h
  | .rng2 a b, sc, tg, e, X, B, O, h => by
    unfold ckI at h
    split at h
    · simp only [Bool.and_eq_true, decide_eq_true_eq] at h
      obtain ⟨⟨⟨⟨⟨h1, h2⟩, h3⟩, h4⟩, h5⟩, h6⟩ := h
      subst h1
      have eq : evI G (.rng2 a b) = fun ρ S => rb (evE G a ρ S) fun x S => rb (evE G b ρ S) fun y S => lift (rng2D x y) S := by funext ρ S; conv => lhs; unfold evI
      rw [eq]
      exact i_rng2 (O.gl1 h2).1 (O.gl.blt _ (by simp [bltNames])) (sE a true sc _ X B O h5).w (sE b true sc _ X B O h6).w (by rw [st_of h3, st_of h4]; rfl) (st_of h4)
    · cases h
  | .enum c, sc, tg, e, X, B, O, h => by
    unfold ckI at h
    split at h
    · simp only [Bool.and_eq_true, decide_eq_true_eq] at h
      obtain ⟨⟨⟨h1, h2⟩, h3⟩, h4⟩ := h
      subst h1
      have eq : evI G (.enum c) = fun ρ S => rb (evE G c ρ S) fun x S => lift ((seqD x).map enumD) S := by funext ρ S; conv => lhs; unfold evI
      rw [eq]
      exact (i_enum O.K (O.gl1 h2).1 (O.gl.blt _ (by simp [bltNames])) (sE c false sc _ X B O h4).fz (st_of h3))
    · cases h
end

/-- a name given a comprehension by the exchange of names -/
def swp (sc : Sc) (x : Str) (p : Pos) (v : Expr) : Bool := match v with
  | .ListComp _ _ s p2 => (sc.nms.lookup x == some .local) && p.line == p2.line && !(s.names.any fun (n, k) => n == x && (k == .local || k == .cell))
  | _ => false
def noComp : Expr → Bool
  | .ListComp _ _ _ _ => false | .SetComp _ _ _ _ => false | .DictComp _ _ _ _ _ => false
  | _ => true
def noComp2 : Expr → Bool
  | .SetComp _ _ _ _ => false | .DictComp _ _ _ _ _ => false
  | _ => true
def noTup : Expr → Bool
  | .Tuple _ _ _ => false
  | _ => true
/-- two local names given a pair -/
def parOk (sc : Sc) (x y : Str) (px py : Pos) (a b : Expr) : Bool :=
  (sc.nms.lookup x == some .local) && (sc.nms.lookup y == some .local) && px.line == py.line && !(x == y) && noStar a && noStar b && !(foldedForSure 8 a && foldedForSure 8 b) && !(constantsAlone 8 a && constantsAlone 8 b)

mutual
def ckS (g : Gt) : CS → Sc → Stmt → Bool
  | .asg i c, sc, st => match st with
    | .Assign [.Name x p] v _ => sc.tgt x i && ckE g c false sc v && noComp2 v && (!(swp sc x p v) || newC c)
    | _ => false
  | .asgO i c, sc, st => match st with
    | .Assign [.Name x p] v _ => sc.tgt x i && ckE g c false sc v && noComp2 v && newC c
    | _ => false
  | .unp t c, sc, st => match st with
    | .Assign [.Tuple [.Name x px, .Name y py] _ _] (.Tuple [va, vb] _ _) _ => !g.hot && (parOk sc x y px py va vb && (match t, c with
      | .tp [i, j], .tup es => sc.tgt x i && sc.tgt y j && ckEs g es sc [va, vb]
      | _, _ => false))
    | .Assign [.Tuple ts kt pt] v _ => !g.hot && (ckTg sc t (.Tuple ts kt pt) && ckE g c false sc v && noTup v)
    | _ => false
  | .expr c, sc, st => match st with
    | .Expr v _ => ckE g c true sc v && noComp v
    | _ => false
  | .ifs t a b, sc, st => match st with
    | .If e xs ys _ => ckT g t sc e && ckSs g a sc xs && ckSs g b sc ys
    | _ => false
  | .ret c, sc, st => match st with
    | .Return (some v) _ => ckE g c false sc v
    | _ => false
  | .retN, _, st => match st with
    | .Return none _ => true
    | _ => false
  | .retO i, sc, st => match st with
    | .Return (some (.Name x _)) _ => sc.vis x i
    | _ => false
  | .for1 t it b, sc, st => match st with
    | .For tg iter body [] _ => !g.hot && (ckI g it true sc tg iter && noSet iter && ckTg sc t tg && ckSs g b sc body)
    | _ => false
  | .whl _ t b, sc, st => match st with
    | .While e body [] _ => ckT g t sc e && ckSs g b sc body
    | _ => false
  | .app i c, sc, st => match st with
    | .Expr (.Call (.Attribute (.Name x _) m ap) [v] [] cp) _ => decide (m = "append") && sc.vis x i && ckE g c false sc v && noStar v && ap.endLine == cp.line
    | _ => false
  | .ext i c, sc, st => match st with
    | .Expr (.Call (.Attribute (.Name x _) m ap) [v] [] cp) _ => decide (m = "extend") && sc.vis x i && ckE g c false sc v && newC c && noStar v && ap.endLine == cp.line
    | _ => false
  | .seti i k c, sc, st => match st with
    | .Assign [.Subscript (.Name x _) y _] v _ => sc.vis x i && ckE g k false sc y && noSlice y && ckE g c false sc v
    | _ => false
  | .dput a k c, sc, st => match st with
    | .Assign [.Subscript x (.Constant (.str k') _ _) _] v _ => decide (k = k') && ckE g a false sc x && ckE g c false sc v
    | _ => false
  | .raise c es, sc, st => match st with
    | .Raise (some (.Call (.Name x _) xs [] _)) none _ => !g.hot && (sc.gl x && (match g.exs.lookup x with | some (c', _, _) => decide (c = c') | none => false) && !xs.isEmpty && ckEs g es sc xs)
    | _ => false
  | .frz _, _, _ => false
  | .pass, _, st => match st with
    | .Pass _ => true
    | .Expr (.Constant (.str _) _ _) _ => true
    | _ => false
  | .brk, _, st => match st with
    | .Break _ => true
    | _ => false
  | .cont, _, st => match st with
    | .Continue _ => true
    | _ => false
def ckSs (g : Gt) : CSs → Sc → List Stmt → Bool
  | .nil, _, sts => sts.isEmpty
  | .cons (.frz _) ss, sc, sts => ckSs g ss sc sts
  | .cons s ss, sc, sts => match sts with
    | st :: sts => ckS g s sc st && ckSs g ss sc sts
    | _ => false
end

theorem swp_of {sc : Sc} {X : Cx} {x : Str} {p : Pos} {v : Expr} {l : Nat} (nm : X.env.scope.names = sc.nms) (kd : X.env.scope.kind = .function) (h : noComp2 v = true) : swapsWith v (some (.Name x p)) l X.env = pure (swp sc x p v) := by
  cases v <;> first | rfl | (cases h; done) | skip
  rename_i elt gens s p2
  show pure (X.env.blockKind == .function && X.env.kindOf x == some .local && p.line == p2.line && !(s.names.any fun (n, k) => n == x && (k == .local || k == .cell))) = _
  unfold Env.blockKind Env.kindOf
  rw [nm, kd]
  rfl
theorem noc_of {v : Expr} {l : Nat} {env : PySem.Env} (h : noComp v = true) : swapsWith v none l env = pure false := by cases v <;> first | rfl | cases h
theorem swT_of {v : Expr} {ts : List Expr} {kt : Nat} {pt : Pos} {l : Nat} {env : PySem.Env} : swapsWithSole [.Tuple ts kt pt] v l env = pure false := by cases v <;> rfl
theorem swN_of {v : Expr} {ts : List Expr} {kt : Nat} {pt : Pos} {env : PySem.Env} (h : noTup v = true) : swappedStores [.Tuple ts kt pt] v env = pure none := by cases v <;> first | rfl | cases h
theorem swS_of {v o i : Expr} {p : Pos} {l : Nat} {env : PySem.Env} : swapsWith v (some (.Subscript o i p)) l env = pure false := by cases v <;> rfl
theorem Loc_of {sc : Sc} {X : Cx} {x : Str} {i : Nat} (nm : X.env.scope.names = sc.nms) (fn : sc.all = true → ∀ x, X.fn x = true) (h : sc.tgt x i = true) : sc.N[i]? = some x ∧ L2.Loc X.env.scope x ∧ (X.fn x = true ∨ X.env.scope.names.lookup x = some .local) := by
  unfold Sc.tgt at h
  simp only [Bool.and_eq_true, decide_eq_true_eq] at h
  obtain ⟨h1, h2⟩ := h
  refine ⟨h1, ?_⟩
  unfold L2.Loc
  rw [nm]
  split at h2
  · rename_i e; exact ⟨.inl e, .inr e⟩
  · rename_i e; exact ⟨.inr e, .inl (fn h2 x)⟩
  · cases h2

theorem par_of {sc : Sc} {X : Cx} {x y : Str} {px py pt pt2 : Pos} {a b : Expr} {kt k2 : Nat} (nm : X.env.scope.names = sc.nms) (kd : X.env.scope.kind = .function) (h : parOk sc x y px py a b = true) :
    swappedStores [.Tuple [.Name x px, .Name y py] kt pt] (.Tuple [a, b] k2 pt2) X.env = pure (some [x, y]) := by
  unfold parOk at h
  simp only [Bool.and_eq_true, Bool.not_eq_true', beq_iff_eq, beq_eq_false_iff_ne] at h
  obtain ⟨⟨⟨⟨⟨⟨⟨h1, h2⟩, h3⟩, h4⟩, h5⟩, h6⟩, h7⟩, h8⟩ := h
  have e1 : X.env.kindOf x = some NameKind.local := by unfold Env.kindOf; rw [nm, h1]
  have e2 : X.env.kindOf y = some NameKind.local := by unfold Env.kindOf; rw [nm, h2]
  have e3 : X.env.blockKind = .function := by unfold Env.blockKind; rw [kd]; rfl
  have hy : (y == x) = false := by simpa using fun z => h4 z.symm
  have hf : [a, b].all (foldedForSure 8) = false := by simpa using h7
  have hc : [a, b].all (constantsAlone 8) = false := by simpa using h8
  simp only [swappedStores, pure_bind, e3, hf, hc]
  simp [Expr.pos, e1, e2, h3, List.eraseDups_cons, hy]
  rintro (z | z)
  · cases a <;> first | (cases h5; done) | cases z
  · cases b <;> first | (cases h6; done) | cases z

section
variable {g : Gt} {G : Tab}
theorem Okc.e {sc : Sc} {X : Cx} {B : At} (O : Okc g G sc X B) (hh : g.hot = false) (E : En) : Okc g G sc X ⟨B.Γ, E, B.W⟩ := ⟨O.nm, O.kd, O.N, O.nd, O.K, O.calm, O.fn, O.room, O.un, O.gd, O.tk, O.gl, fun z => (by rw [hh] at z; cases z), fun hs x k hx => let ⟨h1, h2, h3, h4, h5⟩ := O.lam hs x k hx; ⟨h1, h2, h3, h4, h5⟩⟩

/-- name = e, the list being new -/
theorem s_nameN {i : Nat} {c : CE} {sc : Sc} {X : Cx} {B : At} {x : Str} {p pos : Pos} {v : Expr} (O : Okc g G sc X B) (h1 : sc.tgt x i = true) (h2 : ckE g c false sc v = true) (h3 : noComp2 v = true) (hn : newC c = true) :
    PS X (.Assign [.Name x p] v pos) (tAsg (tN B (evE G c)) (gName i)) := by
  obtain ⟨l1, l2, l3⟩ := Loc_of O.nm O.fn h1
  have hN : X.N.Nodup := by rw [O.N]; exact O.nd
  have hsw := swp_of (x := x) (p := p) (l := pos.line) O.nm O.kd h3
  cases q : swp sc x p v with
  | false =>
    rw [q] at hsw
    exact ps_set hN (by rw [O.N]; exact l1) l2 (sN c sc v X B O h2 hn) hsw l3
  | true =>
    rw [q] at hsw
    cases v <;> first | (cases q; done) | skip
    cases c <;> first | (cases hn; done) | (unfold ckE at h2; cases h2; done) | skip
    rename_i el t it ifs
    unfold ckE at h2
    split at h2
    · rename_i e0
      cases e0
      rw [Bool.and_eq_true, Bool.not_eq_true'] at h2; obtain ⟨hh, h2⟩ := h2
      simp only [Bool.and_eq_true] at h2
      obtain ⟨⟨⟨⟨⟨h1', h2'⟩, h3'⟩, h4⟩, h5⟩, h6⟩ := h2
      have ok := O.blkOk h3'
      have hyl : X.env.scope.names.lookup x = some .local := by
        rw [O.nm]
        unfold swp at q
        simp only [Bool.and_eq_true] at q
        exact beq_iff_eq.mp q.1.1
      have hv : (ownOf sc t).map (·.2) = t.vs := by unfold ownOf; rw [List.map_map]; exact List.map_id _
      have eq : evE G (.comp el t it ifs) = compE t (evI G it) (evTs G ifs) (evE G el) := by funext ρ S; (conv => lhs; unfold evE); try rfl
      rw [eq]
      exact s_setLc (O.calm hh) hN (by rw [O.N]; exact l1) hyl hsw (sI it sc _ _ X B O h1') ok hv (fun s H C cl fp => (O.blk hh ok s H C cl fp).target hh h4)
        (fun s H C cl fp => sTs ifs _ _ _ B.calm (O.blk hh ok s H C cl fp) h5) (fun s H C cl fp => (sE el false _ _ _ B.calm (O.blk hh ok s H C cl fp) h6).fz) (fold_of h2')
    · cases h2
theorem s_name {i : Nat} {c : CE} {sc : Sc} {X : Cx} {B : At} {x : Str} {p pos : Pos} {v : Expr} (O : Okc g G sc X B) (h1 : sc.tgt x i = true) (h2 : ckE g c false sc v = true) (h3 : noComp2 v = true) (h4 : (!(swp sc x p v) || newC c) = true) :
    PS X (.Assign [.Name x p] v pos) (tAsg (tE B (evE G c)) (gName i)) := by
  by_cases hn : newC c = true
  · exact tAsg_frozen (s_nameN O h1 h2 h3 hn)
  · obtain ⟨l1, l2, l3⟩ := Loc_of O.nm O.fn h1
    have hN : X.N.Nodup := by rw [O.N]; exact O.nd
    have hsw := swp_of (x := x) (p := p) (l := pos.line) O.nm O.kd h3
    have q : swp sc x p v = false := by
      rw [Bool.or_eq_true, Bool.not_eq_true'] at h4
      exact h4.resolve_right hn
    rw [q] at hsw
    exact ps_set hN (by rw [O.N]; exact l1) l2 (sE c false sc v X B O h2).fz hsw l3

mutual
theorem sS : ∀ (s : CS) (sc : Sc) (st : Stmt) (X : Cx) (B : At), PassesOwn (model X.prog X.w) X.A X.env X.xe → Okc g G sc X B → ckS g s sc st = true → PS X st (tS B (evS G s))
  | .asg i c, sc, st, X, B, P, O, h => by
    unfold ckS at h
    split at h
    · simp only [Bool.and_eq_true] at h
      have eq : evS G (.asg i c) = fun ρ S => vb (evE G c ρ S) fun d S => some (.nx (ρ.set i (.val d)) S) := by funext ρ S; conv => lhs; unfold evS
      rw [eq]
      exact s_asg (s_name O h.1.1.1 h.1.1.2 h.1.2 h.2)
    · cases h
  | .asgO i c, sc, st, X, B, P, O, h => by
    unfold ckS at h
    split at h
    · simp only [Bool.and_eq_true] at h
      have eq : evS G (.asgO i c) = fun ρ S => vb (evE G c ρ S) fun d S => match lstD d with | some ds => some (.nx (ρ.set i (.own ds)) S) | none => none := by funext ρ S; (conv => lhs; unfold evS); try rfl
      rw [eq]
      exact s_asgO (s_nameN O h.1.1.1 h.1.1.2 h.1.2 h.2)
    · cases h
  | .unp t c, sc, st, X, B, P, O, h => by
    unfold ckS at h
    split at h
    · rename_i x px y py _ _ va vb1 _ _ _
      rw [Bool.and_eq_true, Bool.not_eq_true'] at h; obtain ⟨hh, h⟩ := h
      rw [Bool.and_eq_true] at h
      obtain ⟨h1, h2⟩ := h
      split at h2
      · rename_i i j es
        simp only [Bool.and_eq_true] at h2
        obtain ⟨⟨t1, t2⟩, t3⟩ := h2
        have pq := fun {kt k2 pt pt2} => par_of (kt := kt) (k2 := k2) (pt := pt) (pt2 := pt2) O.nm O.kd h1
        obtain ⟨l1, _, _⟩ := Loc_of O.nm O.fn t1
        obtain ⟨l2, _, _⟩ := Loc_of O.nm O.fn t2
        have hx := h1
        unfold parOk at hx
        simp only [Bool.and_eq_true, Bool.not_eq_true', beq_iff_eq, beq_eq_false_iff_ne] at hx
        obtain ⟨⟨⟨⟨⟨⟨⟨x1, x2⟩, x3⟩, x4⟩, x5⟩, x6⟩, x7⟩, x8⟩ := hx
        have hij : i ≠ j := fun z => by
          subst z
          rw [l1] at l2
          exact x4 (Option.some.inj l2)
        have eq : evS G (.unp (.tp [i, j]) (.tup es)) = fun ρ S => vb (rb (evEs G es ρ S) fun ds S => lift (mkT ds) S) fun d S => match bindT (.tp [i, j]) d ρ with
            | some ρ' => some (.nx ρ' S)
            | none => none := by funext ρ S; (conv => lhs; unfold evS); (conv => lhs; unfold evE); try rfl
        rw [eq]
        exact s_par hij (ps_par (O.calm hh) (by rw [O.N]; exact O.nd) (by rw [O.N]; exact l1) (by rw [O.N]; exact l2) hij (by rw [O.nm]; exact x1) (by rw [O.nm]; exact x2) (sEs es sc _ X B O t3) pq swT_of)
      · cases h2
    · rw [Bool.and_eq_true, Bool.not_eq_true'] at h; obtain ⟨hh, h⟩ := h
      simp only [Bool.and_eq_true] at h
      have eq : evS G (.unp t c) = fun ρ S => vb (evE G c ρ S) fun d S => match bindT t d ρ with | some ρ' => some (.nx ρ' S) | none => none := by funext ρ S; (conv => lhs; unfold evS); try rfl
      rw [eq]
      exact s_unp (ps_asg (sE c false sc _ X B O h.1.2).fz (O.target hh h.1.1) swT_of (swN_of h.2) rfl)
    · cases h
  | .expr c, sc, st, X, B, P, O, h => by
    unfold ckS at h
    split at h
    · simp only [Bool.and_eq_true] at h
      have eq : evS G (.expr c) = fun ρ S => vb (evE G c ρ S) fun _ S => some (.nx ρ S) := by funext ρ S; conv => lhs; unfold evS
      rw [eq]
      exact s_expr (sE c true sc _ X B O h.1).w (noc_of h.2)
    · cases h
  | .ifs t a b, sc, st, X, B, P, O, h => by
    unfold ckS at h
    split at h
    · simp only [Bool.and_eq_true] at h
      have eq : evS G (.ifs t a b) = fun ρ S => vb (evT G t ρ S) fun k S => if k = true then evSs G a ρ S else evSs G b ρ S := by funext ρ S; conv => lhs; unfold evS
      rw [eq]
      exact s_if (sT t sc _ X B O h.1.1) (sSs a sc _ X B P O h.1.2) (sSs b sc _ X B P O h.2)
    · cases h
  | .ret c, sc, st, X, B, P, O, h => by
    unfold ckS at h
    split at h
    · have eq : evS G (.ret c) = fun ρ S => vb (evE G c ρ S) fun d S => some (.rt d S) := by funext ρ S; conv => lhs; unfold evS
      rw [eq]
      exact s_ret (sE c false sc _ X B O h).fz
    · cases h
  | .retN, sc, st, X, B, P, O, h => by
    unfold ckS at h
    split at h
    · have eq : evS G .retN = fun _ S => some (.rt .non S) := by funext ρ S; conv => lhs; unfold evS
      rw [eq]
      exact s_retN
    · cases h
  | .retO i, sc, st, X, B, P, O, h => by
    unfold ckS at h
    split at h
    · have eq : evS G (.retO i) = fun ρ S => match ownAt ρ i with | some ds => some (.rt (.lst ds) S) | none => none := by funext ρ S; (conv => lhs; unfold evS); try rfl
      rw [eq]
      exact s_retO (O.var h)
    · cases h
  | .for1 t it b, sc, st, X, B, P, O, h => by
    unfold ckS at h
    split at h
    · rw [Bool.and_eq_true, Bool.not_eq_true'] at h; obtain ⟨hh, h⟩ := h
      simp only [Bool.and_eq_true] at h
      have eq : evS G (.for1 t it b) = fun ρ S => vb (evI G it ρ S) fun xs S => forM (fun x ρ S => match bindT t x ρ with | some ρ' => evSs G b ρ' S | none => none) xs ρ S := by funext ρ S; (conv => lhs; unfold evS); try rfl
      rw [eq]
      exact s_for P (O.calm hh) (sIs it sc _ _ X B O h.1.1.1) (O.target hh h.1.2) (fun E => sSs b sc _ X ⟨B.Γ, E, B.W⟩ P (O.e hh E) h.2) (fold_of h.1.1.2)
    · cases h
  | .whl n t b, sc, st, X, B, P, O, h => by
    unfold ckS at h
    split at h
    · simp only [Bool.and_eq_true] at h
      have eq : evS G (.whl n t b) = fun ρ S => whlM (evT G t) (evSs G b) n ρ S := by funext ρ S; conv => lhs; unfold evS
      rw [eq]
      exact s_whl P (sT t sc _ X B O h.1) (sSs b sc _ X B P O h.2)
    · cases h
  | .app i c, sc, st, X, B, P, O, h => by
    unfold ckS at h
    split at h
    · simp only [Bool.and_eq_true, decide_eq_true_eq] at h
      obtain ⟨⟨⟨⟨h1, h2⟩, h3⟩, h4⟩, h5⟩ := h
      subst h1
      have eq : evS G (.app i c) = fun ρ S => match ownAt ρ i with
        | some ds => vb (evE G c ρ S) fun d S => if ds.length < maxLen then some (.nx (ρ.set i (.own (ds ++ [d]))) S) else none
        | none => none := by funext ρ S; (conv => lhs; unfold evS); try rfl
      rw [eq]
      have st := st_of (es := []) (env := X.env) h4
      exact s_app (O.var h2) (sE c false sc _ X B O h3).fz rfl rfl (by rw [st]; rfl) h5 st rfl
    · cases h
  | .ext i c, sc, st, X, B, P, O, h => by
    unfold ckS at h
    split at h
    · simp only [Bool.and_eq_true, decide_eq_true_eq] at h
      obtain ⟨⟨⟨⟨⟨h1, h2⟩, h3⟩, h3'⟩, h4⟩, h5⟩ := h
      subst h1
      have eq : evS G (.ext i c) = fun ρ S => match ownAt ρ i with
        | some ds => vb (evE G c ρ S) fun d S => match lstD d with
          | some es => if ds.length + es.length ≤ maxLen then some (.nx (ρ.set i (.own (ds ++ es))) S) else none
          | none => none
        | none => none := by funext ρ S; (conv => lhs; unfold evS); try rfl
      rw [eq]
      have st := st_of (es := []) (env := X.env) h4
      exact s_ext (O.var h2) (sN c sc _ X B O h3 h3') rfl rfl (by rw [st]; rfl) h5 st rfl
    · cases h
  | .seti i k c, sc, st, X, B, P, O, h => by
    unfold ckS at h
    split at h
    · simp only [Bool.and_eq_true, decide_eq_true_eq] at h
      obtain ⟨⟨⟨h1, h2⟩, h3⟩, h4⟩ := h
      have eq : evS G (.seti i k c) = fun ρ S => match ownAt ρ i with
        | some ds => vb (evE G c ρ S) fun d S => vb (evE G k ρ S) fun j S => match intD j with
          | some n => if 0 ≤ n ∧ n < ds.length then some (.nx (ρ.set i (.own (ds.set n.toNat d))) S) else none
          | none => none
        | none => none := by funext ρ S; (conv => lhs; unfold evS); try rfl
      rw [eq]
      rename_i y _ v _
      exact s_seti (O.var h1) (sE k false sc _ X B O h2).fz (sE c false sc _ X B O h4).fz (fun w => by cases y <;> first | rfl | cases h3) (by cases v <;> rfl) (by cases v <;> rfl) rfl
    · cases h
  | .dput a k c, sc, st, X, B, P, O, h => by
    unfold ckS at h
    split at h
    · simp only [Bool.and_eq_true, decide_eq_true_eq] at h
      obtain ⟨⟨h1, h2⟩, h3⟩ := h
      subst h1
      have eq : evS G (.dput a k c) = fun ρ S => vb (evE G c ρ S) fun d S => vb (evE G a ρ S) fun x S => match putD S k d x with
        | some S' => some (.nx ρ S')
        | none => none := by funext ρ S; (conv => lhs; unfold evS); try rfl
      rw [eq]
      exact s_dput O.hu1 (sE a false sc _ X B O h2).fz (sE c false sc _ X B O h3).fz swS_of
    · cases h
  | .raise c es, sc, st, X, B, P, O, h => by
    unfold ckS at h
    split at h
    · rename_i x p xs pos pos'
      rw [Bool.and_eq_true, Bool.not_eq_true'] at h; obtain ⟨hh, h⟩ := h
      simp only [Bool.and_eq_true, Bool.not_eq_true'] at h
      obtain ⟨⟨⟨h1, h2⟩, h3⟩, h4⟩ := h
      obtain ⟨q1, q2⟩ := O.gl1 h1
      split at h2
      · rename_i c' f1 f2 hl
        rw [decide_eq_true_eq] at h2
        subst h2
        obtain ⟨m1, m2, m3⟩ := O.gl.exs _ _ _ _ (PySem.mem_of_lookup hl)
        have eq : evS G (.raise c es) = fun ρ S => vb (evEs G es ρ S) fun ds S => if ds.length = 2 then some (.ex ⟨c, (([f1, f2] : List Str).zip ds).reverse⟩ S) else none := by
          funext ρ S; (conv => lhs; unfold evS); rw [m3]; rfl
        rw [eq]
        cases xs with
        | nil => cases h3
        | cons x0 xs =>
          have hs := sEs es sc (x0 :: xs) X B O h4
          cases es with
          | nil => unfold ckEs at h4; cases h4
          | cons c0 cs =>
            unfold ckEs at h4
            simp only [Bool.and_eq_true] at h4
            exact s_raise m2 (O.calm hh) ((O.room hh).mono O.gl.k2) q1 m1 O.tk hs q2 (st_of h4.1.1) (backTo_star cs sc xs h4.2)
      · cases h2
    · cases h
  | .frz i, sc, st, X, B, P, O, h => by unfold ckS at h; cases h
  | .pass, sc, st, X, B, P, O, h => by
    have eq : evS G .pass = fun ρ S => some (.nx ρ S) := by funext ρ S; conv => lhs; unfold evS
    rw [eq]
    unfold ckS at h
    split at h
    · exact s_pass
    · exact s_doc
    · cases h
  | .brk, sc, st, X, B, P, O, h => by
    have eq : evS G .brk = fun ρ S => some (.bk ρ S) := by funext ρ S; conv => lhs; unfold evS
    rw [eq]
    unfold ckS at h
    split at h
    · exact s_brk
    · cases h
  | .cont, sc, st, X, B, P, O, h => by
    have eq : evS G .cont = fun ρ S => some (.ct ρ S) := by funext ρ S; conv => lhs; unfold evS
    rw [eq]
    unfold ckS at h
    split at h
    · exact s_cont
    · cases h
theorem sSs : ∀ (ss : CSs) (sc : Sc) (sts : List Stmt) (X : Cx) (B : At), PassesOwn (model X.prog X.w) X.A X.env X.xe → Okc g G sc X B → ckSs g ss sc sts = true → PSs X sts (tS B (evSs G ss))
  | .nil, sc, sts, X, B, P, O, h => by
    unfold ckSs at h
    cases sts <;> first | (cases h; done) | skip
    have eq : evSs G .nil = fun ρ S => some (.nx ρ S) := by funext ρ S; conv => lhs; unfold evSs
    rw [eq]
    exact ss_nil
  | .cons s ss, sc, sts, X, B, P, O, h => by
    have eq : evSs G (.cons s ss) = fun ρ S => fb (evS G s ρ S) (evSs G ss) := by funext ρ S; conv => lhs; unfold evSs
    rw [eq]
    by_cases hf : ∃ i, s = .frz i
    · obtain ⟨i, rfl⟩ := hf
      unfold ckSs at h
      have eq2 : (fun ρ S => fb (evS G (.frz i) ρ S) (evSs G ss)) = fun ρ S => fb (match ownAt ρ i with | some ds => some (.nx (ρ.set i (.val (.lst ds))) S) | none => none) (evSs G ss) := by
        funext ρ S; (conv => lhs; unfold evS); try rfl
      rw [eq2]
      exact ss_frz (sSs ss sc sts X B P O h)
    · have h : ∃ st sts', sts = st :: sts' ∧ ckS g s sc st = true ∧ ckSs g ss sc sts' = true := by
        cases s <;> first | exact absurd ⟨_, rfl⟩ hf | skip
        all_goals
          unfold ckSs at h
          split at h
          · rw [Bool.and_eq_true] at h
            exact ⟨_, _, rfl, h.1, h.2⟩
          · cases h
      obtain ⟨st, sts', rfl, h1, h2⟩ := h
      exact ss_cons (sS s sc st X B P O h1) (sSs ss sc sts' X B P O h2)
end
end
end Mi
end

section
set_option linter.all false
set_option maxRecDepth 100000
set_option Elab.async false
/-! Mi17: defs keep what their short programs say, at every depth of calls. -/
namespace Mi
open PySem L2 PyProof.Rows

/-- what a def's short program comes to -/
def runF (G : Tab) (ns : Nat) (b : CSs) : FnSem := fun ds S => match evSs G b (ds.map SV.val ++ List.replicate (ns - ds.length) SV.non) S with
  | some (.nx _ S') => some (.ok .non S')
  | some (.rt d S') => some (.ok d S')
  | some (.ex x S') => some (.ex x S')
  | _ => none
/-- the meanings of the defs, calls going n deep -/
def tabP (rf : Exc → Sto → Mo D) (k : Nat) (gc : Nat → Option D) (xf : Nat → List Str) (df : Nat → Option (Nat × CSs)) : Nat → Tab × (Nat → FnSem)
  | 0 => ({ k := k, f := fun _ _ _ => none, gc := gc, xf := xf, rf := rf }, fun _ _ _ => none)
  | n + 1 => ({ k := k + (n + 1), gc := gc, xf := xf, rf := rf, f := fun i => match df i with
    | some p => runF (tabP rf k gc xf df n).1 p.1 p.2
    | none => fun _ _ => none, f2 := (tabP rf k gc xf df n).2 }, (tabP rf k gc xf df n).1.f)
abbrev tabN (rf : Exc → Sto → Mo D) (k : Nat) (gc : Nat → Option D) (xf : Nat → List Str) (df : Nat → Option (Nat × CSs)) (n : Nat) : Tab := (tabP rf k gc xf df n).1

theorem rel_start {Γ : Wd} {μ : List Addr} {S : Sto} {F H : Hp} {N : List Str} {vs : List V} {ds : List D} (k : Sok Γ μ S F H) (r : Reps Γ μ F vs ds) :
    Rel Γ ⟨μ, F, H⟩ μ S F H (ds.map SV.val ++ List.replicate (N.length - ds.length) SV.non) (L2.start N vs) := by
  have hl := r.length
  refine ⟨k.enter, fun i d e => ?_, fun i es e => ?_, fun i j es fs a e => ?_, by unfold L2.start; simp [hl]⟩
  · by_cases hi : i < ds.length
    · rw [List.getElem?_append_left (by simpa using hi), List.getElem?_map] at e
      obtain ⟨d', hd, e'⟩ := Option.map_eq_some_iff.mp e
      cases e'
      obtain ⟨v, h1, h2⟩ := r.get hd
      refine ⟨v, ?_, h2⟩
      unfold L2.start
      rw [List.getElem?_append_left (by simp [hl]; exact hi), List.getElem?_map, h1]; rfl
    · rw [List.getElem?_append_right (by simpa using hi)] at e
      have := List.mem_of_getElem? e
      rw [List.mem_replicate] at this
      cases this.2
  · have := List.mem_of_getElem? e
    rcases List.mem_append.mp this with h | h
    · obtain ⟨_, _, z⟩ := List.mem_map.mp h; cases z
    · rw [List.mem_replicate] at h; cases h.2
  · have := List.mem_of_getElem? e
    rcases List.mem_append.mp this with h | h
    · obtain ⟨_, _, z⟩ := List.mem_map.mp h; cases z
    · rw [List.mem_replicate] at h; cases h.2

section
variable {P : Program} {w : World} {K : PySem.W.Frag} {mg : Str → Option Value} {base : Heap} {Γ : Wd} {g : Gt} {G : Tab}
theorem fn_keeps {x qual : Str} {st : Stmt} {f : Addr} {fd : FuncData} {N ps : List Str} {n : Nat} {b : CSs} (hh : g.hot = false) (hK : K = Γ.K) (O : Okg P w K mg base Γ G g) (hl : ∀ x k, g.lam = some (x, k) → 4 ≤ G.k ∧ SaidOk P w K mg base Γ G.rf x ∧ Okg P w K mg base Γ G.low g.low ∧ qual ++ ".<locals>." ++ "<lambda>" = Γ.tq k ∧ ∀ o, K.lookup f = some o → o.data = .func fd → ∃ c, fd.code = .ref c ∧ LamX.TabB base mg c (Γ.ta k)) (F : Fun K x qual st f fd) (Sc' : FnScope N ps (defScope st)) (hn : ps.length = n)
    (hc : ckSs g b ⟨N, (defScope st).names, true⟩ (defBody st) = true) : FnG g.rp P w K mg base (G.k + 1) f fd ps (spOf Γ n (runF G N.length b)) := by
  refine FnG.of F Sc' (fun vs H Q E ⟨μ, S, F, ds, _, r, hl, _⟩ => by rw [r.length, hl, hn]) fun cdv A outer s H vs Q E hr hgu ⟨ob, ob1, ob2, ob3⟩ ⟨μ, S, Fz, ds, k, r, hlen, hm⟩ => ?_
  have hx : (cxOf (L2.CX P w) P w K mg base N qual (defScope st) f cdv A outer s H E).xe = fun e s' => wpAny (model P w) (A.deeper (envOfC qual (defScope st) s.heap.objs.size f cdv)) (leaving (envOfC qual (defScope st) s.heap.objs.size f cdv) e) (fun _ s'' => L2.CX P w outer H s E e s'') (fun e' s'' => L2.CX P w outer H s E e' s'') s' := rfl
  let B : At := ⟨Γ, ⟨μ, Fz, H⟩, fun cls d _ H => E cls d H⟩
  have OC : Okc g G ⟨N, (defScope st).names, true⟩ (cxOf (L2.CX P w) P w K mg base N qual (defScope st) f cdv A outer s H E) B :=
    ⟨rfl, Sc'.kind, rfl, Sc'.nd, hK, fun _ => rfl, fun _ _ => rfl, fun _ => hr, by have := hr.un; show (A.deeper (envOfC qual (defScope st) s.heap.objs.size f cdv)).units + 65 < cLine; omega, hgu, takes_of rfl rfl rfl hx, O, fun z => (by rw [hh] at z; cases z), fun _ x kt hx => (by
      obtain ⟨h1, h2, h3, h4, h5⟩ := hl x kt hx
      obtain ⟨c, c1, c2⟩ := h5 ob ob1 ob2
      exact ⟨h2, ⟨c, by rw [← c1, ob3]; rfl, c2⟩, h4, h3, h1⟩)⟩
  refine ⟨_, sSs b _ _ _ B (passes_of (K := fun e s'' => L2.CX P w outer H s E e s'') hx) OC hc, μ, S, Fz, _, rel_start k r, ?_⟩
  unfold runF at hm
  revert hm
  match evSs G b (ds.map SV.val ++ List.replicate (N.length - ds.length) SV.non) S with
  | none => exact id
  | some (.nx ρ' S') => exact fun hm μ' F' H' σ' r' => hm μ' F' H' _ r'.toKp .non
  | some (.rt d S') => exact fun hm μ' F' H' v k' rv => hm μ' F' H' v k' rv
  | some (.ex x S') => exact fun hm μ' F' H' cls dc σ k' rx => hm μ' F' H' cls dc k' rx
  | some (.bk ρ' S') => exact fun hm => hm.elim
  | some (.ct ρ' S') => exact fun hm => hm.elim

/-- what is known of the module once for all -/
structure Okb (P : Program) (w : World) (K : PySem.W.Frag) (mg : Str → Option Value) (base : Heap) (Γ : Wd) (g : Gt) (gc : Nat → Option D) (xf : Nat → List Str) (df : Nat → Option (Nat × CSs)) : Prop where
  rp : g.rp = false
  hot : g.hot = false
  cls0 : g.cls = []
  lam0 : g.lam = none
  hK : K = Γ.K
  blt : ∀ x ∈ bltNames, mg x = none
  fns : ∀ (x : Str) (f n : Nat), (x, f, n) ∈ g.fns → mg x = some (.ref (Γ.fa f)) ∧ PySem.W.keepIn K (.ref (Γ.fa f)) = true ∧ ∃ (qual : Str) (st : Stmt) (fd : FuncData) (N ps : List Str) (b : CSs),
    Fun K x qual st (Γ.fa f) fd ∧ FnScope N ps (defScope st) ∧ ps.length = n ∧ Binds K fd ps [] ∧ df f = some (N.length, b) ∧ ckSs g b ⟨N, (defScope st).names, true⟩ (defBody st) = true
  gcs : ∀ (x : Str) (n : Nat), (x, n) ∈ g.gcs → ∃ u v, mg x = some u ∧ RelV v u ∧ ∀ d, gc n = some d → ∀ μ F, Rep Γ μ F v d
  exs : ∀ (x : Str) (c : Nat) (f1 f2 : Str), (x, c, f1, f2) ∈ g.exs → mg x = some (.ref (Γ.ca c)) ∧ ExcOk P w K mg base Γ 1 c f1 f2 ∧ xf c = [f1, f2]
  kws : ∀ (x : Str) (f : Nat) (ks : List Str) (is : List Nat), (x, f, ks, is) ∈ g.kws → mg x = some (.ref (Γ.fa f)) ∧ PySem.W.keepIn K (.ref (Γ.fa f)) = true ∧ ∃ (qual : Str) (st : Stmt) (fd : FuncData) (N ps : List Str) (b : CSs),
    Fun K x qual st (Γ.fa f) fd ∧ FnScope N ps (defScope st) ∧ KB K fd ps ks is ∧ df f = some (N.length, b) ∧ ckSs g b ⟨N, (defScope st).names, true⟩ (defBody st) = true
theorem okg_all {rf : Exc → Sto → Mo D} {gc : Nat → Option D} {xf : Nat → List Str} {df : Nat → Option (Nat × CSs)} {k : Nat} (hk : 2 ≤ k) (O : Okb P w K mg base Γ g gc xf df) : ∀ n, Okg P w K mg base Γ (tabN rf k gc xf df n) g
  | 0 => ⟨hk, O.blt, fun x f n h => by
      obtain ⟨h1, h2, qual, st, fd, N, ps, b, h3, h4, h5, h6, h7, h8⟩ := O.fns x f n h
      exact ⟨h1, h2, fd, ps, h6, ⟨fun vs H Q E ⟨_, _, _, _, _, _, _, z⟩ => z.elim, fun _ _ _ _ _ _ _ _ _ _ _ _ _ _ ⟨_, _, _, _, _, _, _, z⟩ => z.elim⟩⟩, O.gcs, O.exs, fun x f ks is h => by
      obtain ⟨h1, h2, qual, st, fd, N, ps, b, h3, h4, h6, h7, h8⟩ := O.kws x f ks is h
      exact ⟨h1, h2, fd, ps, ps.length, h6, rfl, ⟨fun vs H Q E ⟨_, _, _, _, _, _, _, z⟩ => z.elim, fun _ _ _ _ _ _ _ _ _ _ _ _ _ _ ⟨_, _, _, _, _, _, _, z⟩ => z.elim⟩⟩, fun x k h => (by rw [O.cls0] at h; cases h), fun z => (by rw [O.rp] at z; cases z)⟩
  | m + 1 => ⟨by show 2 ≤ k + (m + 1); omega, O.blt, fun x f n h => by
      obtain ⟨h1, h2, qual, st, fd, N, ps, b, h3, h4, h5, h6, h7, h8⟩ := O.fns x f n h
      refine ⟨h1, h2, fd, ps, h6, ?_⟩
      have := fn_keeps (n := n) O.hot O.hK (okg_all (rf := rf) hk O m) (fun x k hx => by rw [O.lam0] at hx; cases hx) h3 h4 h5 h8
      rw [O.rp] at this
      have e : (tabN rf k gc xf df (m + 1)).f f = runF (tabN rf k gc xf df m) N.length b := by
        show (match df f with
          | some p => runF (tabN rf k gc xf df m) p.1 p.2
          | none => fun _ _ => none) = _
        rw [h7]
      rw [e]
      have e2 : (tabN rf k gc xf df (m + 1)).k = (tabN rf k gc xf df m).k + 1 := by cases m <;> rfl
      rw [e2]
      exact this, O.gcs, O.exs, fun x f ks is h => by
      obtain ⟨h1, h2, qual, st, fd, N, ps, b, h3, h4, h6, h7, h8⟩ := O.kws x f ks is h
      refine ⟨h1, h2, fd, ps, ps.length, h6, rfl, ?_⟩
      have := fn_keeps (n := ps.length) O.hot O.hK (okg_all (rf := rf) hk O m) (fun x k hx => by rw [O.lam0] at hx; cases hx) h3 h4 rfl h8
      rw [O.rp] at this
      have e : (tabN rf k gc xf df (m + 1)).f f = runF (tabN rf k gc xf df m) N.length b := by
        show (match df f with
          | some p => runF (tabN rf k gc xf df m) p.1 p.2
          | none => fun _ _ => none) = _
        rw [h7]
      rw [e]
      have e2 : (tabN rf k gc xf df (m + 1)).k = (tabN rf k gc xf df m).k + 1 := by cases m <;> rfl
      rw [e2]
      exact this, fun x k h => (by rw [O.cls0] at h; cases h), fun z => (by rw [O.rp] at z; cases z)⟩
/-- defs that are called where no repr is under way: they may call one another, and the plain ones -/
structure Okr (P : Program) (w : World) (K : PySem.W.Frag) (mg : Str → Option Value) (base : Heap) (Γ : Wd) (g gr : Gt) (df : Nat → Option (Nat × CSs)) : Prop where
  rp : gr.rp = true
  hot : gr.hot = false
  lam0 : gr.lam = none
  efns : g.fns = gr.fns
  egcs : g.gcs = gr.gcs
  eexs : g.exs = gr.exs
  ekws : g.kws = gr.kws
  ecls : g.cls = gr.cls
  rfns : ∀ (x : Str) (f n : Nat), (x, f, n) ∈ gr.rfns → mg x = some (.ref (Γ.fa f)) ∧ PySem.W.keepIn K (.ref (Γ.fa f)) = true ∧ ∃ (qual : Str) (st : Stmt) (fd : FuncData) (N ps : List Str) (b : CSs),
    Fun K x qual st (Γ.fa f) fd ∧ FnScope N ps (defScope st) ∧ ps.length = n ∧ Binds K fd ps [] ∧ df f = some (N.length, b) ∧ ckSs gr b ⟨N, (defScope st).names, true⟩ (defBody st) = true
theorem okg_all2 {gr : Gt} {rf : Exc → Sto → Mo D} {gc : Nat → Option D} {xf : Nat → List Str} {df : Nat → Option (Nat × CSs)} {k : Nat} (hk : 2 ≤ k) (O : Okb P w K mg base Γ g gc xf df) (R : Okr P w K mg base Γ g gr df) : ∀ n, Okg P w K mg base Γ (tabN rf k gc xf df n) gr
  | 0 => by
    have o := okg_all (rf := rf) hk O 0
    exact ⟨o.k2, o.blt, R.efns ▸ o.fns, R.egcs ▸ o.gcs, R.eexs ▸ o.exs, R.ekws ▸ o.kws, R.ecls ▸ o.cls, fun _ x f n h => by
      obtain ⟨h1, h2, qual, st, fd, N, ps, b, h3, h4, h5, h6, h7, h8⟩ := R.rfns x f n h
      exact ⟨h1, h2, fd, ps, h6, ⟨fun vs H Q E ⟨_, _, _, _, _, _, _, z⟩ => z.elim, fun _ _ _ _ _ _ _ _ _ _ _ _ _ _ ⟨_, _, _, _, _, _, _, z⟩ => z.elim⟩⟩⟩
  | m + 1 => by
    have o := okg_all (rf := rf) hk O (m + 1)
    exact ⟨o.k2, o.blt, R.efns ▸ o.fns, R.egcs ▸ o.gcs, R.eexs ▸ o.exs, R.ekws ▸ o.kws, R.ecls ▸ o.cls, fun _ x f n h => by
      obtain ⟨h1, h2, qual, st, fd, N, ps, b, h3, h4, h5, h6, h7, h8⟩ := R.rfns x f n h
      refine ⟨h1, h2, fd, ps, h6, ?_⟩
      have := fn_keeps (n := n) R.hot O.hK (okg_all2 (rf := rf) hk O R m) (fun x k hx => by rw [R.lam0] at hx; cases hx) h3 h4 h5 h8
      rw [R.rp] at this
      have e : (tabN rf k gc xf df (m + 1)).f f = runF (tabN rf k gc xf df m) N.length b := by
        show (match df f with
          | some p => runF (tabN rf k gc xf df m) p.1 p.2
          | none => fun _ _ => none) = _
        rw [h7]
      rw [e]
      have e2 : (tabN rf k gc xf df (m + 1)).k = (tabN rf k gc xf df m).k + 1 := by cases m <;> rfl
      rw [e2]
      exact this⟩
end
end Mi
end

section
set_option linter.all false
set_option maxRecDepth 100000
set_option Elab.async false
set_option maxHeartbeats 2000000
/-! MiL: the law's own call, by a contract that knows of the guards. -/
namespace Mi
open PySem PySem.Spec PyProof.Rows L2 LamX

section
variable {P : Program} {w : World} {K : PySem.W.Frag} {mg mb : Str → Option Value} {k : Nat} {fa a : Addr} {cs : List (Addr × Addr)} {fd : FuncData} {x : Str} {sp : Sp} {s₁ : Shared} {vs : List Value} {ns : List Int}
/-- what is told of the heap at the law's call: the script as it stands, the tables empty -/
def hpL (K : PySem.W.Frag) (T : List Addr) (a : Addr) (vs : List Value) (ns : List Int) : Hp := fun b =>
  if b = a then (match K.lookup a with | none => some (.frz { cls := .type "list", data := .seq vs.toArray } (.lst (ns.map V.int))) | some _ => none) else if b ∈ T then some (.tbl #[]) else none
theorem hpL_a {T : List Addr} : hpL K T a vs ns a = match K.lookup a with | none => some (.frz { cls := .type "list", data := .seq vs.toArray } (.lst (ns.map V.int))) | some _ => none := if_pos rfl
theorem hpL_t {T : List Addr} {b : Addr} (h : b ≠ a) (ht : b ∈ T) : hpL K T a vs ns b = some (.tbl #[]) := (if_neg h).trans (if_pos ht)
theorem hpL_n {T : List Addr} {b : Addr} (h : b ≠ a) (ht : b ∉ T) : hpL K T a vs ns b = none := (if_neg h).trans (if_neg ht)
theorem hpL_some {T : List Addr} {b : Addr} {u : HO} (h : hpL K T a vs ns b = some u) :
    (b = a ∧ K.lookup a = none ∧ u = .frz { cls := .type "list", data := .seq vs.toArray } (.lst (ns.map V.int))) ∨ (b ≠ a ∧ b ∈ T ∧ u = .tbl #[]) := by
  by_cases hb : b = a
  · subst hb
    rw [hpL_a] at h
    cases q : K.lookup b with
    | none => rw [q] at h; cases h; exact .inl ⟨rfl, rfl, rfl⟩
    | some o => rw [q] at h; cases h
  · by_cases ht : b ∈ T
    · rw [hpL_t hb ht] at h; cases h; exact .inr ⟨hb, ht, rfl⟩
    · rw [hpL_n hb ht] at h; cases h
theorem law_callG (KX : K.In s₁.heap) (hns : s₁.heap.Ns mainGlobals mg) (hb : s₁.heap.Ns builtinsNs mb) (hbb : ∀ x : Str, x ≠ "__name__" → mb x = bootBuiltins x) (hlim : s₁.heap.NoLimit) (hg : s₁.gens = #[])
    (hT : ∀ p ∈ cs, s₁.heap.get? p.2 = some { cls := .none, data := .fields #[] }) (nT : ∀ p ∈ cs, K.lookup p.2 = none) (C : ∀ p ∈ cs, PySem.W.CodeHd s₁.heap p.1 p.2)
    (hbm : ∃ (bm : Addr) (ob : Obj), mg "__builtins__" = some (.ref bm) ∧ bm ≠ builtinsNs ∧ s₁.heap.get? bm = some ob ∧ ob.cls = .type "module" ∧ ob.dict = some builtinsNs ∧ ob.data = .plain)
    (ha : s₁.heap.get? a = some { cls := .type "list", data := .seq vs.toArray }) (hi : IntsAre vs ns) (hl : ns.length ≤ sizeLine) (hr : Room k callerA)
    (F : ∀ base : Heap, K.In base → base.Ns mainGlobals mg → (∀ p ∈ cs, TabB base mg p.1 p.2) → FnG true P w K mg base k fa fd [x] sp) (hbind : ∀ (s : Shared) (u : Value), BindsTo s fd ⟨[u], []⟩ [(x, u)])
    (hsp : ∀ H : Hp, (∀ p ∈ cs, H p.2 = some (.tbl #[])) → (∀ b ps, H b = some (.tbl ps) → b ∈ cs.map (·.2)) → SqL K H a (ns.map V.int) → sp [.ref a] H (fun v _ => v = .bl true) fun _ _ _ => False) :
    codeAny (model P w) callerA (.call (.ref fa) ⟨[.ref a], []⟩) (fun r s' => r = .ok (.ret (.bool true)) ∧ OldK s₁.heap s'.heap ∧ s'.os = s₁.os ∧ AllBare s'.gens) s₁ := by
  have rv := vals_ints hi
  have tab : ∀ b : Addr, b ∈ cs.map (·.2) → s₁.heap.get? b = some { cls := .none, data := .fields #[] } := fun b hb => by
    obtain ⟨p, hp, rfl⟩ := List.mem_map.mp hb; exact hT p hp
  have notT : a ∉ cs.map (·.2) := fun z => by
    have q := tab a z; rw [ha] at q
    have z' : Data.seq vs.toArray _ = Data.fields #[] := congrArg Obj.data (Option.some.inj q)
    cases z'
  have inT : ∀ p ∈ cs, p.2 ∈ cs.map (·.2) := fun p hp => List.mem_map.mpr ⟨p, hp, rfl⟩
  have neT : ∀ p ∈ cs, p.2 ≠ a := fun p hp z => notT (z ▸ inT p hp)
  generalize hH0 : hpL K (cs.map (·.2)) a vs ns = H
  have tb : ∀ p ∈ cs, H p.2 = some (.tbl #[]) := fun p hp => by rw [← hH0]; exact hpL_t (neT p hp) (inT p hp)
  have at_some : ∀ {b : Addr} {u : HO}, H b = some u → (b = a ∧ K.lookup a = none ∧ u = .frz { cls := .type "list", data := .seq vs.toArray } (.lst (ns.map V.int))) ∨ (b ≠ a ∧ b ∈ cs.map (·.2) ∧ u = .tbl #[]) := fun {b u} h => hpL_some (by rw [hH0]; exact h)
  have hS : SqL K H a (ns.map V.int) := by
    cases q : K.lookup a with
    | none => exact .inl (.inr ⟨_, by rw [← hH0, hpL_a, q]⟩)
    | some o =>
      have e := KX a o q; rw [ha] at e; cases e
      exact .inr ⟨_, vs.toArray, _, q, rfl, rfl, rfl, by rw [List.size_toArray, hi.length]; exact hl, by simpa using rv⟩
  have hok : HOk P w H s₁.heap := fun b u z => by
    rcases at_some z with ⟨rfl, _, rfl⟩ | ⟨_, ht, rfl⟩
    · exact ⟨ha, by rw [List.length_map]; exact hl, vs, _, rv, ha⟩
    · exact tab b ht
  have plain : ∀ {b : Addr} {o : Obj}, s₁.heap.get? b = some o → (∀ vs n, o.data ≠ .seq vs n) → o.data ≠ .fields #[] → (hidT s₁.heap H).get? b = some o := fun {b o} e h1 h2 => hidT_get e (by
    cases q : H b with
    | none => rfl
    | some u =>
      rcases at_some q with ⟨rfl, _, _⟩ | ⟨_, ht, _⟩
      · rw [ha] at e; cases e; exact (h1 _ _ rfl).elim
      · rw [tab b ht] at e; cases e; exact (h2 rfl).elim)
  have nsH : ∀ {b : Addr} {m : Str → Option Value}, s₁.heap.Ns b m → (hidT s₁.heap H).Ns b m := fun {b m} ⟨o, es, ep, e, d, r⟩ => ⟨o, es, ep, plain e (fun vs n z => by rw [d] at z; cases z) (fun z => by rw [d] at z; cases z), d, r⟩
  have KH : K.In (hidT s₁.heap H) := fun b o e => hidT_get (KX b o e) (by
    cases q : H b with
    | none => rfl
    | some u =>
      rcases at_some q with ⟨rfl, hn, _⟩ | ⟨_, ht, _⟩
      · rw [hn] at e; cases e
      · obtain ⟨p, hp, ep⟩ := List.mem_map.mp ht; rw [← ep, nT p hp] at e; cases e)
  have hM : L2.Mod K mg (hidT s₁.heap H) := ⟨KH, nsH hns, ⟨mb, nsH hb, hbb⟩, let ⟨mc, h1, h2⟩ := hlim; ⟨mc, nsH h1, h2⟩⟩
  have TB : ∀ p ∈ cs, TabB (hidT s₁.heap H) mg p.1 p.2 := fun p hp => by
    have hTp := hT p hp
    refine ⟨?_, ?_, fun z => ?_⟩
    · obtain ⟨o, us, file, tf, flags, tg, inF, text, tt, e1, r1, r2, r3, r4, r5, r6, r7, r8, hne⟩ := C p hp
      exact ⟨o, us, file, tf, flags, tg, inF, text, tt, plain e1 (fun vs n z => by rw [r2] at z; cases z) (fun z => by rw [r2] at z; cases z; simp at r3), r1, r2, r3, r4, r5, r6, r7, r8, hne⟩
    · obtain ⟨bm, ob, b1, b2, b3, b4, b5, b6⟩ := hbm
      have nG : bm ≠ mainGlobals := fun q => by
        obtain ⟨o, es, ep, e, hd, _⟩ := hns
        rw [q, e] at b3; cases b3; rw [hd] at b6; cases b6
      have nP : bm ≠ p.2 := fun q => by rw [q, hTp] at b3; cases b3; cases b6
      exact ⟨bm, ob, b1, b2, nG, nP, plain b3 (fun vs n z => by rw [b6] at z; cases z) (fun z => by rw [b6] at z; cases z), b4, b5, b6⟩
    · obtain ⟨o, es, ep, e, hd, _⟩ := hns
      rw [z, hTp] at e; cases e; cases hd
  have e0 : Env0 P w K mg (hidT s₁.heap H) callerA [] s₁ H := ⟨rfl, hM, fun b o e => of_hidT e, Nat.le_of_eq (hidT_size _ _), trivial, fun b hb => absurd (show b ∈ ([] : List Addr) from hb) (by simp), hok, .of_eq hg⟩
  refine codeAny_mono ((F _ KH (nsH hns) TB).run callerA [] s₁ H ⟨[.ref a], []⟩ [.ref a] [.ref a] (fun v _ => v = .bl true) (fun _ _ _ => False) hr (fun _ => rfl) e0 (hbind s₁ (.ref a)) (.cons rfl .nil) (hsp H tb (fun b ps e => (at_some e).elim (fun ⟨_, _, z⟩ => nomatch z) fun z => z.2.1) hS)) fun r s' h => ?_
  cases r with
  | error e => obtain ⟨_, _, _, _, _, _, _, _, _, _, _, _, z⟩ := h; exact z.elim
  | ok fl =>
    cases fl with
    | next => exact False.elim h
    | brk => exact False.elim h
    | cont => exact False.elim h
    | ret u =>
      obtain ⟨v, H', os, bare, un, hok', r', q⟩ := h
      obtain rfl : v = .bl true := q
      obtain rfl : u = Value.bool true := r'
      have same : ∀ b o, b ∉ cs.map (·.2) → s₁.heap.get? b = some o → s'.heap.get? b = some o := fun b o nb e => by
        cases q : H b with
        | none => exact un.keep b o e q (by intro z; exact absurd (show b ∈ ([] : List Addr) from z) (by simp)) (by simp)
        | some u =>
          rcases at_some q with ⟨rfl, _, rfl⟩ | ⟨_, ht, _⟩
          · have e1 := (hok b _ q).1
            have e2 := (hok' b _ (un.frzs b _ _ q)).1
            rw [e] at e1; cases e1; exact e2
          · exact absurd ht nb
      have grown : ∀ p ∈ cs, ∃ more : Array Value, s'.heap.get? p.2 = some { cls := .none, data := .fields more } := fun p hp => by
        obtain ⟨more, z⟩ := un.tbls p.2 #[] (tb p hp); exact ⟨_, hok' p.2 _ z⟩
      refine ⟨rfl, ⟨fun b o e => ?_, fun b o e => ?_⟩, os, bare⟩ <;> by_cases hb : b ∈ cs.map (·.2)
      · obtain ⟨p, hp, ep⟩ := List.mem_map.mp hb
        obtain ⟨more, hm⟩ := grown p hp
        rw [← ep] at e ⊢; rw [hT p hp] at e; cases e
        exact .inr (.inl ⟨((C p hp).tab (hT p hp)).isCodeTable, rfl, #[], more, rfl, by rw [Array.empty_append]; exact hm⟩)
      · exact .inl (same b o hb e)
      · obtain ⟨p, hp, ep⟩ := List.mem_map.mp hb
        obtain ⟨more, hm⟩ := grown p hp
        rw [← ep]; exact ⟨_, hm⟩
      · exact ⟨o, same b o hb e⟩
end
/-- what is to be known of the law's own def at the head's heap -/
def LawG (l : PySem.W.OpenLaw) (w : World) (K : PySem.W.Frag) (k n : Nat) (x : Str) (mg : Str → Option Value) (fa : Addr) (h : Heap) : Prop :=
  ∃ (fd : FuncData) (cs : List (Addr × Addr)) (sp : Sp), (∀ p ∈ cs, h.get? p.2 = some { cls := .none, data := .fields #[] }) ∧ (∀ p ∈ cs, K.lookup p.2 = none) ∧ (∀ p ∈ cs, PySem.W.CodeHd h p.1 p.2) ∧ (∀ (s : Shared) (u : Value), BindsTo s fd ⟨[u], []⟩ [(x, u)]) ∧
    (∀ (H : Hp) (a : Addr) (ns : List Int), ns.length ≤ n → (∀ z ∈ ns, Builtin.Int.intBits z ≤ 1048576) → (∀ p ∈ cs, H p.2 = some (.tbl #[])) → (∀ b ps, H b = some (.tbl ps) → b ∈ cs.map (·.2)) → SqL K H a (ns.map V.int) → sp [.ref a] H (fun v _ => v = .bl true) fun _ _ _ => False) ∧
    ∀ base : Heap, K.In base → base.Ns mainGlobals mg → (∀ p ∈ cs, TabB base mg p.1 p.2) → FnG true l.prog w K mg base k fa fd [x] sp
theorem walk_ofG {l : PySem.W.OpenLaw} {n k : Nat} {q : Program} {loose : List Str} {XP : (Str → Option Value) → Heap → Prop} {YP : World → Heap → Prop} {d : DefRec} {K : Params → PySem.W.Frag} {x : Str}
    (hn : l.most = some n) (hn2 : n ≤ sizeLine) (hdf : d.params.defaults = []) (hr : Room k callerA) (hY : ∀ (w : World) (h : Heap), YP w h → (K w.params).In h)
    (F : ∀ (w : World) (mg : Str → Option Value) (fa : Addr) (h : Heap), YP w h → (K w.params).In h → h.Ns mainGlobals mg → mg d.name = some (.ref fa) → LawG l w (K w.params) k n x mg fa h) :
    PySem.W.WalkO q loose XP YP l.row.toRowW d [] (fun f vs => PySem.call f vs) :=
  Att.attach_callB hn hdf fun w s₀ s₁ mg mb fa o pm cd doc a vs ns G Y ho hd hcd hmg hobj hints hlen hbits hg => by
    have KX := hY w _ Y
    obtain ⟨fd, cs, sp, hT, nT, C, hb, hsp, hF⟩ := F w mg fa _ Y KX G.T.g hmg
    exact law_callG KX G.T.g G.T.b G.T.builtins G.T.nolimit hg hT nT C G.T.bmain hobj hints (Nat.le_trans hlen hn2) hr hF hb fun H hH hT hS => hsp H a ns hlen hbits hH hT hS
/-- the law's code object and its empty table, at the head's heap -/
def LawTab (K : PySem.W.Frag) (fa : Addr) (h : Heap) : Prop := ∀ (o : Obj) (fd : FuncData) (c : Addr), K.lookup fa = some o → o.data = .func fd → fd.code = .ref c →
  ∃ P, PySem.W.CodeHd h c P ∧ h.get? P = some { cls := .none, data := .fields #[] } ∧ ∀ (e : Value) (dd : Option Addr) (vs : Array Value) (sl : Array (Option Value)), K.lookup c = some ⟨e, dd, .fields vs, sl⟩ → vs[11]? = some (.ref P)
theorem walk_ofG2 {l : PySem.W.OpenLaw} {n k : Nat} {q : Program} {loose : List Str} {XP : (Str → Option Value) → Heap → Prop} {YP : World → Heap → Prop} {d : DefRec} {K : Params → PySem.W.Frag} {x : Str}
    (hn : l.most = some n) (hn2 : n ≤ sizeLine) (hdf : d.params.defaults = []) (hr : Room k callerA) (hrec : ((recsOf q).any fun e => e.name == d.name) = true) (hY : ∀ (w : World) (h : Heap), YP w h → (K w.params).In h)
    (F : ∀ (w : World) (mg : Str → Option Value) (fa : Addr) (h : Heap), YP w h → (K w.params).In h → h.Ns mainGlobals mg → mg d.name = some (.ref fa) → LawTab (K w.params) fa h → LawG l w (K w.params) k n x mg fa h) :
    PySem.W.WalkO q loose XP YP l.row.toRowW d [] (fun f vs => PySem.call f vs) :=
  Att.attach_callB hn hdf fun w s₀ s₁ mg mb fa o pm cd doc a vs ns G Y ho hd hcd hmg hobj hints hlen hbits hg => by
    have KX := hY w _ Y
    have tab : LawTab (K w.params) fa s₁.heap := fun o1 fd1 c k1 k2 k3 => by
      obtain ⟨dL, hm, hn1⟩ := List.any_eq_true.mp hrec
      have hn2 : dL.name = d.name := beq_iff_eq.mp hn1
      obtain ⟨a', o', fd', c', P', h1, h2, h3, h4, h5, h6⟩ := G.T.tab dL hm
      rw [hn2, hmg] at h1
      cases h1
      have g1 := KX _ _ k1
      rw [g1] at h2
      cases h2
      rw [k2] at h3
      cases h3
      rw [k3] at h4
      cases h4
      refine ⟨P', PySem.W.CodeHd.of h5 h6, h6.2, fun e dd vs sl k4 => ?_⟩
      obtain ⟨⟨oc, vc, e1, _, e3, e4⟩, _⟩ := h6
      have g2 := KX _ _ k4
      rw [g2] at e1
      cases e1
      cases e3
      exact e4
    obtain ⟨fd, cs, sp, hT, nT, C, hb, hsp, hF⟩ := F w mg fa _ Y KX G.T.g hmg tab
    exact law_callG KX G.T.g G.T.b G.T.builtins G.T.nolimit hg hT nT C G.T.bmain hobj hints (Nat.le_trans hlen hn2) hr hF hb fun H hH hTb hS => hsp H a ns hlen hbits hH hTb hS
end Mi
end

section
set_option linter.all false
/-! MiM: reckoning with short programs. -/
namespace Mi
open PySem
section
variable {α β : Type} {a : α} {S : Sto} {x : Exc} {f : α → Sto → Mo β} {g : α → Sto → Fo} {h : Env → Sto → Fo} {ρ : Env} {d : D} {k : Nat} {rf : Exc → Sto → Mo D} {gc : Nat → Option D} {xf : Nat → List Str} {df : Nat → Option (Nat × CSs)} {n i : Nat} {b : Bool}
@[simp] theorem rb_ok1 : rb (some (.ok a S)) f = f a S := rfl
@[simp] theorem rb_ex1 : rb (some (.ex x S)) f = some (.ex x S) := rfl
@[simp] theorem rb_no1 : rb (none : Mo α) f = none := rfl
@[simp] theorem vb_ok1 : vb (some (.ok a S)) g = g a S := rfl
@[simp] theorem vb_ex1 : vb (some (.ex x S) : Mo α) g = some (.ex x S) := rfl
@[simp] theorem vb_no1 : vb (none : Mo α) g = none := rfl
@[simp] theorem fb_nx1 : fb (some (.nx ρ S)) h = h ρ S := rfl
@[simp] theorem fb_rt1 : fb (some (.rt d S)) h = some (.rt d S) := rfl
@[simp] theorem fb_bk1 : fb (some (.bk ρ S)) h = some (.bk ρ S) := rfl
@[simp] theorem fb_ct1 : fb (some (.ct ρ S)) h = some (.ct ρ S) := rfl
@[simp] theorem fb_ex1 : fb (some (.ex x S)) h = some (.ex x S) := rfl
@[simp] theorem fb_no1 : fb none h = none := rfl
@[simp] theorem lift_s : lift (some a) S = some (.ok a S) := rfl
@[simp] theorem lift_n : lift (none : Option α) S = none := rfl
@[simp] theorem tab_gc : (tabN rf k gc xf df n).gc = gc := by cases n <;> rfl
@[simp] theorem tab_xf : (tabN rf k gc xf df n).xf = xf := by cases n <;> rfl
@[simp] theorem blD_bl : blD (.bl b) = some b := rfl
@[simp] theorem truth_bl : (D.bl b).truth = some b := rfl
@[simp] theorem tab_rf : (tabN rf k gc xf df n).rf = rf := by cases n <;> rfl
theorem tab_f2 {p : Nat × CSs} (h : df i = some p) : (tabN rf k gc xf df (n + 3)).low.f i = runF (tabN rf k gc xf df n) p.1 p.2 := by
  show (match df i with
    | some p => runF (tabN rf k gc xf df n) p.1 p.2
    | none => fun _ _ => none) = _
  rw [h]
theorem tab_f {p : Nat × CSs} (h : df i = some p) : (tabN rf k gc xf df (n + 1)).f i = runF (tabN rf k gc xf df n) p.1 p.2 := by
  show (match df i with
    | some p => runF (tabN rf k gc xf df n) p.1 p.2
    | none => fun _ _ => none) = _
  rw [h]
/-- what a def's body comes to -/
@[simp] def endF : Fo → Mo D
  | some (.nx _ S') => some (.ok .non S')
  | some (.rt d S') => some (.ok d S')
  | some (.ex x S') => some (.ex x S')
  | _ => none
theorem runF_eq {G : Tab} {ns : Nat} {b : CSs} {ds : List D} {S : Sto} : runF G ns b ds S = endF (evSs G b (ds.map SV.val ++ List.replicate (ns - ds.length) SV.non) S) := by
  unfold runF endF
  rfl
end
end Mi
end

section
set_option linter.all false
set_option maxRecDepth 100000
set_option Elab.async false
/-! MiH: a def that is called while an error is held, and asks it. -/
namespace Mi
open PySem L2 PyProof.Rows L2H

/-! ### the held error stands at another place: what doesn't tell of it stays -/
mutual
def D.noE : D → Bool
  | .tup ds => D.noEs ds
  | .lst ds => D.noEs ds
  | .fn n => decide (n ≠ eN)
  | _ => true
def D.noEs : List D → Bool
  | [] => true
  | d :: ds => d.noE && D.noEs ds
end
def SO.noE : SO → Bool
  | .dct kvs => kvs.all fun kv => kv.2.noE
  | .tab _ => true
def noES (S : Sto) : Bool := S.all SO.noE
/-- the same but for where the held error stands -/
structure Alike (Γ Γ' : Wd) : Prop where
  K : Γ.K = Γ'.K
  ca : Γ.ca = Γ'.ca
  ta : Γ.ta = Γ'.ta
  tq : Γ.tq = Γ'.tq
  fa : ∀ n, n ≠ eN → Γ.fa n = Γ'.fa n
theorem Alike.symm {Γ Γ' : Wd} (a : Alike Γ Γ') : Alike Γ' Γ := ⟨a.K.symm, a.ca.symm, a.ta.symm, a.tq.symm, fun n h => (a.fa n h).symm⟩
section
variable {Γ Γ' : Wd} {μ : List Addr} {F H : Hp}
mutual
theorem Rep.chg (a : Alike Γ Γ') : ∀ {d : D} {v : V}, d.noE = true → Rep Γ μ F v d → Rep Γ' μ F v d
  | .non, _, _, h => by cases h; exact .non
  | .bl b, _, _, h => by cases h; exact .bl b
  | .int i, _, _, h => by cases h; exact .int i
  | .str x, _, _, h => by cases h; exact .str x
  | .tup ds, _, n, h => by
    unfold D.noE at n
    cases h with
    | tup h1 h2 => exact .tup (a.K ▸ h1) (Reps.chg a n h2)
  | .lst ds, _, n, h => by
    unfold D.noE at n
    cases h with
    | lst h1 h2 => exact .lst (a.K ▸ h1) (Reps.chg a n h2)
  | .loc i, _, _, h => by
    cases h with
    | loc e => exact .loc e
  | .fn i, _, n, h => by
    unfold D.noE at n
    cases h
    rw [a.fa i (of_decide_eq_true n)]
    exact .fn i
theorem Reps.chg (a : Alike Γ Γ') : ∀ {ds : List D} {vs : List V}, D.noEs ds = true → Reps Γ μ F vs ds → Reps Γ' μ F vs ds
  | [], _, _, h => by cases h; exact .nil
  | d :: ds, _, n, h => by
    unfold D.noEs at n
    rw [Bool.and_eq_true] at n
    cases h with
    | cons h1 h2 => exact .cons (Rep.chg a n.1 h1) (Reps.chg a n.2 h2)
end
theorem RepF.chg (a : Alike Γ Γ') : ∀ {ds : List (Str × D)} {vs : List (Str × V)}, (ds.all fun kv => kv.2.noE) = true → RepF Γ μ F vs ds → RepF Γ' μ F vs ds
  | _, _, _, .nil => .nil
  | _, _, n, .cons h t => by
    rw [List.all_cons, Bool.and_eq_true] at n
    exact .cons (h.chg a n.1) (RepF.chg a n.2 t)
theorem SRep.chg (a : Alike Γ Γ') {p : Addr} {o : SO} (n : o.noE = true) (h : SRep Γ μ F H p o) : SRep Γ' μ F H p o := by
  cases o with
  | dct kvs =>
    obtain ⟨ws, h1, h2⟩ := h
    exact ⟨ws, h1, h2.chg a n⟩
  | tab k =>
    obtain ⟨h0, ps, h1, h2, h3⟩ := h
    exact ⟨by rw [← a.ta]; exact h0, ps, h1, h2, by rw [← a.tq]; exact h3⟩
theorem Sok.chg (a : Alike Γ Γ') {S : Sto} (n : noES S = true) (h : Sok Γ μ S F H) : Sok Γ' μ S F H :=
  ⟨h.le, h.len, h.nd, fun i p o h1 h2 => (h.obj i p o h1 h2).chg a ((List.all_eq_true.mp n) o (List.mem_of_getElem? h2)), h.fr, h.tb⟩
theorem Kp.chg (a : Alike Γ Γ') {E : En} {S : Sto} (n : noES S = true) (h : Kp Γ E μ S F H) : Kp Γ' E μ S F H := ⟨h.toSok.chg a n, h.gr, h.base, h.fz, h.mz⟩
end

/-- asked of the error p of the class c with the fields fs, by a short program b: its value -/
def spX (Γ : Wd) (G : Tab) (ns : Nat) (b : CSs) : Addr × Obj → Sp := fun p vs H Q E => ∃ (c : Nat) (fs : List (Str × D)) (d : Addr) (ws : List (Str × V)) (μ : List Addr) (S S' : Sto) (F : Hp) (x : D), vs = [.ref p.1] ∧ p.1 = Γ.fa eN ∧ Zc (.ref (Γ.ca c)) (some d) p.2 ∧ G.exn = some (c, fs) ∧
  Sok Γ μ S F H ∧ F d = some (.xd ws) ∧ RepF Γ μ F ws fs ∧ runF G ns b [.fn eN] S = some (.ok x S') ∧ ∀ μ' F' H' v, Kp Γ ⟨μ, F, H⟩ μ' S' F' H' → Rep Γ μ' F' v x → Q v H'
section
variable {P : Program} {w : World} {K : PySem.W.Frag} {mg : Str → Option Value} {base : Heap} {Γ : Wd} {g : Gt} {G : Tab}
/-- what is to be known of the names and the classes, whatever error is held -/
structure AskOk (P : Program) (w : World) (K : PySem.W.Frag) (mg : Str → Option Value) (base : Heap) (g : Gt) (Γ : Wd) (G : Tab) : Prop where
  hK : K = Γ.K
  O : Okg P w K mg base Γ G g
  hx : ∀ c fs, G.exn = some (c, fs) → ExcC K (Γ.ca c) ∧ XfC K (Γ.ca c) ∧ ∀ f, f ∈ g.flds → PySem.W.findIn K (.ref (Γ.ca c)) f = some none
/-- .. asked of any error -/
def spA (P : Program) (w : World) (K : PySem.W.Frag) (mg : Str → Option Value) (base : Heap) (g : Gt) (ns : Nat) (b : CSs) : Addr × Obj → Sp := fun p vs H Q E => ∃ Γ G, AskOk P w K mg base g Γ G ∧ spX Γ G ns b p vs H Q E
theorem ask_keeps {x qual : Str} {st : Stmt} {f : Addr} {fd : FuncData} {N ps : List Str} {b : CSs} {k : Nat} (hh : g.hot = true) (hrp : g.rp = false) (hlm : g.lam = none) (F : Fun K x qual st f fd) (Sc' : FnScope N ps (defScope st)) (hn : ps.length = 1)
    (hc : ckSs g b ⟨N, (defScope st).names, true⟩ (defBody st) = true) : FnX P w K mg base (k + 1) f fd ps (spA P w K mg base g N.length b) := by
  refine FnX.of F Sc' (fun p vs H Q E ⟨_, _, _, _, _, _, _, _, _, _, _, _, hv, _⟩ => by rw [hv, hn]; rfl) fun cdv A outer s H vs Q E p hot hr ⟨Γ, G, ⟨hK, O, hx⟩, c, fs, d, ws, μ, S, S2, Fz, y, hv, hp, hz, hG, kS, hd, hw, hrun, hq⟩ => ?_
  subst hv
  have hxe : (cxH (L2.CX P w) P w K mg base N qual (defScope st) f cdv A outer s H E p).xe = fun e s' => wpAny (model P w) (A.deeper (envOfC qual (defScope st) s.heap.objs.size f cdv)) (leaving (envOfC qual (defScope st) s.heap.objs.size f cdv) e) (fun _ s'' => L2.CX P w outer H s E e s'') (fun e' s'' => L2.CX P w outer H s E e' s'') s' := rfl
  let B : At := ⟨Γ, ⟨μ, Fz, H⟩, fun cls d _ H => E cls d H⟩
  obtain ⟨x1, x2, x3⟩ := hx c fs hG
  have OC : Okc g G ⟨N, (defScope st).names, true⟩ (cxH (L2.CX P w) P w K mg base N qual (defScope st) f cdv A outer s H E p) B :=
    ⟨rfl, Sc'.kind, rfl, Sc'.nd, hK, fun z => (by rw [hh] at z; cases z), fun _ _ => rfl, fun z => (by rw [hh] at z; cases z), by have := hr.un; show (A.deeper (envOfC qual (defScope st) s.heap.objs.size f cdv)).units + 65 < cLine; omega, fun z => (by rw [hrp] at z; cases z), takes_of rfl rfl rfl hxe, O,
      fun _ => ⟨c, fs, hG, x1, x2, ⟨p.2, d, ws, by rw [← hp]; exact List.mem_singleton.mpr rfl, hz, hot, hd, hw⟩, x3⟩, fun _ x k z => by rw [hlm] at z; cases z⟩
  refine ⟨_, sSs b _ _ _ B (passes_of (K := fun e s'' => L2.CX P w outer H s E e s'') hxe) OC hc, μ, S, Fz, _, rel_start (ds := [.fn eN]) kS (.cons (by rw [hp]; exact .fn eN) .nil), ?_⟩
  unfold runF at hrun
  revert hrun
  match evSs G b (([.fn eN] : List D).map SV.val ++ List.replicate (N.length - ([.fn eN] : List D).length) SV.non) S with
  | none => exact fun h => nomatch h
  | some (.nx ρ' S') =>
    intro h
    cases h
    exact fun μ' F' H' σ' r' => hq μ' F' H' _ r'.toKp .non
  | some (.rt d' S') =>
    intro h
    cases h
    exact fun μ' F' H' v k' rv => hq μ' F' H' v k' rv
  | some (.ex x S') => exact fun h => nomatch h
  | some (.bk ρ' S') => exact fun h => nomatch h
  | some (.ct ρ' S') => exact fun h => nomatch h

/-- what is made of an error of one of the classes cs by the def whose short program is b -/
def rfOf (Gx : Exc → Tab) (cs : List Nat) (ns : Nat) (b : CSs) (x : Exc) (S : Sto) : Mo D :=
  if (decide (x.c ∈ cs) && (x.fs.all fun kv => kv.2.noE) && noES S) = true then (match runF (Gx x) ns b [.fn eN] S with
    | some (.ok d S') => if (d.noE && noES S') = true then some (.ok d S') else none
    | _ => none) else none
def Wd.atE (Γ : Wd) (a : Addr) : Wd := { Γ with fa := fun n => if n = eN then a else Γ.fa n }
theorem atE_alike (Γ : Wd) (a : Addr) : Alike Γ (Γ.atE a) := ⟨rfl, rfl, rfl, rfl, fun n h => (if_neg h).symm⟩
theorem rf_ask {Gx : Exc → Tab} {cs : List Nat} {ns : Nat} {b : CSs} (hGx : ∀ x, (Gx x).exn = some (x.c, x.fs)) (hA : ∀ (x : Exc) (a : Addr), x.c ∈ cs → AskOk P w K mg base g (Γ.atE a) (Gx x)) :
    ∀ (c : Exc) (S S' : Sto) (d : D) (μ : List Addr) (F H : Hp) (ad dd : Addr) (oe : Obj) (ws : List (Str × V)), rfOf Gx cs ns b c S = some (.ok d S') → Sok Γ μ S F H → F dd = some (.xd ws) → RepF Γ μ F ws c.fs → Zc (.ref (Γ.ca c.c)) (some dd) oe → ∀ (Q : VK) (E : XK),
      (∀ μ' F' H' v, Kp Γ ⟨μ, F, H⟩ μ' S' F' H' → Rep Γ μ' F' v d → Q v H') → spA P w K mg base g ns b (ad, oe) [.ref ad] H Q E := by
  intro c S S' d μ F H ad dd oe ws hr kS hd hw hz Q E hq
  unfold rfOf at hr
  split at hr
  · rename_i hc
    rw [Bool.and_eq_true, Bool.and_eq_true, decide_eq_true_eq] at hc
    split at hr
    · rename_i d' S'' hrun
      split at hr
      · rename_i hn
        rw [Bool.and_eq_true] at hn
        cases hr
        have al := atE_alike Γ ad
        exact ⟨Γ.atE ad, Gx c, hA c ad hc.1.1, c.c, c.fs, dd, ws, μ, S, _, F, d, rfl, (show ad = (if eN = eN then ad else Γ.fa eN) by rw [if_pos rfl]), hz, hGx c, kS.chg al hc.2, hd, hw.chg al hc.1.2, hrun, fun μ' F' H' v k rv => hq μ' F' H' v (k.chg al.symm hn.2) (rv.chg al.symm hn.1)⟩
      · cases hr
    · cases hr
  · cases hr
theorem rf_cls {Gx : Exc → Tab} {cs : List Nat} {ns : Nat} {b : CSs} {x : Exc} {S S' : Sto} {d : D} (h : rfOf Gx cs ns b x S = some (.ok d S')) : x.c ∈ cs := by
  unfold rfOf at h
  split at h
  · rename_i hc
    rw [Bool.and_eq_true, Bool.and_eq_true, decide_eq_true_eq] at hc
    exact hc.1.1
  · cases h
end
end Mi
end

section
set_option linter.all false
set_option maxRecDepth 100000
set_option Elab.async false
/-! MiO: the meaning of short programs, a rule for each form. -/
namespace Mi
open PySem
section
variable {G : Tab} {ρ : Env} {S : Sto}
theorem evE_cst {d} : evE G (.cst d) ρ S = some (.ok d S) := by
  conv => lhs; unfold evE
  try rfl
theorem evE_var {i} : evE G (.var i) ρ S = match ρ[i]? with
    | some (.val d) => some (.ok d S)
    | _ => none := by
  conv => lhs; unfold evE
  try rfl
theorem evE_pk {i} : evE G (.pk i) ρ S = match ρ[i]? with
    | some (.own ds) => some (.ok (.lst ds) S)
    | _ => none := by
  conv => lhs; unfold evE
  try rfl
theorem evE_fn {n} : evE G (.fn n) ρ S = some (.ok (.fn n) S) := by
  conv => lhs; unfold evE
  try rfl
theorem evE_gc {n} : evE G (.gc n) ρ S = lift (G.gc n) S := by
  conv => lhs; unfold evE
  try rfl
theorem evE_tup {es} : evE G (.tup es) ρ S = rb (evEs G es ρ S) fun ds S => lift (mkT ds) S := by
  conv => lhs; unfold evE
  try rfl
theorem evE_lst {es} : evE G (.lst es) ρ S = rb (evEs G es ρ S) fun ds S => lift (mkL ds) S := by
  conv => lhs; unfold evE
  try rfl
theorem evE_bin {o} {a} {b} : evE G (.bin o a b) ρ S = rb (evE G a ρ S) fun x S => rb (evE G b ρ S) fun y S => lift (bop o x y) S := by
  conv => lhs; unfold evE
  try rfl
theorem evE_cat {a} {b} : evE G (.cat a b) ρ S = rb (evE G a ρ S) fun x S => rb (evE G b ρ S) fun y S => lift (catD x y) S := by
  conv => lhs; unfold evE
  try rfl
theorem evE_neg {a} : evE G (.neg a) ρ S = rb (evE G a ρ S) fun x S => lift (negD x) S := by
  conv => lhs; unfold evE
  try rfl
theorem evE_cmp {o} {a} {b} : evE G (.cmp o a b) ρ S = rb (evE G a ρ S) fun x S => rb (evE G b ρ S) fun y S => lift ((cop o x y).map .bl) S := by
  conv => lhs; unfold evE
  try rfl
theorem evE_cmp2 {o} {o'} {a} {b} {c} : evE G (.cmp2 o o' a b c) ρ S = rb (evE G a ρ S) fun x S => rb (evE G b ρ S) fun y S => rb (lift (cop o x y) S) fun k S =>
      if k then rb (evE G c ρ S) fun z S => lift ((cop o' y z).map .bl) S else some (.ok (.bl false) S) := by
  conv => lhs; unfold evE
  try rfl
theorem evE_isN {ng} {a} : evE G (.isN ng a) ρ S = rb (evE G a ρ S) fun x S => some (.ok (.bl (if ng then !isNonD x else isNonD x)) S) := by
  conv => lhs; unfold evE
  try rfl
theorem evE_isB {c} {a} : evE G (.isB c a) ρ S = rb (evE G a ρ S) fun x S => lift ((blD x).map fun b => .bl (decide (b = c))) S := by
  conv => lhs; unfold evE
  try rfl
theorem evE_bool {k} {es} : evE G (.bool k es) ρ S = rb (evBs G k es ρ S) fun b S => some (.ok (.bl b) S) := by
  conv => lhs; unfold evE
  try rfl
theorem evE_not {a} : evE G (.not a) ρ S = rb (evE G a ρ S) fun x S => lift ((blD x).map fun b => .bl (!b)) S := by
  conv => lhs; unfold evE
  try rfl
theorem evE_ite {t} {a} {b} : evE G (.ite t a b) ρ S = rb (evT G t ρ S) fun c S => if c then evE G a ρ S else evE G b ρ S := by
  conv => lhs; unfold evE
  try rfl
theorem evE_idx {a} {i} : evE G (.idx a i) ρ S = rb (evE G a ρ S) fun x S => rb (evE G i ρ S) fun y S => lift (idxD x y) S := by
  conv => lhs; unfold evE
  try rfl
theorem evE_slc {a} {lo} {hi} : evE G (.slc a lo hi) ρ S = rb (evE G a ρ S) fun x S => rb (evO G lo ρ S) fun l S => rb (evO G hi ρ S) fun h S => lift (slcD x l h) S := by
  conv => lhs; unfold evE
  try rfl
theorem evE_rev {a} : evE G (.rev a) ρ S = rb (evE G a ρ S) fun x S => lift (revD x) S := by
  conv => lhs; unfold evE
  try rfl
theorem evE_call {f} {es} : evE G (.call f es) ρ S = rb (evEs G es ρ S) fun ds S => G.f f ds S := by
  conv => lhs; unfold evE
  try rfl
theorem evE_callK {f} {is} {es} {u0} : evE G (.callK f u0 is es) ρ S = rb (evEs G es ρ S) fun ds S => match permO is ds with
    | some zs => G.f f zs S
    | none => none := by
  conv => lhs; unfold evE
  try rfl
theorem evE_blt {b} {a} : evE G (.blt b a) ρ S = rb (evE G a ρ S) fun x S => lift (bltD b x) S := by
  conv => lhs; unfold evE
  try rfl
theorem evE_sset {a} : evE G (.sset a) ρ S = rb (evE G a ρ S) fun x S => lift (ssetD x) S := by
  conv => lhs; unfold evE
  try rfl
theorem evE_said {k} {e} : evE G (.said k e) ρ S = if isTab S k = true then saidM G.rf (evE G.low e ρ S) else none := by
  conv => lhs; unfold evE
  try rfl
theorem evE_isa {a} {t} : evE G (.isa a t) ρ S = rb (evE G a ρ S) fun x S => lift ((tyN x).map fun _ => .bl (isaD t x)) S := by
  conv => lhs; unfold evE
  try rfl
theorem evE_cnt {i} {a} : evE G (.cnt i a) ρ S = match ownAt ρ i with
    | some ds => rb (evE G a ρ S) fun y S => lift (cntD ds y) S
    | none => none := by
  conv => lhs; unfold evE
  try rfl
theorem evE_isaC {a} {k} : evE G (.isaC a k) ρ S = rb (evE G a ρ S) fun x S => lift (excC G k x) S := by
  conv => lhs; unfold evE
  try rfl
theorem evE_fld {a} {f} : evE G (.fld a f) ρ S = rb (evE G a ρ S) fun x S => lift (excF G f x) S := by
  conv => lhs; unfold evE
  try rfl
theorem evE_dget {a} {k} : evE G (.dget a k) ρ S = rb (evE G a ρ S) fun x S => lift (getD S k x) S := by
  conv => lhs; unfold evE
  try rfl
theorem evE_dct {ks} {es} : evE G (.dct ks es) ρ S = rb (evEs G es ρ S) fun ds S => mkDct ks ds S := by
  conv => lhs; unfold evE
  try rfl
theorem evBs_nil {conj : Bool} : evBs G conj (.nil) ρ S = some (.ok conj S) := by
  conv => lhs; unfold evBs
  try rfl
theorem evBs_cons {conj : Bool} {e} {es} : evBs G conj (.cons e es) ρ S = rb (evE G e ρ S) fun x S => rb (lift (blD x) S) fun b S => if b = conj then evBs G conj es ρ S else some (.ok b S) := by
  conv => lhs; unfold evBs
  try rfl
theorem evT_val {e} : evT G (.val e) ρ S = rb (evE G e ρ S) fun x S => lift x.truth S := by
  conv => lhs; unfold evT
  try rfl
theorem evT_bool {k} {ts} : evT G (.bool k ts) ρ S = evB G k ts ρ S := by
  conv => lhs; unfold evT
  try rfl
theorem evT_not {t} : evT G (.not t) ρ S = rb (evT G t ρ S) fun b S => some (.ok (!b) S) := by
  conv => lhs; unfold evT
  try rfl
theorem evB_nil {conj : Bool} : evB G conj (.nil) ρ S = some (.ok conj S) := by
  conv => lhs; unfold evB
  try rfl
theorem evB_cons {conj : Bool} {t} {ts} : evB G conj (.cons t ts) ρ S = rb (evT G t ρ S) fun b S => if b = conj then evB G conj ts ρ S else some (.ok b S) := by
  conv => lhs; unfold evB
  try rfl
theorem evTs_nil : evTs G (.nil) ρ S = some (.ok true S) := by
  conv => lhs; unfold evTs
  try rfl
theorem evTs_cons {t} {ts} : evTs G (.cons t ts) ρ S = rb (evT G t ρ S) fun b S => if b = true then evTs G ts ρ S else some (.ok false S) := by
  conv => lhs; unfold evTs
  try rfl
theorem evEs_nil : evEs G (.nil) ρ S = some (.ok [] S) := by
  conv => lhs; unfold evEs
  try rfl
theorem evEs_cons {e} {es} : evEs G (.cons e es) ρ S = rb (evE G e ρ S) fun d S => rb (evEs G es ρ S) fun ds S => some (.ok (d :: ds) S) := by
  conv => lhs; unfold evEs
  try rfl
theorem evO_no : evO G (.no) ρ S = some (.ok none S) := by
  conv => lhs; unfold evO
  try rfl
theorem evO_so {e} : evO G (.so e) ρ S = rb (evE G e ρ S) fun d S => match d with
    | .int i => some (.ok (some i) S)
    | _ => none := by
  conv => lhs; unfold evO
  try rfl
theorem evI_ex {e} : evI G (.ex e) ρ S = rb (evE G e ρ S) fun d S => lift (iterD d) S := by
  conv => lhs; unfold evI
  try rfl
theorem evI_enum {e} : evI G (.enum e) ρ S = rb (evE G e ρ S) fun d S => lift ((seqD d).map enumD) S := by
  conv => lhs; unfold evI
  try rfl
theorem evI_rng {e} : evI G (.rng e) ρ S = rb (evE G e ρ S) fun d S => lift (rng1D d) S := by
  conv => lhs; unfold evI
  try rfl
theorem evI_rng2 {a} {b} : evI G (.rng2 a b) ρ S = rb (evE G a ρ S) fun x S => rb (evE G b ρ S) fun y S => lift (rng2D x y) S := by
  conv => lhs; unfold evI
  try rfl
theorem evS_asg {i} {e} : evS G (.asg i e) ρ S = vb (evE G e ρ S) fun d S => some (.nx (ρ.set i (.val d)) S) := by
  conv => lhs; unfold evS
  try rfl
theorem evS_asgO {i} {e} : evS G (.asgO i e) ρ S = vb (evE G e ρ S) fun d S => match lstD d with
    | some ds => some (.nx (ρ.set i (.own ds)) S)
    | none => none := by
  conv => lhs; unfold evS
  try rfl
theorem evS_unp {t} {e} : evS G (.unp t e) ρ S = vb (evE G e ρ S) fun d S => match bindT t d ρ with
    | some ρ' => some (.nx ρ' S)
    | none => none := by
  conv => lhs; unfold evS
  try rfl
theorem evS_expr {e} : evS G (.expr e) ρ S = vb (evE G e ρ S) fun _ S => some (.nx ρ S) := by
  conv => lhs; unfold evS
  try rfl
theorem evS_ifs {t} {a} {b} : evS G (.ifs t a b) ρ S = vb (evT G t ρ S) fun c S => if c then evSs G a ρ S else evSs G b ρ S := by
  conv => lhs; unfold evS
  try rfl
theorem evS_ret {e} : evS G (.ret e) ρ S = vb (evE G e ρ S) fun d S => some (.rt d S) := by
  conv => lhs; unfold evS
  try rfl
theorem evS_retN : evS G (.retN) ρ S = some (.rt .non S) := by
  conv => lhs; unfold evS
  try rfl
theorem evS_retO {i} : evS G (.retO i) ρ S = match ownAt ρ i with
    | some ds => some (.rt (.lst ds) S)
    | none => none := by
  conv => lhs; unfold evS
  try rfl
theorem evS_whl {n} {t} {b} : evS G (.whl n t b) ρ S = whlM (fun ρ S => evT G t ρ S) (fun ρ S => evSs G b ρ S) n ρ S := by
  conv => lhs; unfold evS
  try rfl
theorem evS_app {i} {e} : evS G (.app i e) ρ S = match ownAt ρ i with
    | some ds => vb (evE G e ρ S) fun d S => if ds.length < maxLen then some (.nx (ρ.set i (.own (ds ++ [d]))) S) else none
    | none => none := by
  conv => lhs; unfold evS
  try rfl
theorem evS_ext {i} {e} : evS G (.ext i e) ρ S = match ownAt ρ i with
    | some ds => vb (evE G e ρ S) fun d S => match lstD d with
      | some es => if ds.length + es.length ≤ maxLen then some (.nx (ρ.set i (.own (ds ++ es))) S) else none
      | none => none
    | none => none := by
  conv => lhs; unfold evS
  try rfl
theorem evS_seti {i} {k} {e} : evS G (.seti i k e) ρ S = match ownAt ρ i with
    | some ds => vb (evE G e ρ S) fun d S => vb (evE G k ρ S) fun j S => match intD j with
      | some n => if 0 ≤ n ∧ n < ds.length then some (.nx (ρ.set i (.own (ds.set n.toNat d))) S) else none
      | none => none
    | none => none := by
  conv => lhs; unfold evS
  try rfl
theorem evS_dput {a} {k} {e} : evS G (.dput a k e) ρ S = vb (evE G e ρ S) fun d S => vb (evE G a ρ S) fun x S => match putD S k d x with
    | some S' => some (.nx ρ S')
    | none => none := by
  conv => lhs; unfold evS
  try rfl
theorem evS_raise {c} {es} : evS G (.raise c es) ρ S = vb (evEs G es ρ S) fun ds S => if ds.length = (G.xf c).length then some (.ex ⟨c, ((G.xf c).zip ds).reverse⟩ S) else none := by
  conv => lhs; unfold evS
  try rfl
theorem evS_frz {i} : evS G (.frz i) ρ S = match ownAt ρ i with
    | some ds => some (.nx (ρ.set i (.val (.lst ds))) S)
    | none => none := by
  conv => lhs; unfold evS
  try rfl
theorem evS_pass : evS G (.pass) ρ S = some (.nx ρ S) := by
  conv => lhs; unfold evS
  try rfl
theorem evS_brk : evS G (.brk) ρ S = some (.bk ρ S) := by
  conv => lhs; unfold evS
  try rfl
theorem evS_cont : evS G (.cont) ρ S = some (.ct ρ S) := by
  conv => lhs; unfold evS
  try rfl
theorem evSs_nil : evSs G (.nil) ρ S = some (.nx ρ S) := by
  conv => lhs; unfold evSs
  try rfl
theorem evSs_cons {s} {ss} : evSs G (.cons s ss) ρ S = fb (evS G s ρ S) fun ρ S => evSs G ss ρ S := by
  conv => lhs; unfold evSs
  try rfl
end
end Mi
end

section
set_option linter.all false
set_option maxRecDepth 100000
set_option Elab.async false
/-! MiN: reckoning with short programs: data. -/
namespace Mi
open PySem
section
variable {i j k : Int} {a b : Bool} {x y : Str} {xs ys : List D} {d : D} {ρ : Env} {S : Sto} {n : Nat}
@[simp] theorem maxLen_val : maxLen = 16777216 := by unfold maxLen; exact sizeLine_eq
@[simp] theorem bop_add_i : bop .add (.int i) (.int j) = some (.int (i + j)) := rfl
@[simp] theorem bop_sub_i : bop .sub (.int i) (.int j) = some (.int (i - j)) := rfl
@[simp] theorem bop_add_t : bop .add (.tup xs) (.tup ys) = mkT (xs ++ ys) := rfl
@[simp] theorem bop_add_l : bop .add (.lst xs) (.lst ys) = mkL (xs ++ ys) := rfl
@[simp] theorem bop_add_s : bop .add (.str x) (.str y) = if x.length + y.length ≤ maxLen then some (.str (x ++ y)) else none := rfl
theorem bop_mod_i (h : 0 < j) : bop .mod (.int i) (.int j) = some (.int (i % j)) := if_pos h
theorem bop_fdiv_i (h : 0 < j) (h2 : j < 1073741824) : bop .fdiv (.int i) (.int j) = some (.int (i / j)) := if_pos ⟨h, h2⟩
theorem bop_mul_r (h : -(2 ^ 64) < j ∧ j < 2 ^ 64) : bop .mul (.int i) (.int j) = some (.int (i * j)) := if_pos (.inr h)
theorem bop_mul_l (h : -(2 ^ 64) < i ∧ i < 2 ^ 64) : bop .mul (.int i) (.int j) = some (.int (i * j)) := if_pos (.inl h)
@[simp] theorem bop_pow1018 : bop .pow (.int 10) (.int 18) = some (.int 1000000000000000000) := by kernel_rfl
@[simp] theorem bop_pow1059 : bop .pow (.int 10) (.int 59) = some (.int 100000000000000000000000000000000000000000000000000000000000) := by kernel_rfl
@[simp] theorem cop_lt_i : cop .lt (.int i) (.int j) = some (decide (i < j)) := rfl
@[simp] theorem cop_gt_i : cop .gt (.int i) (.int j) = some (decide (j < i)) := rfl
@[simp] theorem cop_le_i : cop .le (.int i) (.int j) = some (decide (i ≤ j)) := rfl
@[simp] theorem cop_ge_i : cop .ge (.int i) (.int j) = some (decide (j ≤ i)) := rfl
@[simp] theorem cop_eq_i : cop .eq (.int i) (.int j) = some (decide (i = j)) := rfl
@[simp] theorem cop_ne_i : cop .ne (.int i) (.int j) = some (!decide (i = j)) := rfl
@[simp] theorem cop_eq_s : cop .eq (.str x) (.str y) = some (decide (x = y)) := rfl
@[simp] theorem cop_ne_s : cop .ne (.str x) (.str y) = some (!decide (x = y)) := rfl
@[simp] theorem blt_int_i : bltD .int (.int i) = some (.int i) := rfl
@[simp] theorem blt_int_b : bltD .int (.bl b) = some (.int (if b then 1 else 0)) := rfl
@[simp] theorem blt_len_l : bltD .len (.lst xs) = some (.int xs.length) := rfl
@[simp] theorem blt_len_t : bltD .len (.tup xs) = some (.int xs.length) := rfl
@[simp] theorem blt_len_s : bltD .len (.str x) = if x.length ≤ maxLen then some (.int x.length) else none := rfl
@[simp] theorem blt_tup_l : bltD .tuple (.lst xs) = mkT xs := rfl
@[simp] theorem blt_tup_t : bltD .tuple (.tup xs) = some (.tup xs) := rfl
@[simp] theorem blt_list_l : bltD .list (.lst xs) = mkL xs := rfl
@[simp] theorem blt_list_t : bltD .list (.tup xs) = mkL xs := rfl
@[simp] theorem blt_all_l : bltD .all (.lst xs) = (bls xs).map fun bs => .bl (bs.all id) := rfl
@[simp] theorem blt_sorted_l : bltD .sorted (.lst xs) = sortD xs := rfl
@[simp] theorem blt_repr : bltD .repr d = reprD d := by cases d <;> rfl
@[simp] theorem blt_str_s : bltD .str (.str x) = some (.str x) := rfl
@[simp] theorem negD_i : negD (.int i) = some (.int (-i)) := rfl
@[simp] theorem intD_i : intD (.int i) = some i := rfl
@[simp] theorem lstD_l : lstD (.lst xs) = some xs := rfl
@[simp] theorem idxD_l : idxD (.lst xs) (.int i) = atD xs i := rfl
@[simp] theorem idxD_t : idxD (.tup xs) (.int i) = atD xs i := rfl
@[simp] theorem slcD_l {lo hi} : slcD (.lst xs) lo hi = some (.lst (cutG xs lo hi)) := rfl
@[simp] theorem slcD_t {lo hi} : slcD (.tup xs) lo hi = some (.tup (cutG xs lo hi)) := rfl
@[simp] theorem slcD_s {lo hi} : slcD (.str x) lo hi = if x.length ≤ maxLen then some (.str (L2.cutS x lo hi)) else none := rfl
@[simp] theorem revD_l : revD (.lst xs) = some (.lst xs.reverse) := rfl
@[simp] theorem revD_t : revD (.tup xs) = some (.tup xs.reverse) := rfl
@[simp] theorem iterD_l : iterD (.lst xs) = some xs := rfl
@[simp] theorem iterD_t : iterD (.tup xs) = some xs := rfl
@[simp] theorem seqD_l : seqD (.lst xs) = some xs := rfl
@[simp] theorem seqD_t : seqD (.tup xs) = some xs := rfl
@[simp] theorem truth_i : (D.int i).truth = some (i != 0) := rfl
@[simp] theorem bindT_nm : bindT (.nm n) d ρ = some (ρ.set n (.val d)) := rfl
@[simp] theorem bindT_tp {is : List Nat} : bindT (.tp is) (.tup xs) ρ = if xs.length = is.length then some (unpE is xs ρ) else none := rfl
@[simp] theorem unpE_c {is : List Nat} {m : Nat} {e : D} {ds : List D} : unpE (m :: is) (e :: ds) ρ = unpE is ds (ρ.set m (.val e)) := rfl
@[simp] theorem unpE_n : unpE [] [] ρ = ρ := rfl
@[simp] theorem catD_l : catD (.lst xs) (.lst ys) = mkL (xs ++ ys) := rfl
theorem mkT_ok (h : xs.length ≤ 16777216) : mkT xs = some (.tup xs) := by unfold mkT; rw [maxLen_val, if_pos h]
theorem mkL_ok (h : xs.length ≤ 16777216) : mkL xs = some (.lst xs) := by unfold mkL; rw [maxLen_val, if_pos h]
@[simp] theorem tyN_n : tyN .non = some "NoneType" := rfl
@[simp] theorem tyN_b : tyN (.bl b) = some "bool" := rfl
@[simp] theorem tyN_i : tyN (.int i) = some "int" := rfl
@[simp] theorem tyN_s : tyN (.str x) = some "str" := rfl
@[simp] theorem tyN_t : tyN (.tup xs) = some "tuple" := rfl
@[simp] theorem tyN_l : tyN (.lst xs) = some "list" := rfl
end
theorem at_ok {α : Type} {xs : List α} {i : Int} (h0 : 0 ≤ i) (h1 : i < xs.length) : L2.atI xs i = xs[i.toNat]? := by
  unfold L2.atI L2.ixN
  rw [if_pos h0, if_pos h1]; rfl
theorem idx_mem {xs : List D} {i : Int} (h0 : 0 ≤ i) (h1 : i < xs.length) : ∃ d, atD xs i = some d ∧ d ∈ xs := by
  have e : i.toNat < xs.length := by omega
  exact ⟨xs[i.toNat], by show L2.atI xs i = _; rw [at_ok h0 h1, List.getElem?_eq_getElem e], List.getElem_mem e⟩
/-! ### comprehensions and loops -/
/-- one turn of a comprehension -/
def compF (G : Tab) (el : CE) (t : Tg) (ifs : CTs) (ρ : Env) : D → Sto → Mo (Option D) := fun x S => match bindT t x ρ with
  | some ρ' => rb (evTs G ifs ρ' S) fun b S => if b = true then rb (evE G el ρ' S) fun d S => some (.ok (some d) S) else some (.ok none S)
  | none => none
theorem evE_comp {G : Tab} {el : CE} {t : Tg} {it : CI} {ifs : CTs} {ρ : Env} {S : Sto} : evE G (.comp el t it ifs) ρ S = rb (evI G it ρ S) fun xs S => rb (compM (compF G el t ifs ρ) xs [] S) fun ds S => some (.ok (.lst ds) S) := by
  conv => lhs; unfold evE
  rfl
/-- one turn of a loop -/
def forF (G : Tab) (t : Tg) (b : CSs) : D → Env → Sto → Fo := fun x ρ S => match bindT t x ρ with
  | some ρ' => evSs G b ρ' S
  | none => none
theorem evS_for {G : Tab} {t : Tg} {it : CI} {b : CSs} {ρ : Env} {S : Sto} : evS G (.for1 t it b) ρ S = vb (evI G it ρ S) fun xs S => forM (forF G t b) xs ρ S := by
  conv => lhs; unfold evS
  rfl
theorem compM_if {J : Sto → Prop} {f : D → Sto → Mo (Option D)} {xs0 : List D} {P : D → Prop} (hf : ∀ x ∈ xs0, ∀ S, J S → ∃ o S', f x S = some (.ok o S') ∧ J S' ∧ ∀ d, o = some d → P d) : ∀ (xs acc : List D) (S : Sto), (∀ x ∈ xs, x ∈ xs0) → J S → (∀ d ∈ acc, P d) → acc.length + xs.length ≤ 16777216 →
    ∃ ds S', compM f xs acc S = some (.ok ds S') ∧ J S' ∧ (∀ d ∈ ds, P d) ∧ ds.length ≤ acc.length + xs.length
  | [], acc, S, _, hS, ha, hl => ⟨acc, S, rfl, hS, ha, Nat.le_refl _⟩
  | x :: xs, acc, S, hx, hS, ha, hl => by
    obtain ⟨o, S', e, hS', hP⟩ := hf x (hx x List.mem_cons_self) S hS
    have hx' : ∀ y ∈ xs, y ∈ xs0 := fun y hy => hx y (List.mem_cons_of_mem _ hy)
    rw [List.length_cons] at hl
    cases o with
    | none =>
      obtain ⟨ds, S2, e2, h2, h3, h4⟩ := compM_if hf xs acc S' hx' hS' ha (by omega)
      refine ⟨ds, S2, ?_, h2, h3, by rw [List.length_cons]; omega⟩
      unfold compM
      rw [e]
      exact e2
    | some d =>
      obtain ⟨ds, S2, e2, h2, h3, h4⟩ := compM_if hf xs (acc ++ [d]) S' hx' hS' (fun z hz => by
        rcases List.mem_append.mp hz with q | q
        · exact ha z q
        · rw [List.mem_singleton.mp q]; exact hP d rfl) (by rw [List.length_append, List.length_singleton]; omega)
      refine ⟨ds, S2, ?_, h2, h3, by rw [List.length_append, List.length_singleton] at h4; rw [List.length_cons]; omega⟩
      unfold compM
      rw [e]
      show (if acc.length < maxLen then compM f xs (acc ++ [d]) S' else none) = _
      rw [if_pos (by rw [maxLen_val]; omega)]
      exact e2
/-- a comprehension that runs nothing: as a filtered map -/
theorem compM_pure {f : D → Sto → Mo (Option D)} {S : Sto} (g : D → Option D) : ∀ (xs acc : List D), (∀ x ∈ xs, f x S = some (.ok (g x) S)) → acc.length + xs.length ≤ 16777216 → compM f xs acc S = some (.ok (acc ++ xs.filterMap g) S)
  | [], acc, _, _ => by simp [compM]
  | x :: xs, acc, hf, hl => by
    rw [List.length_cons] at hl
    unfold compM
    rw [hf x List.mem_cons_self]
    cases e : g x with
    | none =>
      show compM f xs acc S = _
      rw [compM_pure g xs acc (fun y hy => hf y (List.mem_cons_of_mem _ hy)) (by omega), List.filterMap_cons_none e]
    | some d =>
      show (if acc.length < maxLen then compM f xs (acc ++ [d]) S else none) = _
      rw [if_pos (by rw [maxLen_val]; omega), compM_pure g xs (acc ++ [d]) (fun y hy => hf y (List.mem_cons_of_mem _ hy)) (by rw [List.length_append, List.length_singleton]; omega), List.filterMap_cons_some e]
      simp
theorem forM_inv {body : D → Env → Sto → Fo} {xs0 : List D} (I : Env → Sto → Prop) (hb : ∀ x ∈ xs0, ∀ ρ S, I ρ S → ∃ ρ' S', body x ρ S = some (.nx ρ' S') ∧ I ρ' S') : ∀ (xs : List D) (ρ : Env) (S : Sto), (∀ x ∈ xs, x ∈ xs0) → I ρ S → ∃ ρ' S', forM body xs ρ S = some (.nx ρ' S') ∧ I ρ' S'
  | [], ρ, S, _, h => ⟨ρ, S, rfl, h⟩
  | x :: xs, ρ, S, hx, h => by
    obtain ⟨ρ1, S1, e, h1⟩ := hb x (hx x List.mem_cons_self) ρ S h
    obtain ⟨ρ2, S2, e2, h2⟩ := forM_inv I hb xs ρ1 S1 (fun y hy => hx y (List.mem_cons_of_mem _ hy)) h1
    refine ⟨ρ2, S2, ?_, h2⟩
    unfold forM
    rw [e]
    exact e2
/-- .. the number of the turns told -/
theorem forM_num {body : D → Env → Sto → Fo} (I : Nat → Env → Sto → Prop) : ∀ (xs : List D) (k : Nat) (ρ : Env) (S : Sto), (∀ x ∈ xs, ∀ k ρ S, I k ρ S → ∃ ρ' S', body x ρ S = some (.nx ρ' S') ∧ I (k + 1) ρ' S') → I k ρ S → ∃ ρ' S', forM body xs ρ S = some (.nx ρ' S') ∧ I (k + xs.length) ρ' S'
  | [], k, ρ, S, _, h => ⟨ρ, S, rfl, h⟩
  | x :: xs, k, ρ, S, hb, h => by
    obtain ⟨ρ1, S1, e, h1⟩ := hb x List.mem_cons_self k ρ S h
    obtain ⟨ρ2, S2, e2, h2⟩ := forM_num I xs (k + 1) ρ1 S1 (fun y hy => hb y (List.mem_cons_of_mem _ hy)) h1
    refine ⟨ρ2, S2, ?_, by rw [List.length_cons, show k + (xs.length + 1) = k + 1 + xs.length by omega]; exact h2⟩
    unfold forM
    rw [e]
    exact e2
theorem rngD_ok {n : Nat} (h : (n : Int) < 2 ^ 62) : rng1D (.int n) = some ((List.range n).map fun (k : Nat) => D.int k) := by
  show rngD 0 n = _
  unfold rngD
  rw [if_pos ⟨by decide, by decide, by omega, h⟩]
  simp
/-- range(e): told where e's value is known (the kernel is not to look into the bounds) -/
theorem evI_rng_ok {G : Tab} {e : CE} {ρ : Env} {S S' : Sto} {n : Nat} (h : evE G e ρ S = some (.ok (.int n) S')) (hn : n < 1073741824) : evI G (.rng e) ρ S = some (.ok ((List.range n).map fun (k : Nat) => D.int k) S') := by
  rw [evI_rng, h, rb_ok1, rngD_ok (by omega)]
  rfl
end Mi
end

section
set_option linter.all false
set_option maxRecDepth 100000
set_option Elab.async false
/-! MiV: keys in order: what ascends is what sorted(set(..)) gives; == of such rows. -/
namespace Mi
open PySem L2
def ltK (a b : NestedKey) : Bool := PySem.W.dataLt a.data b.data
def ascK : List NestedKey → Bool
  | x :: y :: r => ltK x y && ascK (y :: r)
  | _ => true
def AlikeK (ks : List NestedKey) : Prop := ∀ p ∈ ks, ∀ q ∈ ks, PySem.W.alike p.data q.data = true
theorem ltK_trans {a b c : NestedKey} (h : ltK a b = true) (h' : ltK b c = true) : ltK a c = true := PyProof.Rows.lex_trans (O := PyProof.Rows.itemOrd) _ _ _ h h'
theorem ltK_irr (a : NestedKey) : ltK a a = false := PyProof.Rows.lex_irrefl (O := PyProof.Rows.itemOrd) _
theorem leK (a b : NestedKey) : PySem.W.dataLe false NestedKey.data a b = !ltK b a := rfl
theorem le_of_lt {a b : NestedKey} (h : ltK a b = true) : PySem.W.dataLe false NestedKey.data a b = true := by
  rw [leK]
  cases q : ltK b a with
  | false => rfl
  | true =>
    have := ltK_trans h q
    rw [ltK_irr] at this
    cases this
theorem lt_of_le {a b : NestedKey} (hal : PySem.W.alike a.data b.data = true) (h : PySem.W.dataLe false NestedKey.data a b = true) (ne : a ≠ b) : ltK a b = true := by
  cases q : ltK a b with
  | true => rfl
  | false =>
    refine absurd (data_inj _ _ (dLe_anti hal h ?_)) ne
    rw [leK, q]; rfl
theorem asc_pwK : ∀ {ks : List NestedKey}, ascK ks = true → ks.Pairwise fun x y => ltK x y = true
  | [], _ => .nil
  | [x], _ => List.pairwise_singleton _ _
  | x :: y :: r, a => by
    have a : (ltK x y && ascK (y :: r)) = true := a
    rw [Bool.and_eq_true] at a
    have ih := asc_pwK (ks := y :: r) a.2
    refine .cons (fun z hz => ?_) ih
    rcases List.mem_cons.mp hz with e | e
    · rw [e]; exact a.1
    · exact ltK_trans a.1 ((List.pairwise_cons.mp ih).1 z e)
theorem pw_ascK : ∀ {ks : List NestedKey}, (ks.Pairwise fun x y => ltK x y = true) → ascK ks = true
  | [], _ => rfl
  | [x], _ => rfl
  | x :: y :: r, h => by
    have ⟨h1, h2⟩ := List.pairwise_cons.mp h
    show (ltK x y && ascK (y :: r)) = true
    rw [h1 y (by simp), pw_ascK h2]; rfl
theorem sset_mem {ks : List NestedKey} {k : NestedKey} : k ∈ ssetL ks ↔ k ∈ ks := by
  unfold ssetL
  rw [List.mem_mergeSort, List.mem_eraseDups]
theorem sset_nd (ks : List NestedKey) : (ssetL ks).Nodup := by
  unfold ssetL
  exact (List.mergeSort_perm _ _).nodup_iff.mpr (nodup_dups _ ks (Nat.le_refl _))
theorem sset_le (ks : List NestedKey) : (ssetL ks).Pairwise fun a b => PySem.W.dataLe false NestedKey.data a b = true :=
  List.pairwise_mergeSort (fun a b c => dLe_trans a b c) (fun a b => by rcases dLe_total (k := NestedKey.data) a b with z | z <;> simp [z]) _
theorem sset_asc {ks : List NestedKey} (h : AlikeK ks) : ascK (ssetL ks) = true := by
  refine pw_ascK ?_
  have two : (ssetL ks).Pairwise fun a b => PySem.W.dataLe false NestedKey.data a b = true ∧ a ≠ b := List.pairwise_and_iff.mpr ⟨sset_le ks, sset_nd ks⟩
  exact List.Pairwise.imp_of_mem (fun {a b} ha hb z => lt_of_le (h a (sset_mem.mp ha) b (sset_mem.mp hb)) z.1 z.2) two
theorem asc_nd {ks : List NestedKey} (a : ascK ks = true) : ks.Nodup := (asc_pwK a).imp fun {x y} h e => by
  subst e
  rw [ltK_irr] at h
  cases h
theorem asc_sset {ks : List NestedKey} (h : AlikeK ks) (a : ascK ks = true) : ssetL ks = ks :=
  (sset_one h (asc_nd a) (fun _ => Iff.rfl) ((asc_pwK a).imp fun {x y} h => le_of_lt h)).symm
theorem sset_iff {ks : List NestedKey} (h : AlikeK ks) : decide (ks = ssetL ks) = ascK ks := by
  cases a : ascK ks with
  | true => exact decide_eq_true (asc_sset h a).symm
  | false =>
    refine decide_eq_false fun e => ?_
    have := sset_asc h
    rw [← e, a] at this
    cases this
theorem dups_le : ∀ (n : Nat) (ks : List NestedKey), ks.length ≤ n → ks.eraseDups.length ≤ ks.length
  | _, [], _ => by simp
  | 0, _ :: _, h => by simp at h
  | n + 1, k :: ks, h => by
    rw [List.eraseDups_cons, List.length_cons, List.length_cons]
    have := dups_le n (ks.filter fun b => !b == k) (Nat.le_trans (List.length_filter_le _ _) (Nat.le_of_succ_le_succ h))
    have := List.length_filter_le (fun b => !b == k) ks
    omega
theorem sset_len (ks : List NestedKey) : (ssetL ks).length ≤ ks.length := by
  unfold ssetL
  rw [List.length_mergeSort]
  exact dups_le _ ks (Nat.le_refl _)
/-! ### keys as data of the short programs -/
mutual
theorem toPy_un : ∀ k : NestedKey, (unK k).toPy = some k.data
  | .none => rfl
  | .num i => rfl
  | .text x => rfl
  | .tup ks => by
    unfold unK NestedKey.data D.toPy
    rw [toPys_un ks]; rfl
theorem toPys_un : ∀ ks : List NestedKey, D.toPys (unKs ks) = some (NestedKey.datas ks)
  | [] => rfl
  | k :: ks => by
    unfold unKs NestedKey.datas D.toPys
    rw [toPy_un k, toPys_un ks]
end
mutual
theorem eqv_key : ∀ a b : NestedKey, PyData.eqv a.data b.data = decide (a = b)
  | .none, b => by
    cases b <;> unfold NestedKey.data PyData.eqv <;> simp
  | .num i, b => by
    cases b <;> unfold NestedKey.data PyData.eqv <;> simp
    first | rfl | (rename_i j; by_cases e : i = j <;> simp [e])
  | .text x, b => by
    cases b <;> unfold NestedKey.data PyData.eqv <;> simp
    first | rfl | (rename_i y; by_cases e : x = y <;> simp [e])
  | .tup ks, b => by
    cases b with
    | tup ls =>
      unfold NestedKey.data PyData.eqv
      rw [eqv_keys ks ls]
      by_cases e : ks = ls <;> simp [e]
    | _ => unfold NestedKey.data PyData.eqv; simp
theorem eqv_keys : ∀ a b : List NestedKey, PyData.eqvAll (NestedKey.datas a) (NestedKey.datas b) = decide (a = b)
  | [], [] => rfl
  | [], _ :: _ => by unfold NestedKey.datas PyData.eqvAll; simp
  | _ :: _, [] => by unfold NestedKey.datas PyData.eqvAll; simp
  | x :: a, y :: b => by
    unfold NestedKey.datas PyData.eqvAll
    rw [eqv_key x y, eqv_keys a b]
    by_cases e : x = y
    · subst e
      by_cases e2 : a = b <;> simp [e2]
    · simp [e]
end
/-- == of rows of keys -/
theorem eq_keysL {a b : List NestedKey} (ha : PyData.canLayAll0 (NestedKey.datas a) = true) (hb : PyData.canLayAll0 (NestedKey.datas b) = true) (hd : PyData.depthAll (NestedKey.datas a) ≤ 60) : cop .eq (.lst (unKs a)) (.lst (unKs b)) = some (decide (a = b)) := by
  show eqD (.lst (unKs a)) (.lst (unKs b)) = _
  unfold eqD
  show (match (none : Option Bool) with | some b => some b | none => _) = _
  have h1 : D.toPy (.lst (unKs a)) = some (.list (NestedKey.datas a)) := by unfold D.toPy; rw [toPys_un]; rfl
  have h2 : D.toPy (.lst (unKs b)) = some (.list (NestedKey.datas b)) := by unfold D.toPy; rw [toPys_un]; rfl
  simp only [h1, h2]
  unfold eqPy
  rw [if_pos ⟨ha, hb, by
    show min (PyData.depthAll _ + 1) _ ≤ 64
    omega⟩]
  show some (PyData.eqvAll _ _) = _
  rw [eqv_keys]
theorem ltD_text (x y : Str) : ltD (.str x) (.str y) = some (ltK (.text x) (.text y)) := by
  show some (decide (x.cps.toList < y.cps.toList)) = some (PyProof.Rows.lexLt PyProof.Rows.itemOrd [.inr x.cps.toList] [.inr y.cps.toList])
  rw [PyProof.Rows.lex_cons]
  show some _ = some (PyProof.Rows.itemLt (.inr _) (.inr _) || (!PyProof.Rows.itemLt (.inr _) (.inr _) && false))
  rw [Bool.and_false, Bool.or_false]
  rfl
theorem ltD_tup {a b : List NestedKey} (hal : PySem.W.alikeAll (NestedKey.datas a) (NestedKey.datas b) = true) (hd : NestedKey.depthAll a ≤ 60) : ltD (.tup (unKs a)) (.tup (unKs b)) = some (ltK (.tup a) (.tup b)) := by
  unfold ltD
  simp only [toPys_un]
  have c2 : min (PyData.depth (.tuple (NestedKey.datas a))) (PyData.depth (.tuple (NestedKey.datas b))) ≤ 64 := by
    have := keys_depth a
    show min (PyData.depthAll (NestedKey.datas a) + 1) _ ≤ 64
    omega
  rw [if_pos ⟨hal, c2⟩]
  rfl
/-! ### ranges, rows -/
theorem atK {ks : List NestedKey} {k : Nat} (h : k < ks.length) : atD (unKs ks) (k : Int) = some (unK (ks.getD k .none)) := by
  show L2.atI _ _ = _
  have lw : (unKs ks).length = ks.length := by rw [unKs_map, List.length_map]
  rw [at_ok (by omega) (by omega), Int.toNat_natCast, unKs_map, List.getElem?_map, List.getElem?_eq_getElem h, List.getD_eq_getElem?_getD, List.getElem?_eq_getElem h]
  rfl
theorem ascK_rng : ∀ (ks : List NestedKey) (n : Nat), ks.length = n + 1 → ((List.range n).all fun k => ltK (ks.getD k .none) (ks.getD (k + 1) .none)) = ascK ks
  | [_], n, h => by
    have : n = 0 := by simp at h; omega
    subst this; rfl
  | x :: y :: r, n, h => by
    obtain ⟨k, rfl⟩ : ∃ k, n = k + 1 := ⟨r.length, by simp at h; omega⟩
    have ih := ascK_rng (y :: r) k (by simp at h ⊢; omega)
    rw [List.range_succ_eq_map, List.all_cons, List.all_map]
    show (ltK x y && _) = (ltK x y && ascK (y :: r))
    rw [← ih]; rfl
/-- a comprehension that draws: what it keeps is a part of the row, in its order -/
theorem compM_sub {J : Sto → Prop} {f : D → Sto → Mo (Option D)} : ∀ (xs acc : List D) (S : Sto), (∀ x ∈ xs, ∀ S, J S → ∃ o S', f x S = some (.ok o S') ∧ J S' ∧ (o = none ∨ o = some x)) → J S → acc.length + xs.length ≤ 16777216 →
    ∃ ds S', compM f xs acc S = some (.ok (acc ++ ds) S') ∧ J S' ∧ ds.Sublist xs
  | [], acc, S, _, hS, hl => ⟨[], S, by rw [List.append_nil]; rfl, hS, .slnil⟩
  | x :: xs, acc, S, hf, hS, hl => by
    obtain ⟨o, S', e, hS', hP⟩ := hf x List.mem_cons_self S hS
    have hf' := fun y hy => hf y (List.mem_cons_of_mem x hy)
    rw [List.length_cons] at hl
    rcases hP with rfl | rfl
    · obtain ⟨ds, S2, e2, h2, h3⟩ := compM_sub xs acc S' hf' hS' (by omega)
      refine ⟨ds, S2, ?_, h2, h3.cons x⟩
      unfold compM
      rw [e]
      exact e2
    · obtain ⟨ds, S2, e2, h2, h3⟩ := compM_sub xs (acc ++ [x]) S' hf' hS' (by rw [List.length_append, List.length_singleton]; omega)
      refine ⟨x :: ds, S2, ?_, h2, h3.cons₂ x⟩
      unfold compM
      rw [e]
      show (if acc.length < maxLen then compM f xs (acc ++ [x]) S' else none) = _
      rw [if_pos (by rw [maxLen_val]; omega), e2, List.append_assoc]; rfl
end Mi
end

section
set_option linter.all false
set_option maxRecDepth 100000
set_option Elab.async false
set_option maxHeartbeats 2000000
/-! MiP: what is known of a law's module at its head, put together. -/
namespace Mi
open PySem L2 PyProof.Rows L2H LamX

/-- the def of the statement st stands at f under its own name -/
def DefAt (K : PySem.W.Frag) (x : Str) (st : Stmt) (f : Addr) : Prop := PySem.W.nsIn K mainGlobals x = some (some (.ref f)) ∧
  (∃ (oc kV dc pm cd ct : Value) (od an : Option Addr) (sl : Array (Option Value)), K.lookup f = some ⟨oc, od, .func (PySem.W.fnOf x x (defArgs st) (defBody st) (defScope st) .none kV dc pm an cd ct), sl⟩ ∧ PySem.W.codeIn K cd x = true) ∧ PySem.W.keepIn K (.ref f) = true
section
variable {K : PySem.W.Frag} {x : Str} {st : Stmt} {f : Addr}
theorem defAt_mk {oc kV dc pm cd ct : Value} {od an : Option Addr} {sl : Array (Option Value)} (a : PySem.W.nsIn K mainGlobals x = some (some (.ref f)))
    (l : K.lookup f = some ⟨oc, od, .func (PySem.W.fnOf x x (defArgs st) (defBody st) (defScope st) .none kV dc pm an cd ct), sl⟩) (c : PySem.W.codeIn K cd x = true) (k : PySem.W.keepIn K (.ref f) = true) : DefAt K x st f := ⟨a, ⟨oc, kV, dc, pm, cd, ct, od, an, sl, l, c⟩, k⟩
theorem DefAt.fn (D : DefAt K x st f) : ∃ fd, Fun K x x st f fd := by
  obtain ⟨a, ⟨oc, kV, dc, pm, cd, ct, od, an, sl, l, c⟩, k⟩ := D
  exact ⟨_, fun_mk l c k⟩
/-- every parameter is given, by place -/
def ArgsOk (x : Str) (st : Stmt) (ps : List Str) : Prop := ∀ (kV doc pm : Value) (an : Option Addr) (cdv ct : Value) (us : List Value), us.length = ps.length → bindArgs (PySem.W.fnOf x x (defArgs st) (defBody st) (defScope st) .none kV doc pm an cdv ct) ⟨us, []⟩ = pure (ps.zip us)
/-- .. by name -/
def ArgsKw (x : Str) (st : Stmt) (ps ks : List Str) (is : List Nat) : Prop := ∀ (kV doc pm : Value) (an : Option Addr) (cdv ct : Value) (us xs : List Value), us.length = ks.length → permO is us = some xs → bindArgs (PySem.W.fnOf x x (defArgs st) (defBody st) (defScope st) .none kV doc pm an cdv ct) ⟨[], ks.zip us⟩ = pure (ps.zip xs)
/-- a def of the module as Okb wants it -/
def DefOk (K : PySem.W.Frag) (mg : Str → Option Value) (g : Gt) (df : Nat → Option (Nat × CSs)) (x : Str) (i n : Nat) (f : Addr) : Prop := mg x = some (.ref f) ∧ PySem.W.keepIn K (.ref f) = true ∧ ∃ (qual : Str) (st : Stmt) (fd : FuncData) (N ps : List Str) (b : CSs),
  Fun K x qual st f fd ∧ FnScope N ps (defScope st) ∧ ps.length = n ∧ Binds K fd ps [] ∧ df i = some (N.length, b) ∧ ckSs g b ⟨N, (defScope st).names, true⟩ (defBody st) = true
def DefKw (K : PySem.W.Frag) (mg : Str → Option Value) (g : Gt) (df : Nat → Option (Nat × CSs)) (x : Str) (i : Nat) (ks : List Str) (is : List Nat) (f : Addr) : Prop := mg x = some (.ref f) ∧ PySem.W.keepIn K (.ref f) = true ∧ ∃ (qual : Str) (st : Stmt) (fd : FuncData) (N ps : List Str) (b : CSs),
  Fun K x qual st f fd ∧ FnScope N ps (defScope st) ∧ KB K fd ps ks is ∧ df i = some (N.length, b) ∧ ckSs g b ⟨N, (defScope st).names, true⟩ (defBody st) = true
variable {h : Heap} {mg : Str → Option Value} {g : Gt} {df : Nat → Option (Nat × CSs)} {N ps : List Str} {b : CSs} {i n : Nat}
theorem defOk_mk (X : K.In h) (G : h.Ns mainGlobals mg) (D : DefAt K x st f) (sc : FnScope N ps (defScope st)) (hn : ps.length = n) (ha : ArgsOk x st ps) (hd : df i = some (N.length, b)) (hc : ckSs g b ⟨N, (defScope st).names, true⟩ (defBody st) = true) : DefOk K mg g df x i n f := by
  obtain ⟨fd, F⟩ := D.fn
  exact ⟨PySem.W.mg_of X G D.1, D.2.2, x, st, fd, N, ps, b, F, sc, hn, F.binds ha, hd, hc⟩
theorem defKw_mk {ks : List Str} {is : List Nat} (X : K.In h) (G : h.Ns mainGlobals mg) (D : DefAt K x st f) (sc : FnScope N ps (defScope st)) (hl : is.length = ps.length) (ha : ArgsKw x st ps ks is) (hd : df i = some (N.length, b)) (hc : ckSs g b ⟨N, (defScope st).names, true⟩ (defBody st) = true) : DefKw K mg g df x i ks is f := by
  obtain ⟨a, ⟨oc, kV, dc, pm, cd, ct, od, an, sl, l, c⟩, k⟩ := D
  exact ⟨PySem.W.mg_of X G a, k, x, st, _, N, ps, b, fun_mk l c k, sc, ⟨hl, fun s us xs _ h1 h2 => .of_eq (ha kV dc pm an cd ct us xs h1 h2)⟩, hd, hc⟩
end

/-! ### classes of errors with two fields -/
section
variable {P : Program} {w : World} {K : PySem.W.Frag} {mg : Str → Option Value} {base : Heap}
theorem exc_fn {C fI : Addr} {fd : FuncData} {q : Str} {st : Stmt} {f1 f2 sn x1 x2 : Str} {p1 p2 p3 p4 p5 p6 p7 p8 : Pos} (F : Fun K "__init__" q st fI fd) (hb : defBody st = [.Assign [.Attribute (.Name sn p1) f1 p2] (.Name x1 p3) p4, .Assign [.Attribute (.Name sn p5) f2 p6] (.Name x2 p7) p8])
    (Sc : FnScope [sn, x1, x2] [sn, x1, x2] (defScope st)) (hf : f1 ≠ f2) (T : OexC K C) (h1 : PySem.W.findIn K (.ref C) f1 = some none) (h2 : PySem.W.findIn K (.ref C) f2 = some none)
    (d : (sn == ("__debug__" : Str)) = false ∧ (sn == ("__classdict__" : Str)) = false ∧ (x1 == ("__debug__" : Str)) = false ∧ (x1 == ("__classdict__" : Str)) = false ∧ (x2 == ("__debug__" : Str)) = false ∧ (x2 == ("__classdict__" : Str)) = false)
    (v : (defScope st).names.lookup sn = some .local ∧ (defScope st).names.lookup x1 = some .local ∧ (defScope st).names.lookup x2 = some .local) : FnOk P w K mg base (L2.CX P w) 1 fI fd [sn, x1, x2] (sp2 K C f1 f2) := by
  refine F.okX Sc (fun vs H Q E ⟨_, _, _, hv, _⟩ => by rw [hv]; rfl) fun cdv A outer s H vs Q E hr hsp => ?_
  rw [hb]
  obtain ⟨t, h3, h4⟩ := init2 (X := cxOf (L2.CX P w) P w K mg base [sn, x1, x2] q (defScope st) fI cdv A outer s H E) (p1 := p1) (p2 := p2) (p3 := p3) (p4 := p4) (p5 := p5) (p6 := p6) (p7 := p7) (p8 := p8) hf T h1 h2
    (pe_var (i := 0) rfl (.inl v.1) d.1 d.2.1) (pe_var (i := 0) rfl (.inl v.1) d.1 d.2.1) (pe_var (i := 1) rfl (.inl v.2.1) d.2.2.1 d.2.2.2.1) (pe_var (i := 2) rfl (.inl v.2.2) d.2.2.2.2.1 d.2.2.2.2.2) rfl rfl
  refine ⟨t, h3, ?_⟩
  have e : L2.start [sn, x1, x2] vs = vs.map some := by
    obtain ⟨a, v1, v2, hv, _⟩ := hsp
    rw [hv]; rfl
  rw [e]
  exact h4 _ vs H Q E (fun _ _ => rfl) hsp
theorem okg_gl {Γ : Wd} {G : Tab} {g g' : Gt} (h1 : g.fns = g'.fns) (h2 : g.gcs = g'.gcs) (h3 : g.exs = g'.exs) (h4 : g.kws = g'.kws) (h5 : g.cls = g'.cls) (h6 : g'.rp = true → g.rp = true ∧ g.rfns = g'.rfns) (O : Okg P w K mg base Γ G g) : Okg P w K mg base Γ G g' :=
  ⟨O.k2, O.blt, h1 ▸ O.fns, h2 ▸ O.gcs, h3 ▸ O.exs, h4 ▸ O.kws, h5 ▸ O.cls, fun z => (h6 z).2 ▸ O.rfns (h6 z).1⟩
theorem okg_low {Γ : Wd} {g : Gt} {rf : Exc → Sto → Mo D} {k m : Nat} {gc : Nat → Option D} {xf : Nat → List Str} {df : Nat → Option (Nat × CSs)} (O : Okg P w K mg base Γ (tabN rf k gc xf df m) g) (hcl : g.cls = []) : Okg P w K mg base Γ (tabN rf k gc xf df (m + 2)).low g := by
  have e : (tabN rf k gc xf df (m + 2)).low.k = (tabN rf k gc xf df m).k := by
    cases m with
    | zero => rfl
    | succ m => show k + (m + 1 + 1 + 1) - 2 = k + (m + 1); omega
  have ef : (tabN rf k gc xf df (m + 2)).low.f = (tabN rf k gc xf df m).f := rfl
  have eg : (tabN rf k gc xf df (m + 2)).low.gc = (tabN rf k gc xf df m).gc := by cases m <;> rfl
  have ex : (tabN rf k gc xf df (m + 2)).low.xf = (tabN rf k gc xf df m).xf := by cases m <;> rfl
  exact ⟨by rw [e]; exact O.k2, O.blt, by rw [e, ef]; exact O.fns, by rw [eg]; exact O.gcs, by rw [ex]; exact O.exs, by rw [e, ef]; exact O.kws, fun x j z => (by rw [hcl] at z; cases z), by rw [e, ef]; exact O.rfns⟩
end

theorem reps_ints {Γ : Wd} {μ : List Addr} {F : Hp} : ∀ ns : List Int, Reps Γ μ F (ns.map V.int) (ns.map D.int)
  | [] => .nil
  | z :: ns => .cons (.int z) (reps_ints ns)
/-! ### the law's own def -/
theorem lawG_of {l : PySem.W.OpenLaw} {w : World} {K : PySem.W.Frag} {k n : Nat} {x nm said : Str} {mg : Str → Option Value} {fa c P : Addr} {h : Heap} {fd : FuncData} {st : Stmt} {N : List Str} {b : CSs} {e : Value} {dd : Option Addr} {vs : Array Value} {sl : Array (Option Value)} {Γ : Wd} {G : Tab} {gl : Gt}
    (tab : LawTab K fa h) (F : Fun K nm nm st fa fd) (Sc' : FnScope N [x] (defScope st)) (hb : ∀ (s : Shared) (u : Value), BindsTo s fd ⟨[u], []⟩ [(x, u)]) (hcode : fd.code = .ref c) (hc : K.lookup c = some ⟨e, dd, .fields vs, sl⟩) (hv : vs[11]? = some (.ref P)) (hP : K.lookup P = none)
    (hΓ : K = Γ.K) (hta : Γ.ta 0 = P) (htq : nm ++ ".<locals>." ++ "<lambda>" = Γ.tq 0) (hlam : gl.lam = some (said, 0)) (hh : gl.hot = false) (hrp : gl.rp = true) (h4 : 4 ≤ G.k) (hk : k = G.k + 1)
    (hO : ∀ base : Heap, K.In base → base.Ns mainGlobals mg → Okg l.prog w K mg base Γ G gl ∧ Okg l.prog w K mg base Γ G.low gl.low ∧ SaidOk l.prog w K mg base Γ G.rf said)
    (hck : ckSs gl b ⟨N, (defScope st).names, true⟩ (defBody st) = true) (hm : ∀ ns : List Int, ns.length ≤ n → ∃ S', runF G N.length b [.lst (ns.map D.int)] [.tab 0] = some (.ok (.bl true) S')) : LawG l w K k n x mg fa h := by
  obtain ⟨ob, ob1, ob2⟩ : ∃ o, K.lookup fa = some o ∧ o.data = .func fd := by
    obtain ⟨oc, od, kV, doc, pm, an, cdv, ct, osl, rfl, lk, hcd⟩ := F.ex
    exact ⟨_, lk, rfl⟩
  obtain ⟨P', t1, t2, t3⟩ := tab ob fd c ob1 ob2 hcode
  have eP : P' = P := by
    have z := t3 _ _ _ _ hc
    rw [hv] at z
    injection z with z
    injection z with z
    exact z.symm
  subst eP
  have one : ∀ {p : Addr × Addr}, p ∈ [(c, P')] → p = (c, P') := fun hp => List.mem_singleton.mp hp
  refine ⟨fd, [(c, P')], spOf Γ 1 (runF G N.length b), fun p hp => (by rw [one hp]; exact t2), fun p hp => (by rw [one hp]; exact hP), fun p hp => (by rw [one hp]; exact t1), hb, fun H a ns hl _ hH hT hS => ?_, fun base kb nb TB => ?_⟩
  · obtain ⟨S', hr⟩ := hm ns hl
    have hp := hH (c, P') (List.mem_singleton.mpr rfl)
    obtain ⟨F0, f1, f2, f3⟩ : ∃ F0 : Hp, (∀ b o, F0 b = some o → H b = some o) ∧ F0 P' = none ∧ SqL K F0 a (ns.map V.int) := by
      rcases hS with hS | hS
      · have na : a ≠ P' := fun z => by
          subst z
          rcases hS with q | ⟨o, q⟩ <;> (rw [hp] at q; cases q)
        refine ⟨fun b => if b = a then H a else none, fun b o q => ?_, if_neg na.symm, ?_⟩
        · have q : (if b = a then H a else none) = some o := q
          split at q
          · rename_i z; rw [z]; exact q
          · cases q
        · rcases hS with q | ⟨o, q⟩
          · exact .inl (.inl ((if_pos rfl).trans q))
          · exact .inl (.inr ⟨o, (if_pos rfl).trans q⟩)
      · exact ⟨fun _ => none, fun b o q => (nomatch q), rfl, .inr hS⟩
    have sok : Sok Γ [P'] [.tab 0] F0 H := by
      refine ⟨f1, rfl, by simp, fun m a' o h1 h2 => ?_, fun a' ha => ?_, fun a' ps q => ?_⟩
      · cases m with
        | zero =>
          cases h1; cases h2
          exact ⟨hta.symm, #[], hp, True.intro, fun pos cv hc => by
            have z : codeAmong pos [] = some cv := hc
            simp [codeAmong] at z⟩
        | succ m => simp at h1
      · rw [List.mem_singleton.mp ha]; exact f2
      · have := hT a' ps q
        simpa using this
    refine ⟨[P'], [.tab 0], F0, [.lst (ns.map D.int)], sok, .cons (.lst (hΓ ▸ f3) ?_) .nil, rfl, ?_⟩
    · exact reps_ints ns
    · rw [hr]
      intro μ' F' H' v k' rv
      cases rv
      rfl
  · obtain ⟨o1, o2, o3⟩ := hO base kb nb
    have := fn_keeps (n := 1) hh hΓ o1 (fun x' kt hx => by
      rw [hlam] at hx
      injection hx with hx
      cases hx
      exact ⟨h4, o3, o2, htq, fun o q1 q2 => by
        rw [ob1] at q1
        cases q1
        rw [ob2] at q2
        cases q2
        exact ⟨c, hcode, by rw [hta]; exact TB (c, P') (List.mem_singleton.mpr rfl)⟩⟩) F Sc' rfl hck
    rw [hrp] at this
    rw [hk]
    exact this
end Mi
end

section
set_option linter.all false
set_option maxRecDepth 100000
set_option Elab.async false
set_option maxHeartbeats 2000000
/-! MiQ: the def that holds errors, and a class of errors, from what is known at the head. -/
namespace Mi
open PySem L2 PyProof.Rows L2H LamX
theorem fmn {α : Type} {p : α → Prop} : ∀ y ∈ ([] : List α), p y := fun _ h => nomatch h
theorem fmc {α : Type} {p : α → Prop} {x : α} {xs : List α} (h : p x) (t : ∀ y ∈ xs, p y) : ∀ y ∈ x :: xs, p y := List.forall_mem_cons.mpr ⟨h, t⟩
def noDbg (x : Str) : Bool := !(x == ("__debug__" : Str)) && !(x == ("__classdict__" : Str))
theorem noDbg1 {x : Str} (h : noDbg x = true) : (x == ("__debug__" : Str)) = false := by
  unfold noDbg at h; rw [Bool.and_eq_true, Bool.not_eq_true'] at h; exact h.1
theorem noDbg2 {x : Str} (h : noDbg x = true) : (x == ("__classdict__" : Str)) = false := by
  unfold noDbg at h; rw [Bool.and_eq_true, Bool.not_eq_true', Bool.not_eq_true'] at h; exact h.2
section
variable {P : Program} {w : World} {K : PySem.W.Frag} {mg : Str → Option Value} {base h : Heap}
theorem saidOk_mk {Γ : Wd} {x a fnd e er rfn odd pr : Str} {st str : Stmt} {g CS frf : Addr} {Nr : List Str} {br : CSs} {gh : Gt} {Gx : Exc → Tab} {cs : List Nat} (X : K.In h) (G : h.Ns mainGlobals mg) (D : DefAt K x st g)
    (hbody : ∃ (p1 p2 p3 p4 p5 p6 p7 p8 p9 p10 p11 p12 p13 p14 p15 p16 p17 p18 p19 p20 : Pos) (j1 j2 j3 j4 : Nat), defBody st = [.Assign [.Name fnd p1] (.Tuple [.Constant (.str odd) j1 p2] j2 p3) p4,
      .Try [.Assign [.Name fnd p5] (.Tuple [.Constant (.str "told") j3 p6, .Call (.Name a p7) [] [] p8] j4 p9) p10] [.ExceptHandler (some (.Name er p11)) (some e) [.Assign [.Name fnd p12] (.Call (.Name rfn p13) [.Name e p14] [] p15) p16] p17] [] [] p18,
      .Return (some (.Name fnd p19)) p20])
    (Sc' : FnScope [a, fnd, e] [a] (defScope st)) (ha : ArgsOk x st [a]) (v1 : (defScope st).names.lookup a = some .local) (v2 : (defScope st).names.lookup fnd = some .local) (v3 : (defScope st).names.lookup e = some .local) (v4 : (defScope st).names.lookup er = some .globalImplicit) (v5 : (defScope st).names.lookup rfn = some .globalImplicit)
    (hme : PySem.W.nsIn K mainGlobals er = some (some (.ref CS))) (Dr : DefAt K rfn str frf) (Scr : FnScope Nr [pr] (defScope str)) (har : ArgsOk rfn str [pr]) (hcr : ckSs gh br ⟨Nr, (defScope str).names, true⟩ (defBody str) = true) (hh : gh.hot = true) (hrp : gh.rp = false) (hlm : gh.lam = none)
    (hGx : ∀ y, (Gx y).exn = some (y.c, y.fs)) (hA : ∀ (y : Exc) (ad : Addr), y.c ∈ cs → AskOk P w K mg base gh (Γ.atE ad) (Gx y)) (hexm : ∀ c ∈ cs, PySem.W.exmOne K (.ref (Γ.ca c)) (.ref CS) = some true)
    (dbg : ([x, a, fnd, e, er, rfn].all noDbg) = true) : SaidOk P w K mg base Γ (rfOf Gx cs Nr.length br) x := by
  obtain ⟨a0, ⟨oc, kV, dc, pm, cd, ct, od, an, sl, l, c⟩, k⟩ := D
  obtain ⟨fdr, Fr⟩ := Dr.fn
  have FX := ask_keeps (P := P) (w := w) (mg := mg) (base := base) (k := 0) hh hrp hlm Fr Scr rfl hcr
  simp only [List.all_cons, List.all_nil, Bool.and_true, Bool.and_eq_true] at dbg
  obtain ⟨b1, b2, b3, b4, b5, b6⟩ := dbg
  exact ⟨a, fnd, e, er, rfn, odd, defScope st, g, CS, frf, fdr, [pr], _, defArgs st, .none, kV, dc, pm, cd, ct, oc, an, od, sl, defBody st, hbody,
    ⟨PySem.W.mg_of X G a0, k, l, c, (fun_mk l c k).binds ha, Sc'⟩, ⟨Sc'.nd, .inl v1, v2, v3, v4, PySem.W.mg_of X G hme, v5, PySem.W.mg_of X G Dr.1, Dr.2.2, Fr.binds har⟩, FX,
    ⟨noDbg1 b5, noDbg1 b6, noDbg1 b3, noDbg2 b3, noDbg1 b4, noDbg2 b4, noDbg1 b2, noDbg2 b2, noDbg1 b1⟩, fun y S S' d hr => hexm y.c (rf_cls hr), rf_ask hGx hA⟩
/-- a class of errors, its __init__ with two fields -/
theorem excOk_mk {Γ : Wd} {c : Nat} {C fI : Addr} {nm q f1 f2 sn x1 x2 : Str} {st : Stmt} {p1 p2 p3 p4 p5 p6 p7 p8 : Pos} {oc kV dc pm cd ct : Value} {od an : Option Addr} {sl : Array (Option Value)} (hC : Γ.ca c = C) (T : OexC K C)
    (a1 : PySem.W.findIn K (.ref C) "__init__" = some (some (.ref fI))) (t1 : PySem.W.typeIn K (.ref fI) = some (.type "function")) (l1 : K.lookup fI = some ⟨oc, od, .func (PySem.W.fnOf "__init__" q (defArgs st) (defBody st) (defScope st) .none kV dc pm an cd ct), sl⟩) (c1 : PySem.W.codeIn K cd q = true) (k1 : PySem.W.keepIn K (.ref fI) = true)
    (hb : defBody st = [.Assign [.Attribute (.Name sn p1) f1 p2] (.Name x1 p3) p4, .Assign [.Attribute (.Name sn p5) f2 p6] (.Name x2 p7) p8])
    (ha : ∀ (kV doc pm : Value) (an : Option Addr) (cdv ct : Value) (us : List Value), us.length = [sn, x1, x2].length → bindArgs (PySem.W.fnOf "__init__" q (defArgs st) (defBody st) (defScope st) .none kV doc pm an cdv ct) ⟨us, []⟩ = pure ([sn, x1, x2].zip us))
    (Sc' : FnScope [sn, x1, x2] [sn, x1, x2] (defScope st)) (hf : f1 ≠ f2) (h1 : PySem.W.findIn K (.ref C) f1 = some none) (h2 : PySem.W.findIn K (.ref C) f2 = some none) (dbg : ([sn, x1, x2].all noDbg) = true)
    (v : (defScope st).names.lookup sn = some .local ∧ (defScope st).names.lookup x1 = some .local ∧ (defScope st).names.lookup x2 = some .local) : ExcOk P w K mg base Γ 1 c f1 f2 := by
  subst hC
  have F := fun_mk l1 c1 k1
  simp only [List.all_cons, List.all_nil, Bool.and_true, Bool.and_eq_true] at dbg
  obtain ⟨b1, b2, b3⟩ := dbg
  exact ⟨T, fI, _, [sn, x1, x2], a1, t1, exc_fn F hb Sc' hf T h1 h2 ⟨noDbg1 b1, noDbg2 b1, noDbg1 b2, noDbg2 b2, noDbg1 b3, noDbg2 b3⟩ v, F.binds ha⟩
end
end Mi
end

section
set_option linter.all false
set_option maxRecDepth 100000
set_option Elab.async false
/-! MiG: the module's constants: tuples of texts. -/
namespace Mi
open PySem L2 PyProof.Rows
/-- a row of values is a row of texts -/
def txts : List Str → List Value → Bool
  | [], [] => true
  | x :: xs, .str y _ :: us => decide (x = y) && txts xs us
  | _, _ => false
theorem txts_vals : ∀ {xs : List Str} {us : List Value}, txts xs us = true → Vals (xs.map V.str) us
  | [], [], _ => .nil
  | [], _ :: _, h => by cases h
  | _ :: _, [], h => by cases h
  | x :: xs, u :: us, h => by
    cases u with
    | str y t =>
      have h : (decide (x = y) && txts xs us) = true := h
      rw [Bool.and_eq_true, decide_eq_true_eq] at h
      have h' := h.2
      have e := h.1
      subst e
      exact .cons ⟨_, rfl⟩ (txts_vals h')
    | _ => cases h
theorem reps_txts {Γ : Wd} {μ : List Addr} {F : Hp} : ∀ ws : List Str, Reps Γ μ F (ws.map V.str) (ws.map D.str)
  | [] => .nil
  | w :: ws => .cons (.str w) (reps_txts ws)
theorem gq_mk {K : PySem.W.Frag} {x : Str} {a : Addr} {od : Option Addr} {its : Array Value} {n : Nat} {sl : Array (Option Value)} {q : Option D} (ws : List Str) (h1 : PySem.W.nsIn K mainGlobals x = some (some (.ref a))) (h2 : K.lookup a = some ⟨.type "tuple", od, .seq its n, sl⟩)
    (h3 : decide (its.size ≤ 1000) = true) (h4 : txts ws its.toList = true) (hq : q = some (.tup (ws.map D.str))) :
    ∃ u v, PySem.W.nsIn K mainGlobals x = some (some u) ∧ RelV v u ∧ ∀ d, q = some d → ∀ (Γ : Wd) μ F, Γ.K = K → Rep Γ μ F v d := by
  refine ⟨.ref a, .ref a, h1, rfl, fun d hd Γ μ F hK => ?_⟩
  rw [hq] at hd
  cases hd
  refine .tup (xs := ws.map V.str) (.inr ⟨_, its, n, by rw [hK]; exact h2, rfl, rfl, ?_, txts_vals h4⟩) (reps_txts ws)
  rw [sizeLine_eq]
  exact Nat.le_trans (of_decide_eq_true h3) (by decide)
theorem oexC_mk {K : PySem.W.Frag} {C N : Addr} {o : Obj} {nm q : Str} {bs bm : List Value} {sn : List Str} {sub : List Value} {ab : Bool} {col : Option Bool} {dd : Option Addr} {k0 k1 k2 k3 k5 : Option Value} (l : K.lookup C = some o) (e : o = excClassObj nm q C N bs bm true sn sub ab col dd k0 k1 k2 k3 k5 "ValueError.__new__") (r : PySem.HandSPX.refsVE bm = true) (sa : PySem.W.findIn K (.ref C) "__setattr__" = some (some (.builtin "object.__setattr__"))) (eC : PySem.W.subIn K (.ref C) (.type "BaseException") = some true) (tC : PySem.W.typeIn K (.ref C) = some (.type "type")) (kC : PySem.W.keepIn K (.ref C) = true) : OexC K C := by
  subst e
  exact ⟨⟨_, _, _, _, _, _, _, _, _, _, _, _, _, _, _, l, r⟩, sa, eC, tC, kC⟩
theorem hcode_mk {K : PySem.W.Frag} {f c : Addr} {o : Obj} {fd0 : FuncData} (l : K.lookup f = some o) (h : o.data = .func fd0) (hc : fd0.code = .ref c) : ∀ fd, (∃ o, K.lookup f = some o ∧ o.data = .func fd) → fd.code = .ref c := by
  rintro fd ⟨o', l', h'⟩
  rw [l] at l'
  cases l'
  rw [h] at h'
  cases h'
  exact hc
end Mi
end

section
set_option linter.all false
set_option maxRecDepth 100000
set_option Elab.async false
namespace T07
open PySem L2 Mi
def topS (i : Nat) : Stmt := PySem.Challenge.pw_roomsback_k07_whole_freed.main.body.getD i (.Pass ⟨0, 0, 0, 0⟩)
/-- demand -/
def N_0 : List Str := ["holds", "word"]
def b_0 : CSs := (.cons (.ifs (.not (.val (.var 0))) (.cons (.raise 6 (.cons (.var 1) (.cons (.neg (.cst (.int 1))) .nil))) .nil) .nil) .nil)
-- top 10 arity 2
/-- is_ascending -/
def N_1 : List Str := ["things", "k"]
def b_1 : CSs := (.cons (.ret (.blt .all (.comp (.cmp .lt (.idx (.var 0) (.var 1)) (.idx (.var 0) (.bin .add (.var 1) (.cst (.int 1))))) (.nm 1) (.rng (.bin .sub (.blt .len (.var 0)) (.cst (.int 1)))) .nil))) .nil)
-- top 14 arity 1
/-- is_need -/
def N_2 : List Str := ["thing"]
def b_2 : CSs := (.cons (.ret (.bool true (.cons (.isa (.var 0) .str) (.cons (.cmp .inn (.var 0) (.gc 0)) .nil)))) .nil)
-- top 15 arity 1
/-- is_moment -/
def N_3 : List Str := ["thing"]
def b_3 : CSs := (.cons (.ret (.bool true (.cons (.isa (.var 0) .str) (.cons (.cmp .inn (.var 0) (.gc 1)) .nil)))) .nil)
-- top 16 arity 1
/-- is_needs -/
def N_4 : List Str := ["thing", "need"]
def b_4 : CSs := (.cons (.ifs (.not (.val (.isa (.var 0) .tuple))) (.cons (.ret (.cst (.bl false))) .nil) .nil) (.cons (.ret (.bool true (.cons (.blt .all (.comp (.call 2 (.cons (.var 1) .nil)) (.nm 1) (.ex (.var 0)) .nil)) (.cons (.call 1 (.cons (.var 0) .nil)) .nil)))) .nil))
-- top 17 arity 1
/-- is_moments -/
def N_5 : List Str := ["thing", "moment"]
def b_5 : CSs := (.cons (.ifs (.not (.val (.isa (.var 0) .tuple))) (.cons (.ret (.cst (.bl false))) .nil) .nil) (.cons (.ret (.bool true (.cons (.blt .all (.comp (.call 3 (.cons (.var 1) .nil)) (.nm 1) (.ex (.var 0)) .nil)) (.cons (.call 1 (.cons (.var 0) .nil)) .nil)))) .nil))
-- top 18 arity 1
/-- is_clause -/
def N_6 : List Str := ["thing"]
def b_6 : CSs := (.cons (.ifs (.bool false (.cons (.not (.val (.isa (.var 0) .tuple))) (.cons (.val (.cmp .ne (.blt .len (.var 0)) (.cst (.int 2)))) .nil))) (.cons (.ret (.cst (.bl false))) .nil) .nil) (.cons (.ret (.bool true (.cons (.call 3 (.cons (.idx (.var 0) (.cst (.int 0))) .nil)) (.cons (.call 4 (.cons (.idx (.var 0) (.cst (.int 1))) .nil)) .nil)))) .nil))
-- top 19 arity 1
/-- is_rule -/
def N_7 : List Str := ["thing", "clause"]
def b_7 : CSs := (.cons (.ifs (.not (.val (.isa (.var 0) .tuple))) (.cons (.ret (.cst (.bl false))) .nil) .nil) (.cons (.ret (.bool true (.cons (.blt .all (.comp (.call 6 (.cons (.var 1) .nil)) (.nm 1) (.ex (.var 0)) .nil)) (.cons (.call 1 (.cons (.var 0) .nil)) .nil)))) .nil))
-- top 20 arity 1
/-- fires -/
def N_8 : List Str := ["rule", "moments", "needs", "moment", "tests", "need"]
def b_8 : CSs := (.cons (.for1 (.tp [3, 4]) (.ex (.var 0)) (.cons (.ifs (.bool true (.cons (.val (.cmp .inn (.var 3) (.var 1))) (.cons (.not (.val (.blt .any (.comp (.cmp .inn (.var 5) (.var 2)) (.nm 5) (.ex (.var 4)) .nil)))) .nil))) (.cons (.ret (.cst (.bl true))) .nil) .nil) .nil)) (.cons (.ret (.cst (.bl false))) .nil))
-- top 22 arity 3
/-- is_freed -/
def N_9 : List Str := ["rule", "moments", "needs"]
def b_9 : CSs := (.cons (.expr (.call 0 (.cons (.call 7 (.cons (.var 0) .nil)) (.cons (.cst (.str "rule")) .nil)))) (.cons (.expr (.call 0 (.cons (.call 5 (.cons (.var 1) .nil)) (.cons (.cst (.str "moments")) .nil)))) (.cons (.expr (.call 0 (.cons (.call 4 (.cons (.var 2) .nil)) (.cons (.cst (.str "needs")) .nil)))) (.cons (.ret (.call 8 (.cons (.var 0) (.cons (.var 1) (.cons (.var 2) .nil))))) .nil))))
-- top 23 arity 3
/-- _law_feed -/
def N_10 : List Str := ["_law_script", "_law_cell"]
def b_10 : CSs := (.cons (.ret (.dct ["cells", "spot", "left", "turns"] (.cons (.comp (.blt .int (.var 1)) (.nm 1) (.ex (.slc (.var 0) .no (.so (.cst (.int 63))))) .nil) (.cons (.cst (.int 0)) (.cons (.cst (.int 0)) (.cons (.cst (.int 0)) .nil)))))) .nil)
-- top 25 arity 1
/-- _law_draw -/
def N_11 : List Str := ["_law_feed_here", "_law_bound", "_law_cell", "_law_mixed", "_law_digit", "_law_cells", "_law_spot"]
def b_11 : CSs := (.cons (.dput (.var 0) "turns" (.bin .add (.dget (.var 0) "turns") (.cst (.int 1)))) (.cons (.ifs (.val (.cmp .gt (.dget (.var 0) "left") (.cst (.int 0)))) (.cons (.asg 4 (.bin .mod (.blt .int (.dget (.var 0) "left")) (.var 1))) (.cons (.dput (.var 0) "left" (.bin .fdiv (.dget (.var 0) "left") (.var 1))) (.cons (.ret (.var 4)) .nil))) .nil) (.cons (.unp (.tp [5, 6]) (.tup (.cons (.dget (.var 0) "cells") (.cons (.dget (.var 0) "spot") .nil)))) (.cons (.dput (.var 0) "spot" (.bin .add (.var 6) (.cst (.int 1)))) (.cons (.asg 2 (.ite (.val (.cmp .ne (.var 5) (.lst .nil))) (.idx (.var 5) (.bin .mod (.blt .int (.var 6)) (.blt .len (.var 5)))) (.cst (.int 98007)))) (.cons (.ifs (.bool true (.cons (.val (.cmp .ge (.var 2) (.bin .pow (.cst (.int 10)) (.cst (.int 18))))) (.cons (.val (.cmp .lt (.var 6) (.blt .len (.var 5)))) .nil))) (.cons (.dput (.var 0) "left" (.bin .fdiv (.var 2) (.var 1))) (.cons (.ret (.bin .mod (.blt .int (.var 2)) (.var 1))) .nil)) .nil) (.cons (.asg 3 (.bin .mod (.blt .int (.bin .add (.bin .add (.bin .mul (.bin .mod (.blt .int (.var 2)) (.cst (.int 1000000409))) (.cst (.int 2311))) (.bin .mul (.cst (.int 92821)) (.dget (.var 0) "turns"))) (.cst (.int 48)))) (.cst (.int 2147483629)))) (.cons (.asg 3 (.bin .mod (.blt .int (.bin .add (.bin .add (.bin .mul (.var 3) (.var 3)) (.bin .mul (.cst (.int 6311)) (.dget (.var 0) "turns"))) (.cst (.int 89)))) (.cst (.int 2147483587)))) (.cons (.ret (.bin .mod (.blt .int (.bin .fdiv (.bin .mod (.blt .int (.bin .add (.bin .mul (.var 3) (.var 3)) (.bin .mul (.cst (.int 389)) (.var 3)))) (.cst (.int 2147483563))) (.cst (.int 64)))) (.var 1))) .nil)))))))))
-- top 26 arity 2
/-- _law_pick -/
def N_12 : List Str := ["_law_feed_here", "_law_some"]
def b_12 : CSs := (.cons (.ret (.idx (.var 1) (.call 11 (.cons (.var 0) (.cons (.blt .len (.var 1)) .nil))))) .nil)
-- top 27 arity 2
/-- _law_needs -/
def N_13 : List Str := ["_law_feed_here", "_law_need_now"]
def b_13 : CSs := (.cons (.ret (.blt .tuple (.comp (.var 1) (.nm 1) (.ex (.lst (.cons (.cst (.str "maker")) (.cons (.cst (.str "name")) (.cons (.cst (.str "picture")) (.cons (.cst (.str "reader")) .nil)))))) (.cons (.val (.cmp .eq (.call 11 (.cons (.var 0) (.cons (.cst (.int 2)) .nil))) (.cst (.int 0)))) .nil)))) .nil)
-- top 28 arity 1
/-- _law_pair -/
def N_14 : List Str := ["_law_feed_here"]
def b_14 : CSs := (.cons (.ret (.tup (.cons (.call 12 (.cons (.var 0) (.cons (.lst (.cons (.cst (.str "gone")) (.cons (.cst (.str "left")) (.cons (.cst (.str "made")) (.cons (.cst (.str "read")) (.cons (.cst (.str "right")) (.cons (.cst (.str "turned")) .nil))))))) .nil))) (.cons (.call 13 (.cons (.var 0) .nil)) .nil)))) .nil)
-- top 29 arity 1
/-- _law_plan -/
def N_15 : List Str := ["_law_feed_here", "_law_cap", "_law_lap"]
def b_15 : CSs := (.cons (.ret (.blt .tuple (.sset (.comp (.call 14 (.cons (.var 0) .nil)) (.nm 2) (.rng (.call 11 (.cons (.var 0) (.cons (.bin .add (.var 1) (.cst (.int 1))) .nil)))) .nil)))) .nil)
-- top 30 arity 2
/-- _law_is_number -/
def N_16 : List Str := ["_law_item"]
def b_16 : CSs := (.cons (.ret (.bool true (.cons (.isa (.var 0) .int) (.cons (.not (.isa (.var 0) .bool)) (.cons (.cmp .ge (.var 0) (.cst (.int 0))) .nil))))) .nil)
-- top 31 arity 1
/-- _law_is_name -/
def N_17 : List Str := ["_law_item", "_law_sign"]
def b_17 : CSs := (.cons (.ifs (.bool false (.cons (.not (.val (.isa (.var 0) .str))) (.cons (.not (.val (.cmp2 .le .le (.cst (.int 1)) (.blt .len (.var 0)) (.cst (.int 8))))) .nil))) (.cons (.ret (.cst (.bl false))) .nil) .nil) (.cons (.ret (.cmp .eq (.comp (.var 1) (.nm 1) (.ex (.var 0)) (.cons (.val (.cmp .nin (.var 1) (.cst (.str "abcdefghijklmnopqrstuvwxyz")))) .nil)) (.lst .nil))) .nil))
-- top 32 arity 1
/-- _law_is_needs -/
def N_18 : List Str := ["_law_item", "_law_known", "_law_one"]
def b_18 : CSs := (.cons (.ifs (.bool false (.cons (.not (.val (.isa (.var 0) .tuple))) (.cons (.val (.cmp .ne (.comp (.var 2) (.nm 2) (.ex (.var 0)) (.cons (.not (.val (.isa (.var 2) .str))) .nil)) (.lst .nil))) .nil))) (.cons (.ret (.cst (.bl false))) .nil) .nil) (.cons (.asg 1 (.lst (.cons (.cst (.str "maker")) (.cons (.cst (.str "name")) (.cons (.cst (.str "picture")) (.cons (.cst (.str "reader")) .nil)))))) (.cons (.ret (.cmp .eq (.comp (.var 2) (.nm 2) (.ex (.var 1)) (.cons (.val (.cmp .inn (.var 2) (.var 0))) .nil)) (.blt .list (.var 0)))) .nil)))
-- top 33 arity 1
/-- _law_is_moment -/
def N_19 : List Str := ["_law_item"]
def b_19 : CSs := (.cons (.ret (.bool true (.cons (.isa (.var 0) .str) (.cons (.cmp .inn (.var 0) (.lst (.cons (.cst (.str "gone")) (.cons (.cst (.str "left")) (.cons (.cst (.str "made")) (.cons (.cst (.str "read")) (.cons (.cst (.str "right")) (.cons (.cst (.str "turned")) .nil)))))))) .nil)))) .nil)
-- top 34 arity 1
/-- _law_is_pair -/
def N_20 : List Str := ["_law_item"]
def b_20 : CSs := (.cons (.ret (.bool true (.cons (.isa (.var 0) .tuple) (.cons (.cmp .eq (.blt .len (.var 0)) (.cst (.int 2))) (.cons (.call 19 (.cons (.idx (.var 0) (.cst (.int 0))) .nil)) (.cons (.call 18 (.cons (.idx (.var 0) (.cst (.int 1))) .nil)) .nil)))))) .nil)
-- top 35 arity 1
/-- _law_is_plan -/
def N_21 : List Str := ["_law_item", "_law_one"]
def b_21 : CSs := (.cons (.ifs (.bool false (.cons (.not (.val (.isa (.var 0) .tuple))) (.cons (.val (.cmp .ne (.comp (.var 1) (.nm 1) (.ex (.var 0)) (.cons (.not (.val (.call 20 (.cons (.var 1) .nil)))) .nil)) (.lst .nil))) .nil))) (.cons (.ret (.cst (.bl false))) .nil) .nil) (.cons (.ret (.cmp .eq (.blt .list (.var 0)) (.sset (.var 0)))) .nil))
-- top 36 arity 1
/-- _law_strange -/
def N_22 : List Str := ["_law_feed_here", "_law_some"]
def b_22 : CSs := (.cons (.asgO 1 (.lst (.cons (.cst .non) (.cons (.cst (.bl true)) (.cons (.cst (.bl false)) (.cons (.neg (.cst (.int 1))) (.cons (.cst (.int 0)) (.cons (.cst (.int 1)) (.cons (.cst (.int 7)) (.cons (.bin .pow (.cst (.int 10)) (.cst (.int 59))) (.cons (.cst (.str "")) (.cons (.cst (.str "a")) (.cons (.cst (.str "abcdefgh")) (.cons (.cst (.str "abcdefghi")) (.cons (.cst (.str "A")) (.cons (.cst (.str "a b")) (.cons (.cst (.str "name")) (.cons (.cst (.str "left")) .nil)))))))))))))))))) (.cons (.ext 1 (.lst (.cons (.tup .nil) (.cons (.lst .nil) (.cons (.tup (.cons (.cst (.str "name")) .nil)) (.cons (.lst (.cons (.cst (.str "name")) .nil)) (.cons (.tup (.cons (.cst (.str "reader")) (.cons (.cst (.str "name")) .nil))) (.cons (.tup (.cons (.cst (.str "name")) (.cons (.cst (.str "name")) .nil))) (.cons (.tup (.cons (.cst (.str "name")) (.cons (.cst (.str "left")) .nil))) (.cons (.tup (.cons (.cst (.str "left")) (.cons (.tup .nil) .nil))) .nil)))))))))) (.cons (.ext 1 (.lst (.cons (.tup (.cons (.cst (.str "left")) (.cons (.lst .nil) .nil))) (.cons (.lst (.cons (.cst (.str "left")) (.cons (.tup .nil) .nil))) (.cons (.tup (.cons (.cst (.str "left")) .nil)) (.cons (.tup (.cons (.cst (.str "left")) (.cons (.tup .nil) (.cons (.tup .nil) .nil)))) (.cons (.tup (.cons (.cst (.str "Left")) (.cons (.tup .nil) .nil))) (.cons (.tup (.cons (.cst (.str "name")) (.cons (.tup .nil) .nil))) (.cons (.cst (.str "reader")) .nil))))))))) (.cons (.ext 1 (.lst (.cons (.tup (.cons (.cst (.str "left")) (.cons (.tup (.cons (.cst (.str "reader")) (.cons (.cst (.str "name")) .nil))) .nil))) (.cons (.tup (.cons (.tup (.cons (.cst (.str "left")) (.cons (.tup .nil) .nil))) .nil)) (.cons (.tup (.cons (.tup (.cons (.cst (.str "left")) (.cons (.tup .nil) .nil))) (.cons (.tup (.cons (.cst (.str "gone")) (.cons (.tup .nil) .nil))) .nil))) (.cons (.lst (.cons (.tup (.cons (.cst (.str "left")) (.cons (.tup .nil) .nil))) .nil)) .nil)))))) (.cons (.ext 1 (.lst (.cons (.tup (.cons (.cst (.str "guess")) .nil)) (.cons (.tup (.cons (.cst (.str "guess")) (.cons (.cst (.int 1)) .nil))) (.cons (.tup (.cons (.cst (.str "make")) (.cons (.cst (.str "a")) .nil))) (.cons (.tup (.cons (.cst (.str "make")) (.cons (.cst (.str "a")) (.cons (.tup .nil) .nil)))) (.cons (.tup (.cons (.cst (.str "make")) (.cons (.cst (.str "a")) (.cons (.tup (.cons (.cst (.str "b")) (.cons (.cst (.str "a")) .nil))) .nil)))) (.cons (.cst (.str "turned")) .nil)))))))) (.cons (.ext 1 (.lst (.cons (.tup (.cons (.cst (.str "make")) (.cons (.cst (.str "a")) (.cons (.lst (.cons (.cst (.str "a")) .nil)) .nil)))) (.cons (.tup (.cons (.cst (.str "same")) (.cons (.cst (.str "a")) (.cons (.cst (.str "b")) .nil)))) (.cons (.tup (.cons (.cst (.str "same")) (.cons (.cst (.str "a")) (.cons (.cst (.str "a")) .nil)))) (.cons (.tup (.cons (.cst (.str "same")) (.cons (.cst (.str "a")) (.cons (.tup (.cons (.cst (.str "b")) .nil)) .nil)))) (.cons (.tup (.cons (.cst (.str "left")) (.cons (.cst (.str "name")) .nil))) .nil))))))) (.cons (.ext 1 (.lst (.cons (.tup (.cons (.cst (.str "make")) (.cons (.cst (.str "A")) (.cons (.tup .nil) .nil)))) (.cons (.tup (.cons (.tup (.cons (.cst (.str "a")) .nil)) (.cons (.cst (.int 1)) (.cons (.cst (.int 0)) (.cons (.cst (.bl false)) .nil))))) (.cons (.tup (.cons (.tup (.cons (.cst (.str "a")) .nil)) (.cons (.cst (.int 0)) (.cons (.cst (.int 0)) (.cons (.cst (.bl false)) .nil))))) (.cons (.tup (.cons (.tup (.cons (.cst (.str "a")) .nil)) (.cons (.cst (.int 1)) (.cons (.neg (.cst (.int 1))) (.cons (.cst (.bl true)) .nil))))) .nil)))))) (.cons (.ext 1 (.lst (.cons (.tup (.cons (.tup (.cons (.cst (.str "a")) .nil)) (.cons (.cst (.int 1)) (.cons (.cst (.int 0)) (.cons (.cst (.int 0)) .nil))))) (.cons (.tup (.cons (.tup .nil) (.cons (.cst (.int 1)) (.cons (.cst (.int 0)) (.cons (.cst (.bl true)) .nil))))) (.cons (.tup (.cons (.lst (.cons (.cst (.str "a")) .nil)) (.cons (.cst (.int 1)) (.cons (.cst (.int 0)) (.cons (.cst (.bl true)) .nil))))) (.cons (.tup (.cons (.tup (.cons (.cst (.str "b")) (.cons (.cst (.str "a")) .nil))) (.cons (.cst (.int 1)) (.cons (.cst (.int 0)) (.cons (.cst (.bl true)) .nil))))) .nil)))))) (.cons (.ext 1 (.lst (.cons (.tup (.cons (.tup (.cons (.cst (.str "a")) .nil)) (.cons (.cst (.bl true)) (.cons (.cst (.int 0)) (.cons (.cst (.bl true)) .nil))))) (.cons (.tup (.cons (.tup (.cons (.cst (.str "a")) .nil)) (.cons (.cst (.int 1)) (.cons (.cst (.int 0)) .nil)))) (.cons (.tup (.cons (.cst (.str "turned")) (.cons (.tup (.cons (.cst (.str "maker")) .nil)) .nil))) .nil))))) (.cons (.frz 1) (.cons (.ret (.call 12 (.cons (.var 0) (.cons (.var 1) .nil)))) .nil)))))))))))
-- top 37 arity 1
/-- _law_bent -/
def N_23 : List Str := ["_law_feed_here", "_law_item", "_law_k", "_law_lot", "_law_strange_here"]
def b_23 : CSs := (.cons (.ifs (.bool true (.cons (.val (.isa (.var 1) .tuple)) (.cons (.val (.cmp .gt (.blt .len (.var 1)) (.cst (.int 0)))) (.cons (.val (.cmp .gt (.call 11 (.cons (.var 0) (.cons (.cst (.int 5)) .nil))) (.cst (.int 0)))) .nil)))) (.cons (.asg 2 (.call 11 (.cons (.var 0) (.cons (.blt .len (.var 1)) .nil)))) (.cons (.ret (.bin .add (.bin .add (.slc (.var 1) .no (.so (.var 2))) (.tup (.cons (.call 23 (.cons (.var 0) (.cons (.idx (.var 1) (.var 2)) .nil))) .nil))) (.slc (.var 1) (.so (.bin .add (.var 2) (.cst (.int 1)))) .no))) .nil)) .nil) (.cons (.unp (.tp [3, 4]) (.tup (.cons (.call 11 (.cons (.var 0) (.cons (.cst (.int 7)) .nil))) (.cons (.call 22 (.cons (.var 0) .nil)) .nil)))) (.cons (.ifs (.bool true (.cons (.val (.isa (.var 1) .tuple)) (.cons (.val (.cmp .lt (.var 3) (.cst (.int 6)))) .nil))) (.cons (.asg 2 (.call 11 (.cons (.var 0) (.cons (.bin .add (.blt .len (.var 1)) (.cst (.int 1))) .nil)))) (.cons (.ifs (.val (.cmp .eq (.var 3) (.cst (.int 0)))) (.cons (.ret (.blt .list (.var 1))) .nil) .nil) (.cons (.ifs (.val (.cmp .eq (.var 3) (.cst (.int 1)))) (.cons (.ret (.bin .add (.slc (.var 1) .no (.so (.var 2))) (.slc (.var 1) (.so (.bin .add (.var 2) (.cst (.int 1)))) .no))) .nil) .nil) (.cons (.ifs (.val (.cmp .eq (.var 3) (.cst (.int 2)))) (.cons (.ret (.bin .add (.bin .add (.slc (.var 1) .no (.so (.var 2))) (.slc (.var 1) (.so (.var 2)) (.so (.bin .add (.var 2) (.cst (.int 1)))))) (.slc (.var 1) (.so (.var 2)) .no))) .nil) .nil) (.cons (.ret (.ite (.val (.cmp .lt (.var 3) (.cst (.int 5)))) (.bin .add (.bin .add (.slc (.var 1) .no (.so (.var 2))) (.tup (.cons (.var 4) .nil))) (.slc (.var 1) (.so (.var 2)) .no)) (.rev (.var 1)))) .nil))))) .nil) (.cons (.ifs (.bool true (.cons (.val (.isa (.var 1) .str)) (.cons (.val (.cmp .lt (.var 3) (.cst (.int 3)))) .nil))) (.cons (.asg 2 (.call 11 (.cons (.var 0) (.cons (.bin .add (.blt .len (.var 1)) (.cst (.int 1))) .nil)))) (.cons (.ret (.bin .add (.bin .add (.slc (.var 1) .no (.so (.var 2))) (.call 12 (.cons (.var 0) (.cons (.lst (.cons (.cst (.str "a")) (.cons (.cst (.str "A")) (.cons (.cst (.str "")) (.cons (.cst (.str " ")) (.cons (.cst (.str "z")) (.cons (.cst (.str "0")) .nil))))))) .nil)))) (.slc (.var 1) (.so (.bin .add (.var 2) (.blt .int (.cmp .gt (.var 3) (.cst (.int 1)))))) .no))) .nil)) .nil) (.cons (.ifs (.bool true (.cons (.val (.isa (.var 1) .str)) (.cons (.val (.cmp .lt (.var 3) (.cst (.int 6)))) .nil))) (.cons (.ret (.call 12 (.cons (.var 0) (.cons (.lst (.cons (.cst (.str "gone")) (.cons (.cst (.str "read")) (.cons (.cst (.str "turned")) (.cons (.cst (.str "maker")) (.cons (.cst (.str "picture")) (.cons (.cst (.str "made")) .nil))))))) .nil)))) .nil) .nil) (.cons (.ifs (.bool true (.cons (.val (.call 16 (.cons (.var 1) .nil))) (.cons (.val (.cmp .lt (.var 3) (.cst (.int 5)))) .nil))) (.cons (.ret (.idx (.lst (.cons (.bin .add (.var 1) (.cst (.int 1))) (.cons (.bin .sub (.var 1) (.cst (.int 1))) (.cons (.neg (.var 1)) (.cons (.cmp .eq (.var 1) (.cst (.int 1))) (.cons (.blt .str (.var 1)) .nil)))))) (.var 3))) .nil) .nil) (.cons (.ret (.var 4)) .nil)))))))
-- top 38 arity 2
/-- _law_refusal -/
def N_24 : List Str := ["_law_e", "_law_families"]
def b_24 : CSs := (.cons (.asgO 1 (.lst (.cons (.isaC (.var 0) 1) (.cons (.isaC (.var 0) 2) (.cons (.isaC (.var 0) 3) .nil))))) (.cons (.app 1 (.isaC (.var 0) 4)) (.cons (.ifs (.bool false (.cons (.val (.cmp .ne (.cnt 1 (.cst (.bl true))) (.cst (.int 1)))) (.cons (.not (.val (.isaC (.var 0) 900))) .nil))) (.cons (.ret (.tup (.cons (.cst (.str "odd")) .nil))) .nil) .nil) (.cons (.ifs (.bool true (.cons (.val (.isaC (.var 0) 6)) (.cons (.val (.idx (.pk 1) (.cst (.int 1)))) .nil))) (.cons (.ret (.tup (.cons (.cst (.str "NotUsable")) (.cons (.fld (.var 0) "word") (.cons (.fld (.var 0) "at") .nil))))) .nil) .nil) (.cons (.ifs (.bool true (.cons (.val (.isaC (.var 0) 5)) (.cons (.val (.idx (.pk 1) (.cst (.int 0)))) .nil))) (.cons (.ret (.tup (.cons (.cst (.str "InvalidPaper")) (.cons (.fld (.var 0) "word") (.cons (.fld (.var 0) "at") .nil))))) .nil) .nil) (.cons (.ret (.ite (.bool true (.cons (.val (.isaC (.var 0) 7)) (.cons (.val (.idx (.pk 1) (.cst (.int 3)))) .nil))) (.tup (.cons (.cst (.str "InvalidText")) (.cons (.fld (.var 0) "line") (.cons (.fld (.var 0) "column") .nil)))) (.tup (.cons (.cst (.str "odd")) .nil)))) .nil))))))
-- top 39 arity 1
/-- _law_no -/
def N_26 : List Str := ["_law_word_now"]
def b_26 : CSs := (.cons (.ret (.tup (.cons (.cst (.str "NotUsable")) (.cons (.var 0) (.cons (.neg (.cst (.int 1))) .nil))))) .nil)
-- top 41 arity 1
/-- _law_frees -/
def N_27 : List Str := ["_law_plan_here", "_law_moments_now", "_law_needs_now", "_law_part", "_law_some", "_law_one"]
def b_27 : CSs := (.cons (.for1 (.tp [3, 4]) (.ex (.var 0)) (.cons (.ifs (.bool true (.cons (.val (.cmp .inn (.var 3) (.var 1))) (.cons (.val (.cmp .eq (.comp (.var 5) (.nm 5) (.ex (.var 4)) (.cons (.val (.cmp .inn (.var 5) (.var 2))) .nil)) (.lst .nil))) .nil))) (.cons (.ret (.cst (.bl true))) .nil) .nil) .nil)) (.cons (.ret (.cst (.bl false))) .nil))
-- top 42 arity 3
/-- _law_parts -/
def N_28 : List Str := ["_law_feed_here", "_law_some", "_law_part"]
def b_28 : CSs := (.cons (.asg 1 (.lst (.cons (.cst (.str "gone")) (.cons (.cst (.str "left")) (.cons (.cst (.str "made")) (.cons (.cst (.str "read")) (.cons (.cst (.str "right")) (.cons (.cst (.str "turned")) .nil)))))))) (.cons (.ret (.blt .tuple (.comp (.var 2) (.nm 2) (.ex (.var 1)) (.cons (.val (.cmp .eq (.call 11 (.cons (.var 0) (.cons (.cst (.int 3)) .nil))) (.cst (.int 0)))) .nil)))) .nil))
-- top 43 arity 1
/-- _law_all_needs -/
def N_29 : List Str := ["_law_found", "_law_one", "_law_some"]
def b_29 : CSs := (.cons (.asg 0 (.lst (.cons (.tup .nil) .nil))) (.cons (.for1 (.nm 1) (.ex (.lst (.cons (.cst (.str "maker")) (.cons (.cst (.str "name")) (.cons (.cst (.str "picture")) (.cons (.cst (.str "reader")) .nil)))))) (.cons (.asg 0 (.bin .add (.var 0) (.comp (.bin .add (.var 2) (.tup (.cons (.var 1) .nil))) (.nm 2) (.ex (.var 0)) .nil))) .nil)) (.cons (.ret (.var 0)) .nil)))
-- top 44 arity 0
/-- _law_is_right -/
def N_30 : List Str := ["_law_plan_here", "_law_moments_now", "_law_dues", "_law_some", "_law_due_here", "_law_late", "_law_late_due", "_law_one"]
def b_30 : CSs := (.cons (.asg 2 (.comp (.tup (.cons (.var 3) (.cons (.call 27 (.cons (.var 0) (.cons (.var 1) (.cons (.var 3) .nil)))) .nil))) (.nm 3) (.ex (.call 29 .nil)) .nil)) (.cons (.for1 (.tp [3, 4]) (.ex (.var 2)) (.cons (.ifs (.val (.cmp .ne (.blt .repr (.call 9 (.cons (.var 0) (.cons (.var 1) (.cons (.var 3) .nil))))) (.blt .repr (.var 4)))) (.cons (.ret (.cst (.bl false))) .nil) .nil) .nil)) (.cons (.for1 (.tp [3, 4]) (.ex (.var 2)) (.cons (.for1 (.tp [5, 6]) (.ex (.var 2)) (.cons (.ifs (.bool true (.cons (.val (.var 4)) (.cons (.not (.val (.var 6))) (.cons (.val (.cmp .eq (.comp (.var 7) (.nm 7) (.ex (.var 5)) (.cons (.val (.cmp .nin (.var 7) (.var 3))) .nil)) (.lst .nil))) .nil)))) (.cons (.ret (.cst (.bl false))) .nil) .nil) .nil)) .nil)) (.cons (.ret (.cst (.bl true))) .nil))))
-- top 45 arity 2
/-- _law_is_parts -/
def N_31 : List Str := ["_law_item", "_law_one"]
def b_31 : CSs := (.cons (.ifs (.bool false (.cons (.not (.val (.isa (.var 0) .tuple))) (.cons (.val (.cmp .ne (.comp (.var 1) (.nm 1) (.ex (.var 0)) (.cons (.not (.val (.call 19 (.cons (.var 1) .nil)))) .nil)) (.lst .nil))) .nil))) (.cons (.ret (.cst (.bl false))) .nil) .nil) (.cons (.ret (.cmp .eq (.blt .list (.var 0)) (.sset (.var 0)))) .nil))
-- top 46 arity 1
/-- _law_due -/
def N_32 : List Str := ["_law_plan_here", "_law_moments_now", "_law_needs_now"]
def b_32 : CSs := (.cons (.ifs (.not (.val (.call 21 (.cons (.var 0) .nil)))) (.cons (.ret (.call 26 (.cons (.cst (.str "rule")) .nil))) .nil) .nil) (.cons (.ifs (.not (.val (.call 31 (.cons (.var 1) .nil)))) (.cons (.ret (.call 26 (.cons (.cst (.str "moments")) .nil))) .nil) .nil) (.cons (.ret (.ite (.val (.call 18 (.cons (.var 2) .nil))) (.tup (.cons (.cst (.str "told")) (.cons (.call 27 (.cons (.var 0) (.cons (.var 1) (.cons (.var 2) .nil)))) .nil))) (.call 26 (.cons (.cst (.str "needs")) .nil)))) .nil)))
-- top 47 arity 3
/-- law -/
def N_33 : List Str := ["_law_script", "_law_feed_here", "_law_every", "_law_lap", "_law_turn", "_law_plan_here", "_law_some", "_law_values", "_law_k", "_law_told", "_law_part", "_law_bents"]
def b_33 : CSs := (.cons (.asg 1 (.call 10 (.cons (.var 0) .nil))) (.cons (.asg 2 (.blt .tuple (.comp (.tup (.cons (.var 10) (.cons (.tup .nil) .nil))) (.nm 10) (.ex (.lst (.cons (.cst (.str "gone")) (.cons (.cst (.str "left")) (.cons (.cst (.str "made")) (.cons (.cst (.str "read")) (.cons (.cst (.str "right")) (.cons (.cst (.str "turned")) .nil)))))))) .nil))) (.cons (.for1 (.nm 3) (.rng (.cst (.int 2))) (.cons (.unp (.tp [5, 6]) (.tup (.cons (.call 12 (.cons (.var 1) (.cons (.lst (.cons (.call 15 (.cons (.var 1) (.cons (.cst (.int 6)) .nil))) (.cons (.call 15 (.cons (.var 1) (.cons (.cst (.int 2)) .nil))) (.cons (.tup .nil) (.cons (.var 2) .nil))))) .nil))) (.cons (.call 28 (.cons (.var 1) .nil)) .nil)))) (.cons (.ifs (.bool false (.cons (.not (.val (.call 30 (.cons (.var 5) (.cons (.var 6) .nil))))) (.cons (.not (.val (.call 30 (.cons (.call 15 (.cons (.var 1) (.cons (.cst (.int 4)) .nil))) (.cons (.call 28 (.cons (.var 1) .nil)) .nil))))) .nil))) (.cons (.ret (.cst (.bl false))) .nil) .nil) (.cons (.for1 (.nm 4) (.rng (.cst (.int 8))) (.cons (.asgO 7 (.lst (.cons (.var 5) (.cons (.call 28 (.cons (.var 1) .nil)) (.cons (.call 13 (.cons (.var 1) .nil)) .nil))))) (.cons (.for1 (.nm 8) (.rng (.cst (.int 3))) (.cons (.ifs (.val (.cmp .eq (.call 11 (.cons (.var 1) (.cons (.cst (.int 3)) .nil))) (.cst (.int 0)))) (.cons (.asg 11 (.lst (.cons (.call 23 (.cons (.var 1) (.cons (.idx (.pk 7) (.var 8)) .nil))) (.cons (.call 22 (.cons (.var 1) .nil)) (.cons (.bin .add (.var 6) (.var 6)) (.cons (.rev (.var 6)) .nil)))))) (.cons (.seti 7 (.var 8) (.call 12 (.cons (.var 1) (.cons (.var 11) .nil)))) .nil)) .nil) .nil)) (.cons (.asg 9 (.said 0 (.call 9 (.cons (.idx (.pk 7) (.cst (.int 0))) (.cons (.idx (.pk 7) (.cst (.int 1))) (.cons (.idx (.pk 7) (.cst (.int 2))) .nil)))))) (.cons (.ifs (.val (.cmp .ne (.blt .repr (.var 9)) (.blt .repr (.call 32 (.cons (.idx (.pk 7) (.cst (.int 0))) (.cons (.idx (.pk 7) (.cst (.int 1))) (.cons (.idx (.pk 7) (.cst (.int 2))) .nil))))))) (.cons (.ret (.cst (.bl false))) .nil) .nil) (.cons (.frz 7) .nil)))))) .nil)))) (.cons (.ret (.isB true (.callK 9 ["needs", "moments", "rule"] [2, 1, 0] (.cons (.tup (.cons (.cst (.str "maker")) .nil)) (.cons (.tup (.cons (.cst (.str "gone")) .nil)) (.cons (.tup (.cons (.tup (.cons (.cst (.str "gone")) (.cons (.tup (.cons (.cst (.str "name")) .nil)) .nil))) .nil)) .nil)))))) .nil))))
-- top 48 arity 1

def gt : Gt := { rp := false, hot := false, fns := [("demand", 0, 2), ("is_ascending", 1, 1), ("is_need", 2, 1), ("is_moment", 3, 1), ("is_needs", 4, 1), ("is_moments", 5, 1), ("is_clause", 6, 1), ("is_rule", 7, 1), ("fires", 8, 3), ("is_freed", 9, 3), ("_law_feed", 10, 1), ("_law_draw", 11, 2), ("_law_pick", 12, 2), ("_law_needs", 13, 1), ("_law_pair", 14, 1), ("_law_plan", 15, 2), ("_law_is_number", 16, 1), ("_law_is_needs", 18, 1), ("_law_is_moment", 19, 1), ("_law_is_pair", 20, 1), ("_law_is_plan", 21, 1), ("_law_strange", 22, 1), ("_law_bent", 23, 2), ("_law_no", 26, 1), ("_law_frees", 27, 3), ("_law_parts", 28, 1), ("_law_all_needs", 29, 0), ("_law_is_parts", 31, 1), ("_law_due", 32, 3)], gcs := [("NEEDS", 0), ("MOMENTS", 1)], exs := [("NotUsable", 6, "word", "at")], kws := [("is_freed", 9, ["needs", "moments", "rule"], [2, 1, 0])] }
def gr : Gt := { rp := true, hot := false, fns := [("demand", 0, 2), ("is_ascending", 1, 1), ("is_need", 2, 1), ("is_moment", 3, 1), ("is_needs", 4, 1), ("is_moments", 5, 1), ("is_clause", 6, 1), ("is_rule", 7, 1), ("fires", 8, 3), ("is_freed", 9, 3), ("_law_feed", 10, 1), ("_law_draw", 11, 2), ("_law_pick", 12, 2), ("_law_needs", 13, 1), ("_law_pair", 14, 1), ("_law_plan", 15, 2), ("_law_is_number", 16, 1), ("_law_is_needs", 18, 1), ("_law_is_moment", 19, 1), ("_law_is_pair", 20, 1), ("_law_is_plan", 21, 1), ("_law_strange", 22, 1), ("_law_bent", 23, 2), ("_law_no", 26, 1), ("_law_frees", 27, 3), ("_law_parts", 28, 1), ("_law_all_needs", 29, 0), ("_law_is_parts", 31, 1), ("_law_due", 32, 3)], gcs := [("NEEDS", 0), ("MOMENTS", 1)], exs := [("NotUsable", 6, "word", "at")], kws := [("is_freed", 9, ["needs", "moments", "rule"], [2, 1, 0])], rfns := [("_law_is_right", 30, 2)] }
def gl : Gt := { rp := true, hot := false, fns := [("demand", 0, 2), ("is_ascending", 1, 1), ("is_need", 2, 1), ("is_moment", 3, 1), ("is_needs", 4, 1), ("is_moments", 5, 1), ("is_clause", 6, 1), ("is_rule", 7, 1), ("fires", 8, 3), ("is_freed", 9, 3), ("_law_feed", 10, 1), ("_law_draw", 11, 2), ("_law_pick", 12, 2), ("_law_needs", 13, 1), ("_law_pair", 14, 1), ("_law_plan", 15, 2), ("_law_is_number", 16, 1), ("_law_is_needs", 18, 1), ("_law_is_moment", 19, 1), ("_law_is_pair", 20, 1), ("_law_is_plan", 21, 1), ("_law_strange", 22, 1), ("_law_bent", 23, 2), ("_law_no", 26, 1), ("_law_frees", 27, 3), ("_law_parts", 28, 1), ("_law_all_needs", 29, 0), ("_law_is_parts", 31, 1), ("_law_due", 32, 3)], gcs := [("NEEDS", 0), ("MOMENTS", 1)], exs := [("NotUsable", 6, "word", "at")], kws := [("is_freed", 9, ["needs", "moments", "rule"], [2, 1, 0])], rfns := [("_law_is_right", 30, 2)], lam := some ("_law_said", 0) }
def gh : Gt := { rp := false, hot := true, fns := [], gcs := [], exs := [], kws := [], cls := [("RoomError", 0), ("PaperError", 1), ("UseError", 2), ("BenchError", 3), ("TextError", 4), ("InvalidPaper", 5), ("NotUsable", 6), ("InvalidText", 7), ("ValueError", 900)], flds := ["word", "at", "line", "column"] }
theorem c_0 : ckSs gt b_0 ⟨N_0, (defScope (topS 10)).names, true⟩ (defBody (topS 10)) = true := by decide +kernel
theorem c_1 : ckSs gt b_1 ⟨N_1, (defScope (topS 14)).names, true⟩ (defBody (topS 14)) = true := by decide +kernel
theorem c_2 : ckSs gt b_2 ⟨N_2, (defScope (topS 15)).names, true⟩ (defBody (topS 15)) = true := by decide +kernel
theorem c_3 : ckSs gt b_3 ⟨N_3, (defScope (topS 16)).names, true⟩ (defBody (topS 16)) = true := by decide +kernel
theorem c_4 : ckSs gt b_4 ⟨N_4, (defScope (topS 17)).names, true⟩ (defBody (topS 17)) = true := by decide +kernel
theorem c_5 : ckSs gt b_5 ⟨N_5, (defScope (topS 18)).names, true⟩ (defBody (topS 18)) = true := by decide +kernel
theorem c_6 : ckSs gt b_6 ⟨N_6, (defScope (topS 19)).names, true⟩ (defBody (topS 19)) = true := by decide +kernel
theorem c_7 : ckSs gt b_7 ⟨N_7, (defScope (topS 20)).names, true⟩ (defBody (topS 20)) = true := by decide +kernel
theorem c_8 : ckSs gt b_8 ⟨N_8, (defScope (topS 22)).names, true⟩ (defBody (topS 22)) = true := by decide +kernel
theorem c_9 : ckSs gt b_9 ⟨N_9, (defScope (topS 23)).names, true⟩ (defBody (topS 23)) = true := by decide +kernel
theorem c_10 : ckSs gt b_10 ⟨N_10, (defScope (topS 25)).names, true⟩ (defBody (topS 25)) = true := by decide +kernel
theorem c_11 : ckSs gt b_11 ⟨N_11, (defScope (topS 26)).names, true⟩ (defBody (topS 26)) = true := by decide +kernel
theorem c_12 : ckSs gt b_12 ⟨N_12, (defScope (topS 27)).names, true⟩ (defBody (topS 27)) = true := by decide +kernel
theorem c_13 : ckSs gt b_13 ⟨N_13, (defScope (topS 28)).names, true⟩ (defBody (topS 28)) = true := by decide +kernel
theorem c_14 : ckSs gt b_14 ⟨N_14, (defScope (topS 29)).names, true⟩ (defBody (topS 29)) = true := by decide +kernel
theorem c_15 : ckSs gt b_15 ⟨N_15, (defScope (topS 30)).names, true⟩ (defBody (topS 30)) = true := by decide +kernel
theorem c_16 : ckSs gt b_16 ⟨N_16, (defScope (topS 31)).names, true⟩ (defBody (topS 31)) = true := by decide +kernel
theorem c_18 : ckSs gt b_18 ⟨N_18, (defScope (topS 33)).names, true⟩ (defBody (topS 33)) = true := by decide +kernel
theorem c_19 : ckSs gt b_19 ⟨N_19, (defScope (topS 34)).names, true⟩ (defBody (topS 34)) = true := by decide +kernel
theorem c_20 : ckSs gt b_20 ⟨N_20, (defScope (topS 35)).names, true⟩ (defBody (topS 35)) = true := by decide +kernel
theorem c_21 : ckSs gt b_21 ⟨N_21, (defScope (topS 36)).names, true⟩ (defBody (topS 36)) = true := by decide +kernel
theorem c_22 : ckSs gt b_22 ⟨N_22, (defScope (topS 37)).names, true⟩ (defBody (topS 37)) = true := by decide +kernel
theorem c_23 : ckSs gt b_23 ⟨N_23, (defScope (topS 38)).names, true⟩ (defBody (topS 38)) = true := by decide +kernel
theorem c_24 : ckSs gh b_24 ⟨N_24, (defScope (topS 39)).names, true⟩ (defBody (topS 39)) = true := by decide +kernel
theorem c_26 : ckSs gt b_26 ⟨N_26, (defScope (topS 41)).names, true⟩ (defBody (topS 41)) = true := by decide +kernel
theorem c_27 : ckSs gt b_27 ⟨N_27, (defScope (topS 42)).names, true⟩ (defBody (topS 42)) = true := by decide +kernel
theorem c_28 : ckSs gt b_28 ⟨N_28, (defScope (topS 43)).names, true⟩ (defBody (topS 43)) = true := by decide +kernel
theorem c_29 : ckSs gt b_29 ⟨N_29, (defScope (topS 44)).names, true⟩ (defBody (topS 44)) = true := by decide +kernel
theorem c_30 : ckSs gr b_30 ⟨N_30, (defScope (topS 45)).names, true⟩ (defBody (topS 45)) = true := by decide +kernel
theorem c_31 : ckSs gt b_31 ⟨N_31, (defScope (topS 46)).names, true⟩ (defBody (topS 46)) = true := by decide +kernel
theorem c_32 : ckSs gt b_32 ⟨N_32, (defScope (topS 47)).names, true⟩ (defBody (topS 47)) = true := by decide +kernel
theorem c_33 : ckSs gl b_33 ⟨N_33, (defScope (topS 48)).names, true⟩ (defBody (topS 48)) = true := by decide +kernel
end T07
end

section
set_option linter.all false
set_option maxRecDepth 100000
set_option Elab.async false
set_option maxHeartbeats 8000000
/-! what is known of the module of roomsback_k07_whole_freed -/
namespace T07
open PySem L2 Mi
theorem sc_0 : FnScope N_0 ["holds", "word"] (defScope (topS 10)) := ⟨rfl, rfl, rfl, by decide +kernel, rfl, by decide +kernel, by decide +kernel⟩
theorem ar_0 : ArgsOk "demand" (topS 10) ["holds", "word"] := fun _ _ _ _ _ _ us hl => match us, hl with | [_, _], _ => rfl
theorem sc_1 : FnScope N_1 ["things"] (defScope (topS 14)) := ⟨rfl, rfl, rfl, by decide +kernel, rfl, by decide +kernel, by decide +kernel⟩
theorem ar_1 : ArgsOk "is_ascending" (topS 14) ["things"] := fun _ _ _ _ _ _ us hl => match us, hl with | [_], _ => rfl
theorem sc_2 : FnScope N_2 ["thing"] (defScope (topS 15)) := ⟨rfl, rfl, rfl, by decide +kernel, rfl, by decide +kernel, by decide +kernel⟩
theorem ar_2 : ArgsOk "is_need" (topS 15) ["thing"] := fun _ _ _ _ _ _ us hl => match us, hl with | [_], _ => rfl
theorem sc_3 : FnScope N_3 ["thing"] (defScope (topS 16)) := ⟨rfl, rfl, rfl, by decide +kernel, rfl, by decide +kernel, by decide +kernel⟩
theorem ar_3 : ArgsOk "is_moment" (topS 16) ["thing"] := fun _ _ _ _ _ _ us hl => match us, hl with | [_], _ => rfl
theorem sc_4 : FnScope N_4 ["thing"] (defScope (topS 17)) := ⟨rfl, rfl, rfl, by decide +kernel, rfl, by decide +kernel, by decide +kernel⟩
theorem ar_4 : ArgsOk "is_needs" (topS 17) ["thing"] := fun _ _ _ _ _ _ us hl => match us, hl with | [_], _ => rfl
theorem sc_5 : FnScope N_5 ["thing"] (defScope (topS 18)) := ⟨rfl, rfl, rfl, by decide +kernel, rfl, by decide +kernel, by decide +kernel⟩
theorem ar_5 : ArgsOk "is_moments" (topS 18) ["thing"] := fun _ _ _ _ _ _ us hl => match us, hl with | [_], _ => rfl
theorem sc_6 : FnScope N_6 ["thing"] (defScope (topS 19)) := ⟨rfl, rfl, rfl, by decide +kernel, rfl, by decide +kernel, by decide +kernel⟩
theorem ar_6 : ArgsOk "is_clause" (topS 19) ["thing"] := fun _ _ _ _ _ _ us hl => match us, hl with | [_], _ => rfl
theorem sc_7 : FnScope N_7 ["thing"] (defScope (topS 20)) := ⟨rfl, rfl, rfl, by decide +kernel, rfl, by decide +kernel, by decide +kernel⟩
theorem ar_7 : ArgsOk "is_rule" (topS 20) ["thing"] := fun _ _ _ _ _ _ us hl => match us, hl with | [_], _ => rfl
theorem sc_8 : FnScope N_8 ["rule", "moments", "needs"] (defScope (topS 22)) := ⟨rfl, rfl, rfl, by decide +kernel, rfl, by decide +kernel, by decide +kernel⟩
theorem ar_8 : ArgsOk "fires" (topS 22) ["rule", "moments", "needs"] := fun _ _ _ _ _ _ us hl => match us, hl with | [_, _, _], _ => rfl
theorem sc_9 : FnScope N_9 ["rule", "moments", "needs"] (defScope (topS 23)) := ⟨rfl, rfl, rfl, by decide +kernel, rfl, by decide +kernel, by decide +kernel⟩
theorem ar_9 : ArgsOk "is_freed" (topS 23) ["rule", "moments", "needs"] := fun _ _ _ _ _ _ us hl => match us, hl with | [_, _, _], _ => rfl
theorem sc_10 : FnScope N_10 ["_law_script"] (defScope (topS 25)) := ⟨rfl, rfl, rfl, by decide +kernel, rfl, by decide +kernel, by decide +kernel⟩
theorem ar_10 : ArgsOk "_law_feed" (topS 25) ["_law_script"] := fun _ _ _ _ _ _ us hl => match us, hl with | [_], _ => rfl
theorem sc_11 : FnScope N_11 ["_law_feed_here", "_law_bound"] (defScope (topS 26)) := ⟨rfl, rfl, rfl, by decide +kernel, rfl, by decide +kernel, by decide +kernel⟩
theorem ar_11 : ArgsOk "_law_draw" (topS 26) ["_law_feed_here", "_law_bound"] := fun _ _ _ _ _ _ us hl => match us, hl with | [_, _], _ => rfl
theorem sc_12 : FnScope N_12 ["_law_feed_here", "_law_some"] (defScope (topS 27)) := ⟨rfl, rfl, rfl, by decide +kernel, rfl, by decide +kernel, by decide +kernel⟩
theorem ar_12 : ArgsOk "_law_pick" (topS 27) ["_law_feed_here", "_law_some"] := fun _ _ _ _ _ _ us hl => match us, hl with | [_, _], _ => rfl
theorem sc_13 : FnScope N_13 ["_law_feed_here"] (defScope (topS 28)) := ⟨rfl, rfl, rfl, by decide +kernel, rfl, by decide +kernel, by decide +kernel⟩
theorem ar_13 : ArgsOk "_law_needs" (topS 28) ["_law_feed_here"] := fun _ _ _ _ _ _ us hl => match us, hl with | [_], _ => rfl
theorem sc_14 : FnScope N_14 ["_law_feed_here"] (defScope (topS 29)) := ⟨rfl, rfl, rfl, by decide +kernel, rfl, by decide +kernel, by decide +kernel⟩
theorem ar_14 : ArgsOk "_law_pair" (topS 29) ["_law_feed_here"] := fun _ _ _ _ _ _ us hl => match us, hl with | [_], _ => rfl
theorem sc_15 : FnScope N_15 ["_law_feed_here", "_law_cap"] (defScope (topS 30)) := ⟨rfl, rfl, rfl, by decide +kernel, rfl, by decide +kernel, by decide +kernel⟩
theorem ar_15 : ArgsOk "_law_plan" (topS 30) ["_law_feed_here", "_law_cap"] := fun _ _ _ _ _ _ us hl => match us, hl with | [_, _], _ => rfl
theorem sc_16 : FnScope N_16 ["_law_item"] (defScope (topS 31)) := ⟨rfl, rfl, rfl, by decide +kernel, rfl, by decide +kernel, by decide +kernel⟩
theorem ar_16 : ArgsOk "_law_is_number" (topS 31) ["_law_item"] := fun _ _ _ _ _ _ us hl => match us, hl with | [_], _ => rfl
theorem sc_18 : FnScope N_18 ["_law_item"] (defScope (topS 33)) := ⟨rfl, rfl, rfl, by decide +kernel, rfl, by decide +kernel, by decide +kernel⟩
theorem ar_18 : ArgsOk "_law_is_needs" (topS 33) ["_law_item"] := fun _ _ _ _ _ _ us hl => match us, hl with | [_], _ => rfl
theorem sc_19 : FnScope N_19 ["_law_item"] (defScope (topS 34)) := ⟨rfl, rfl, rfl, by decide +kernel, rfl, by decide +kernel, by decide +kernel⟩
theorem ar_19 : ArgsOk "_law_is_moment" (topS 34) ["_law_item"] := fun _ _ _ _ _ _ us hl => match us, hl with | [_], _ => rfl
theorem sc_20 : FnScope N_20 ["_law_item"] (defScope (topS 35)) := ⟨rfl, rfl, rfl, by decide +kernel, rfl, by decide +kernel, by decide +kernel⟩
theorem ar_20 : ArgsOk "_law_is_pair" (topS 35) ["_law_item"] := fun _ _ _ _ _ _ us hl => match us, hl with | [_], _ => rfl
theorem sc_21 : FnScope N_21 ["_law_item"] (defScope (topS 36)) := ⟨rfl, rfl, rfl, by decide +kernel, rfl, by decide +kernel, by decide +kernel⟩
theorem ar_21 : ArgsOk "_law_is_plan" (topS 36) ["_law_item"] := fun _ _ _ _ _ _ us hl => match us, hl with | [_], _ => rfl
theorem sc_22 : FnScope N_22 ["_law_feed_here"] (defScope (topS 37)) := ⟨rfl, rfl, rfl, by decide +kernel, rfl, by decide +kernel, by decide +kernel⟩
theorem ar_22 : ArgsOk "_law_strange" (topS 37) ["_law_feed_here"] := fun _ _ _ _ _ _ us hl => match us, hl with | [_], _ => rfl
theorem sc_23 : FnScope N_23 ["_law_feed_here", "_law_item"] (defScope (topS 38)) := ⟨rfl, rfl, rfl, by decide +kernel, rfl, by decide +kernel, by decide +kernel⟩
theorem ar_23 : ArgsOk "_law_bent" (topS 38) ["_law_feed_here", "_law_item"] := fun _ _ _ _ _ _ us hl => match us, hl with | [_, _], _ => rfl
theorem sc_24 : FnScope N_24 ["_law_e"] (defScope (topS 39)) := ⟨rfl, rfl, rfl, by decide +kernel, rfl, by decide +kernel, by decide +kernel⟩
theorem ar_24 : ArgsOk "_law_refusal" (topS 39) ["_law_e"] := fun _ _ _ _ _ _ us hl => match us, hl with | [_], _ => rfl
theorem sc_25 : FnScope ["_law_ask", "_law_found", "_law_e"] ["_law_ask"] (defScope (topS 40)) := ⟨rfl, rfl, rfl, by decide +kernel, rfl, by decide +kernel, by decide +kernel⟩
theorem ar_25 : ArgsOk "_law_said" (topS 40) ["_law_ask"] := fun _ _ _ _ _ _ us hl => match us, hl with | [_], _ => rfl
theorem sc_26 : FnScope N_26 ["_law_word_now"] (defScope (topS 41)) := ⟨rfl, rfl, rfl, by decide +kernel, rfl, by decide +kernel, by decide +kernel⟩
theorem ar_26 : ArgsOk "_law_no" (topS 41) ["_law_word_now"] := fun _ _ _ _ _ _ us hl => match us, hl with | [_], _ => rfl
theorem sc_27 : FnScope N_27 ["_law_plan_here", "_law_moments_now", "_law_needs_now"] (defScope (topS 42)) := ⟨rfl, rfl, rfl, by decide +kernel, rfl, by decide +kernel, by decide +kernel⟩
theorem ar_27 : ArgsOk "_law_frees" (topS 42) ["_law_plan_here", "_law_moments_now", "_law_needs_now"] := fun _ _ _ _ _ _ us hl => match us, hl with | [_, _, _], _ => rfl
theorem sc_28 : FnScope N_28 ["_law_feed_here"] (defScope (topS 43)) := ⟨rfl, rfl, rfl, by decide +kernel, rfl, by decide +kernel, by decide +kernel⟩
theorem ar_28 : ArgsOk "_law_parts" (topS 43) ["_law_feed_here"] := fun _ _ _ _ _ _ us hl => match us, hl with | [_], _ => rfl
theorem sc_29 : FnScope N_29 [] (defScope (topS 44)) := ⟨rfl, rfl, rfl, by decide +kernel, rfl, by decide +kernel, by decide +kernel⟩
theorem ar_29 : ArgsOk "_law_all_needs" (topS 44) [] := fun _ _ _ _ _ _ us hl => match us, hl with | [], _ => rfl
theorem sc_30 : FnScope N_30 ["_law_plan_here", "_law_moments_now"] (defScope (topS 45)) := ⟨rfl, rfl, rfl, by decide +kernel, rfl, by decide +kernel, by decide +kernel⟩
theorem ar_30 : ArgsOk "_law_is_right" (topS 45) ["_law_plan_here", "_law_moments_now"] := fun _ _ _ _ _ _ us hl => match us, hl with | [_, _], _ => rfl
theorem sc_31 : FnScope N_31 ["_law_item"] (defScope (topS 46)) := ⟨rfl, rfl, rfl, by decide +kernel, rfl, by decide +kernel, by decide +kernel⟩
theorem ar_31 : ArgsOk "_law_is_parts" (topS 46) ["_law_item"] := fun _ _ _ _ _ _ us hl => match us, hl with | [_], _ => rfl
theorem sc_32 : FnScope N_32 ["_law_plan_here", "_law_moments_now", "_law_needs_now"] (defScope (topS 47)) := ⟨rfl, rfl, rfl, by decide +kernel, rfl, by decide +kernel, by decide +kernel⟩
theorem ar_32 : ArgsOk "_law_due" (topS 47) ["_law_plan_here", "_law_moments_now", "_law_needs_now"] := fun _ _ _ _ _ _ us hl => match us, hl with | [_, _, _], _ => rfl
theorem sc_33 : FnScope N_33 ["_law_script"] (defScope (topS 48)) := ⟨rfl, rfl, rfl, by decide +kernel, rfl, by decide +kernel, by decide +kernel⟩
theorem ar_33 : ArgsOk "law" (topS 48) ["_law_script"] := fun _ _ _ _ _ _ us hl => match us, hl with | [_], _ => rfl
theorem kw_0 : ArgsKw "is_freed" (topS 23) ["rule", "moments", "needs"] ["needs", "moments", "rule"] [2, 1, 0] := fun _ _ _ _ _ _ us xs hl hp => match us, hl, hp with | [u0, u1, u2], _, hp => by cases hp; rfl
def G0 (K : PySem.W.Frag) (fl cl : List Addr) (P : Addr) : Wd := { K := K, fa := fun i => fl.getD i 0, ca := fun i => cl.getD i 0, ta := fun _ => P, tq := fun _ => "law.<locals>.<lambda>" }
def gcv : Nat → Option D
  | 0 => some (.tup [.str "maker", .str "name", .str "picture", .str "reader"])
  | 1 => some (.tup [.str "gone", .str "left", .str "made", .str "read", .str "right", .str "turned"])
  | _ => none
def xfv : Nat → List Str
  | 6 => ["word", "at"]
  | _ => []
def dfv : Nat → Option (Nat × CSs)
  | 0 => some (N_0.length, b_0)
  | 1 => some (N_1.length, b_1)
  | 2 => some (N_2.length, b_2)
  | 3 => some (N_3.length, b_3)
  | 4 => some (N_4.length, b_4)
  | 5 => some (N_5.length, b_5)
  | 6 => some (N_6.length, b_6)
  | 7 => some (N_7.length, b_7)
  | 8 => some (N_8.length, b_8)
  | 9 => some (N_9.length, b_9)
  | 10 => some (N_10.length, b_10)
  | 11 => some (N_11.length, b_11)
  | 12 => some (N_12.length, b_12)
  | 13 => some (N_13.length, b_13)
  | 14 => some (N_14.length, b_14)
  | 15 => some (N_15.length, b_15)
  | 16 => some (N_16.length, b_16)
  | 18 => some (N_18.length, b_18)
  | 19 => some (N_19.length, b_19)
  | 20 => some (N_20.length, b_20)
  | 21 => some (N_21.length, b_21)
  | 22 => some (N_22.length, b_22)
  | 23 => some (N_23.length, b_23)
  | 26 => some (N_26.length, b_26)
  | 27 => some (N_27.length, b_27)
  | 28 => some (N_28.length, b_28)
  | 29 => some (N_29.length, b_29)
  | 30 => some (N_30.length, b_30)
  | 31 => some (N_31.length, b_31)
  | 32 => some (N_32.length, b_32)
  | _ => none
def iscv : Nat → Nat → Option Bool
  | 6, 0 => some true
  | 6, 1 => some false
  | 6, 2 => some true
  | 6, 3 => some false
  | 6, 4 => some false
  | 6, 5 => some false
  | 6, 6 => some true
  | 6, 7 => some false
  | 6, 900 => some true
  | _, _ => none
def Gx (y : Exc) : Tab := { exn := some (y.c, y.fs), isc := iscv, k := 2, f := fun _ _ _ => none, gc := fun _ => none, xf := fun _ => [] }
def rfv : Exc → Sto → Mo D := rfOf Gx [6] N_24.length b_24
abbrev Tb (n : Nat) : Tab := tabN rfv 2 gcv xfv dfv n
end T07
namespace T07
open PySem L2 Mi
theorem isc_at {K : PySem.W.Frag} {cl : Nat → Addr} {cv : Value} {j : Nat} (h6 : PySem.W.kitOne K (.ref (cl 6)) cv = iscv 6 j) (c : Nat) (b : Bool) (hb : iscv c j = some b) : PySem.W.kitOne K (.ref (cl c)) cv = some b := by
  by_cases e : c = 6
  · subst e; rw [h6]; exact hb
  · exfalso; unfold iscv at hb; split at hb <;> first | (exact e rfl) | (cases hb)
end T07
end

section
set_option linter.all false
set_option maxRecDepth 100000
set_option Elab.async false
set_option maxHeartbeats 4000000
namespace T07
open PySem L2 Mi
/-! ### the feed -/
def feedS (c : List Int) (s l t : Int) : Sto := [.tab 0, .dct [("cells", .lst (c.map .int)), ("spot", .int s), ("left", .int l), ("turns", .int t)]]
def FS (S : Sto) : Prop := ∃ c s l t, S = feedS c s l t ∧ 0 ≤ s ∧ 0 ≤ l
section
variable {c : List Int} {s l t x : Int}
theorem g_cells : getD (feedS c s l t) "cells" (.loc 1) = some (.lst (c.map .int)) := by kernel_rfl
theorem g_spot : getD (feedS c s l t) "spot" (.loc 1) = some (.int s) := by kernel_rfl
theorem g_left : getD (feedS c s l t) "left" (.loc 1) = some (.int l) := by kernel_rfl
theorem g_turns : getD (feedS c s l t) "turns" (.loc 1) = some (.int t) := by kernel_rfl
theorem p_spot : putD (feedS c s l t) "spot" (.int x) (.loc 1) = some (feedS c x l t) := by kernel_rfl
theorem p_left : putD (feedS c s l t) "left" (.int x) (.loc 1) = some (feedS c s x t) := by kernel_rfl
theorem p_turns : putD (feedS c s l t) "turns" (.int x) (.loc 1) = some (feedS c s l x) := by kernel_rfl
theorem isTab_feed : isTab (feedS c s l t) 0 = true := rfl
end
theorem toPys_ints : ∀ c : List Int, D.toPys (c.map .int) = some (c.map PyData.int)
  | [] => rfl
  | x :: c => by
    have ih := toPys_ints c
    rw [List.map_cons, List.map_cons]
    unfold D.toPys
    rw [ih]; rfl
theorem canLay_ints : ∀ c : List Int, PyData.canLayAll0 (c.map PyData.int) = true
  | [] => rfl
  | x :: c => by
    have ih := canLay_ints c
    rw [List.map_cons]
    unfold PyData.canLayAll0
    rw [ih]; rfl
theorem depth_ints : ∀ c : List Int, PyData.depthAll (c.map PyData.int) = 0
  | [] => rfl
  | x :: c => by
    have ih := depth_ints c
    rw [List.map_cons]
    unfold PyData.depthAll
    rw [ih]; rfl
theorem ne_nil (c : List Int) : cop .ne (.lst (c.map .int)) (.lst []) = some (!c.isEmpty) := by
  have e : eqD (.lst (c.map .int)) (.lst []) = some c.isEmpty := by
    unfold eqD
    show (match (none : Option Bool) with | some b => some b | none => _) = _
    have h1 : D.toPy (.lst (c.map .int)) = some (.list (c.map PyData.int)) := by unfold D.toPy; rw [toPys_ints]; rfl
    have h2 : D.toPy (.lst []) = some (.list []) := rfl
    simp only [h1, h2]
    unfold eqPy
    rw [if_pos ⟨(by show PyData.canLayAll0 _ = true; exact canLay_ints c), rfl, (by show min _ 1 ≤ 64; omega)⟩]
    cases c <;> rfl
  show (eqD _ _).map _ = _
  rw [e]; rfl
/-- the digit and the state behind a draw -/
def FSn (S : Sto) : Prop := ∃ c s l t, S = feedS c s l t ∧ 0 ≤ s ∧ 0 ≤ l
set_option maxHeartbeats 8000000 in
theorem draw_ok (n : Nat) {S : Sto} (h : FS S) {b : Int} (hb : 0 < b) (hb2 : b < 1073741824) : ∃ r S', (Tb (n + 1)).f 11 [.loc 1, .int b] S = some (.ok (.int r) S') ∧ FS S' ∧ 0 ≤ r ∧ r < b := by
  obtain ⟨c, s, l, t, rfl, hs, hl⟩ := h
  rw [tab_f (p := (7, b_11)) rfl, runF_eq]
  unfold b_11
  have fin : ∀ z : Int, 0 ≤ z % b ∧ z % b < b := fun z => ⟨Int.emod_nonneg _ (by omega), Int.emod_lt_of_pos _ hb⟩
  by_cases hl0 : 0 < l
  · simp [evSs, evS, evE, evEs, evT, bop_mod_i hb, bop_fdiv_i hb hb2, g_left, g_turns, p_turns, p_left, hl0]
    exact ⟨_, _, ⟨rfl, rfl⟩, ⟨c, s, l / b, t + 1, rfl, hs, Int.ediv_nonneg hl (Int.le_of_lt hb)⟩, fin _⟩
  · have rest : ∀ (l' : Int), 0 ≤ l' → FS (feedS c (s + 1) l' (t + 1)) := fun l' h' => ⟨c, s + 1, l', t + 1, rfl, by omega, h'⟩
    have m1 : ∀ z : Int, -(2 ^ 64) < z % 1000000409 ∧ z % 1000000409 < 2 ^ 64 := fun z => by omega
    have m2 : ∀ z : Int, -(2 ^ 64) < z % 2147483629 ∧ z % 2147483629 < 2 ^ 64 := fun z => by omega
    have m3 : ∀ z : Int, -(2 ^ 64) < z % 2147483587 ∧ z % 2147483587 < 2 ^ 64 := fun z => by omega
    have ms : ∀ z w : Int, (-(2 ^ 64) < w ∧ w < 2 ^ 64) → bop .mul (.int z) (.int w) = some (.int (z * w)) := fun z w h => bop_mul_r h
    have k1 : ∀ z : Int, bop .mod (.int z) (.int 1000000409) = some (.int (z % 1000000409)) := fun z => bop_mod_i (by decide)
    have k2 : ∀ z : Int, bop .mod (.int z) (.int 2147483629) = some (.int (z % 2147483629)) := fun z => bop_mod_i (by decide)
    have k3 : ∀ z : Int, bop .mod (.int z) (.int 2147483587) = some (.int (z % 2147483587)) := fun z => bop_mod_i (by decide)
    have k4 : ∀ z : Int, bop .mod (.int z) (.int 2147483563) = some (.int (z % 2147483563)) := fun z => bop_mod_i (by decide)
    have k5 : ∀ z : Int, bop .fdiv (.int z) (.int 64) = some (.int (z / 64)) := fun z => bop_fdiv_i (by decide) (by decide)
    have q1 : ∀ z : Int, bop .mul (.int z) (.int 2311) = some (.int (z * 2311)) := fun z => bop_mul_r (by decide)
    have q2 : ∀ z : Int, bop .mul (.int 92821) (.int z) = some (.int (92821 * z)) := fun z => bop_mul_l (by decide)
    have q3 : ∀ z : Int, bop .mul (.int 6311) (.int z) = some (.int (6311 * z)) := fun z => bop_mul_l (by decide)
    have q4 : ∀ z : Int, bop .mul (.int 389) (.int z) = some (.int (389 * z)) := fun z => bop_mul_l (by decide)
    have q5 : ∀ z w : Int, bop .mul (.int (z % 2147483629)) (.int (w % 2147483629)) = some (.int (z % 2147483629 * (w % 2147483629))) := fun z w => bop_mul_r (m2 w)
    have q6 : ∀ z w : Int, bop .mul (.int (z % 2147483587)) (.int (w % 2147483587)) = some (.int (z % 2147483587 * (w % 2147483587))) := fun z w => bop_mul_r (m3 w)
    by_cases hc : c = []
    · subst hc
      have e0 : cop .ne (.lst []) (.lst []) = some false := ne_nil []
      simp [evSs, evS, evE, evEs, evBs, evT, evB, g_left, g_turns, g_cells, g_spot, p_turns, p_left, p_spot, hl0, mkT_ok, mkL_ok, e0, k1, k2, k3, k4, k5, q1, q2, q3, q4, q5, q6, bop_mod_i hb]
      exact ⟨_, _, ⟨rfl, rfl⟩, rest _ hl, fin _⟩
    · have e0 : cop .ne (.lst (c.map .int)) (.lst []) = some true := by rw [ne_nil]; cases c <;> first | (exact absurd rfl hc) | rfl
      have hn : (0 : Int) < c.length := by cases c <;> first | (exact absurd rfl hc) | simp
      have lx : (c.map D.int).length = c.length := List.length_map ..
      obtain ⟨d, hd, hm⟩ := idx_mem (xs := c.map D.int) (i := s % c.length) (Int.emod_nonneg _ (by omega)) (by rw [lx]; exact Int.emod_lt_of_pos _ hn)
      obtain ⟨z, _, rfl⟩ := List.mem_map.mp hm
      have ke : bop .mod (.int s) (.int c.length) = some (.int (s % c.length)) := bop_mod_i hn
      by_cases hz : 1000000000000000000 ≤ z
      · by_cases hs2 : s < c.length
        · simp [evSs, evS, evE, evEs, evBs, evT, evB, g_left, g_turns, g_cells, g_spot, p_turns, p_left, p_spot, hl0, mkT_ok, mkL_ok, e0, ke, hd, k1, k2, k3, k4, k5, q1, q2, q3, q4, q5, q6, bop_mod_i hb, bop_fdiv_i hb hb2, hz, hs2]
          exact ⟨_, _, ⟨rfl, rfl⟩, rest _ (Int.ediv_nonneg (by omega) (by omega)), fin _⟩
        · simp [evSs, evS, evE, evEs, evBs, evT, evB, g_left, g_turns, g_cells, g_spot, p_turns, p_left, p_spot, hl0, mkT_ok, mkL_ok, e0, ke, hd, k1, k2, k3, k4, k5, q1, q2, q3, q4, q5, q6, bop_mod_i hb, bop_fdiv_i hb hb2, hz, hs2]
          exact ⟨_, _, ⟨rfl, rfl⟩, rest _ hl, fin _⟩
      · simp [evSs, evS, evE, evEs, evBs, evT, evB, g_left, g_turns, g_cells, g_spot, p_turns, p_left, p_spot, hl0, mkT_ok, mkL_ok, e0, ke, hd, k1, k2, k3, k4, k5, q1, q2, q3, q4, q5, q6, bop_mod_i hb, bop_fdiv_i hb hb2, hz]
        exact ⟨_, _, ⟨rfl, rfl⟩, rest _ hl, fin _⟩
end T07
namespace T07
open PySem L2 Mi
theorem len_small {α : Type} {xs : List α} (h : xs.length < 1073741824) : ((xs.length : Nat) : Int) < 1073741824 := by omega
theorem pick_ok (n : Nat) {S : Sto} (h : FS S) {xs : List D} (h0 : xs ≠ []) (hl : xs.length < 1073741824) : ∃ d S', (Tb (n + 2)).f 12 [.loc 1, .lst xs] S = some (.ok d S') ∧ FS S' ∧ d ∈ xs := by
  have hp : (0 : Int) < xs.length := by cases xs <;> first | (exact absurd rfl h0) | (simp only [List.length_cons]; omega)
  obtain ⟨r, S', e, hS, r0, r1⟩ := draw_ok n h (b := xs.length) hp (len_small hl)
  obtain ⟨d, hd, hm⟩ := idx_mem r0 r1
  refine ⟨d, S', ?_, hS, hm⟩
  rw [tab_f (p := (2, b_12)) rfl, runF_eq]
  unfold b_12
  simp [evSs, evS, evE, evEs, e, hd]
/-- words of needs, of moments -/
def needL : List Str := ["maker", "name", "picture", "reader"]
def momL : List Str := ["gone", "left", "made", "read", "right", "turned"]
def isNeedD (d : D) : Prop := ∃ x ∈ needL, d = .str x
theorem needs_ok (n : Nat) {S : Sto} (h : FS S) : ∃ ts S', (Tb (n + 2)).f 13 [.loc 1] S = some (.ok (.tup ts) S') ∧ FS S' ∧ ts.Sublist (needL.map D.str) := by
  obtain ⟨ds, S', e, hS, hs⟩ := compM_sub (J := FS) (f := compF (Tb (n + 1)) (.var 1) (.nm 1) (.cons (.val (.cmp .eq (.call 11 (.cons (.var 0) (.cons (.cst (.int 2)) .nil))) (.cst (.int 0)))) .nil) [.val (.loc 1), .non]) (needL.map D.str) [] S (fun x hx S hS => by
    obtain ⟨r, S', e, hS', r0, r1⟩ := draw_ok n hS (b := 2) (by decide) (by decide)
    by_cases hr : r = 0
    · subst hr
      refine ⟨some x, S', ?_, hS', .inr rfl⟩
      simp [compF, evTs, evT, evE, evEs, e]
    · refine ⟨none, S', ?_, hS', .inl rfl⟩
      simp [compF, evTs, evT, evE, evEs, e, hr]) h (by decide)
  refine ⟨ds, S', ?_, hS, hs⟩
  have hl : ds.length ≤ 4 := hs.length_le
  rw [tab_f (p := (2, b_13)) rfl, runF_eq]
  unfold b_13
  unfold needL at e
  simp only [List.map, List.nil_append] at e
  simp [evE_cst, evE_var, evE_pk, evE_fn, evE_gc, evE_tup, evE_lst, evE_bin, evE_cat, evE_neg, evE_cmp, evE_cmp2, evE_isN, evE_isB, evE_bool, evE_not, evE_ite, evE_idx, evE_slc, evE_rev, evE_call, evE_callK, evE_blt, evE_sset, evE_said, evE_isa, evE_cnt, evE_isaC, evE_fld, evE_dget, evE_dct, evBs_nil, evBs_cons, evT_val, evT_bool, evT_not, evB_nil, evB_cons, evTs_nil, evTs_cons, evEs_nil, evEs_cons, evO_no, evO_so, evI_ex, evI_enum, evS_asg, evS_asgO, evS_unp, evS_expr, evS_ifs, evS_ret, evS_retN, evS_retO, evS_whl, evS_app, evS_ext, evS_seti, evS_dput, evS_raise, evS_frz, evS_pass, evS_brk, evS_cont, evSs_nil, evSs_cons, evE_comp, evS_for, mkL_ok, e, mkT_ok (show ds.length ≤ 16777216 by omega)]
theorem needs_draw {m : Nat} (hm : 2 ≤ m) {S : Sto} (h : FS S) : ∃ (us : List Str) (S' : Sto), (Tb m).f 13 [.loc 1] S = some (.ok (.tup (us.map D.str)) S') ∧ FS S' ∧ us.Sublist needL := by
  obtain ⟨n, rfl⟩ : ∃ n, m = n + 2 := ⟨m - 2, by omega⟩
  obtain ⟨ts, S', e, hS, hs⟩ := needs_ok n h
  obtain ⟨us, h1, rfl⟩ := List.sublist_map_iff.mp hs
  exact ⟨us, S', e, hS, h1⟩
theorem draw_at {m : Nat} (hm : 1 ≤ m) {S : Sto} (h : FS S) {b : Int} (hb : 0 < b) (hb2 : b < 1073741824) : ∃ r S', (Tb m).f 11 [.loc 1, .int b] S = some (.ok (.int r) S') ∧ FS S' ∧ 0 ≤ r ∧ r < b := by
  obtain ⟨n, rfl⟩ : ∃ n, m = n + 1 := ⟨m - 1, by omega⟩
  exact draw_ok n h hb hb2
theorem pick_at {m : Nat} (hm : 2 ≤ m) {S : Sto} (h : FS S) {xs : List D} (h0 : xs ≠ []) (hl : xs.length < 1073741824) : ∃ d S', (Tb m).f 12 [.loc 1, .lst xs] S = some (.ok d S') ∧ FS S' ∧ d ∈ xs := by
  obtain ⟨n, rfl⟩ : ∃ n, m = n + 2 := ⟨m - 2, by omega⟩
  exact pick_ok n h h0 hl
end T07
end

section
set_option linter.all false
set_option maxRecDepth 100000
set_option Elab.async false
set_option maxHeartbeats 4000000
namespace T07
open PySem L2 Mi
def wrd (ts : List Str) : List D := ts.map D.str
/-- a pair of a moment and needs -/
def isPairD (d : D) : Prop := ∃ m ∈ momL, ∃ ts : List Str, (∀ x ∈ ts, x ∈ needL) ∧ ts.length ≤ 4 ∧ ts.Sublist needL ∧ d = .tup [.str m, .tup (wrd ts)]
def isPairK (k : NestedKey) : Prop := ∃ m ∈ momL, ∃ ts : List Str, (∀ x ∈ ts, x ∈ needL) ∧ ts.length ≤ 4 ∧ ts.Sublist needL ∧ k = .tup [.text m, .tup (ts.map .text)]
theorem pair_ok (n : Nat) {S : Sto} (h : FS S) : ∃ d S', (Tb (n + 3)).f 14 [.loc 1] S = some (.ok d S') ∧ FS S' ∧ isPairD d := by
  obtain ⟨m, S1, e1, h1, hm⟩ := pick_ok n h (xs := [.str "gone", .str "left", .str "made", .str "read", .str "right", .str "turned"]) (by simp) (by simp)
  obtain ⟨us, S2, e2, h2, hs⟩ := needs_draw (m := n + 2) (by omega) h1
  obtain ⟨x, hx, rfl⟩ : ∃ x ∈ momL, m = .str x := by
    simp at hm
    rcases hm with e | e | e | e | e | e <;> exact ⟨_, by simp [momL], e⟩
  refine ⟨.tup [.str x, .tup (wrd us)], S2, ?_, h2, x, hx, us, fun y hy => hs.subset hy, hs.length_le, hs, rfl⟩
  rw [tab_f (p := (1, b_14)) rfl, runF_eq]
  unfold b_14
  unfold wrd
  simp [evE_cst, evE_var, evE_pk, evE_fn, evE_gc, evE_tup, evE_lst, evE_bin, evE_cat, evE_neg, evE_cmp, evE_cmp2, evE_isN, evE_isB, evE_bool, evE_not, evE_ite, evE_idx, evE_slc, evE_rev, evE_call, evE_callK, evE_blt, evE_sset, evE_said, evE_isa, evE_cnt, evE_isaC, evE_fld, evE_dget, evE_dct, evBs_nil, evBs_cons, evT_val, evT_bool, evT_not, evB_nil, evB_cons, evTs_nil, evTs_cons, evEs_nil, evEs_cons, evO_no, evO_so, evI_ex, evI_enum, evS_asg, evS_asgO, evS_unp, evS_expr, evS_ifs, evS_ret, evS_retN, evS_retO, evS_whl, evS_app, evS_ext, evS_seti, evS_dput, evS_raise, evS_frz, evS_pass, evS_brk, evS_cont, evSs_nil, evSs_cons, evE_comp, evS_for, mkL_ok, mkT_ok, e1, e2]
theorem pair_at {m : Nat} (hm : 3 ≤ m) {S : Sto} (h : FS S) : ∃ d S', (Tb m).f 14 [.loc 1] S = some (.ok d S') ∧ FS S' ∧ isPairD d := by
  obtain ⟨n, rfl⟩ : ∃ n, m = n + 3 := ⟨m - 3, by omega⟩
  exact pair_ok n h
theorem ky_wrd : ∀ ts : List Str, kyDs (wrd ts) = some (ts.map .text)
  | [] => rfl
  | t :: ts => by
    have ih := ky_wrd ts
    show kyDs (D.str t :: wrd ts) = _
    unfold kyDs
    rw [ih]; rfl
theorem ky_pair {m : Str} {ts : List Str} : kyD (.tup [.str m, .tup (wrd ts)]) = some (.tup [.text m, .tup (ts.map .text)]) := by
  have e : kyD (.tup (wrd ts)) = some (.tup (ts.map .text)) := by unfold kyD; rw [ky_wrd]; rfl
  unfold kyD kyDs kyDs kyDs
  rw [e]; rfl
theorem ky_pairs : ∀ {ps : List D}, (∀ d ∈ ps, isPairD d) → ∃ ks, kyDs ps = some ks ∧ (∀ k ∈ ks, isPairK k) ∧ ks.length = ps.length
  | [], _ => ⟨[], rfl, fun _ h => (List.not_mem_nil h).elim, rfl⟩
  | d :: ps, h => by
    obtain ⟨m, hm, ts, ht, hl, hs, rfl⟩ := h d List.mem_cons_self
    obtain ⟨ks, e, hk, hn⟩ := ky_pairs fun y hy => h y (List.mem_cons_of_mem _ hy)
    refine ⟨.tup [.text m, .tup (ts.map .text)] :: ks, ?_, fun y hy => ?_, by simp [hn]⟩
    · unfold kyDs
      rw [ky_pair, e]
    · rcases List.mem_cons.mp hy with z | z
      · rw [z]; exact ⟨m, hm, ts, ht, hl, hs, rfl⟩
      · exact hk y z
theorem texts_depth : ∀ ts : List Str, NestedKey.depthAll (ts.map .text) = 0
  | [] => rfl
  | t :: ts => by
    have ih := texts_depth ts
    rw [List.map_cons]
    unfold NestedKey.depthAll
    rw [ih]; rfl
theorem texts_alike : ∀ ts us : List Str, PySem.W.alikeAll (NestedKey.datas (ts.map .text)) (NestedKey.datas (us.map .text)) = true
  | [], us => by unfold NestedKey.datas PySem.W.alikeAll; rfl
  | t :: ts, [] => by rw [List.map_cons]; unfold NestedKey.datas PySem.W.alikeAll; rfl
  | t :: ts, u :: us => by
    have ih := texts_alike ts us
    rw [List.map_cons, List.map_cons]
    unfold NestedKey.datas PySem.W.alikeAll
    rw [ih]; rfl
theorem pairK_depth {k : NestedKey} (h : isPairK k) : k.depth ≤ 7 := by
  obtain ⟨m, _, ts, _, _, _, rfl⟩ := h
  have e := texts_depth ts
  show max 0 (max (NestedKey.depthAll (ts.map .text) + 1) 0) + 1 ≤ 7
  rw [e]; decide
theorem pairK_alike {k k' : NestedKey} (h : isPairK k) (h' : isPairK k') : PySem.W.alike k.data k'.data = true := by
  obtain ⟨m, _, ts, _, _, _, rfl⟩ := h
  obtain ⟨m', _, ts', _, _, _, rfl⟩ := h'
  have e := texts_alike ts ts'
  show PySem.W.alike (.tuple [.str m, .tuple (NestedKey.datas (ts.map .text))]) (.tuple [.str m', .tuple (NestedKey.datas (ts'.map .text))]) = true
  unfold PySem.W.alike PySem.W.alikeAll PySem.W.alikeAll PySem.W.alikeAll
  unfold PySem.W.alike
  rw [e]; rfl
theorem dups_len : ∀ (n : Nat) (ks : List NestedKey), ks.length ≤ n → ks.eraseDups.length ≤ ks.length
  | _, [], _ => by simp
  | 0, _ :: _, h => by simp at h
  | n + 1, k :: ks, h => by
    rw [List.eraseDups_cons, List.length_cons, List.length_cons]
    have := dups_len n (ks.filter fun b => !b == k) (Nat.le_trans (List.length_filter_le _ _) (Nat.le_of_succ_le_succ h))
    have := List.length_filter_le (fun b => !b == k) ks
    omega
theorem unK_pair {k : NestedKey} (h : isPairK k) : isPairD (unK k) := by
  obtain ⟨m, hm, ts, ht, hl, hs, rfl⟩ := h
  refine ⟨m, hm, ts, ht, hl, hs, ?_⟩
  have e : unKs (ts.map .text) = wrd ts := by
    rw [unKs_map, List.map_map]; rfl
  unfold unK unKs unKs unKs unK
  rw [e]
theorem sset_ok {ps : List D} (h : ∀ d ∈ ps, isPairD d) (hl : ps.length < 64) : ∃ qs, ssetD (.lst ps) = some (.lst qs) ∧ (∀ d ∈ qs, isPairD d) ∧ qs.length ≤ ps.length ∧ (∃ ks, qs = unKs ks ∧ (∀ k ∈ ks, isPairK k) ∧ ascK ks = true) := by
  obtain ⟨ks, e, hk, hn⟩ := ky_pairs h
  have ok : okSet ks = true := by
    unfold okSet
    rw [Bool.and_eq_true, Bool.and_eq_true, decide_eq_true_eq, List.all_eq_true, List.all_eq_true]
    refine ⟨⟨by omega, fun k hk' => ?_⟩, fun p hp => List.all_eq_true.mpr fun q hq => pairK_alike (hk p hp) (hk q hq)⟩
    have hd := pairK_depth (hk k hk')
    obtain ⟨m, _, ts, _, _, _, rfl⟩ := hk k hk'
    exact decide_eq_true hd
  refine ⟨unKs (ssetL ks), ?_, fun d hd => ?_, ?_, ssetL ks, rfl, fun k hk' => hk k (sset_mem.mp hk'), sset_asc fun p hp q hq => pairK_alike (hk p hp) (hk q hq)⟩
  · unfold ssetD seqL
    simp only [e, ok, Bool.true_or, if_true]
  · rw [unKs_map] at hd
    obtain ⟨k, hk', rfl⟩ := List.mem_map.mp hd
    unfold ssetL at hk'
    rw [List.mem_mergeSort, List.mem_eraseDups] at hk'
    exact unK_pair (hk k hk')
  · rw [unKs_map, List.length_map]
    unfold ssetL
    rw [List.length_mergeSort, ← hn]
    exact dups_len _ ks (Nat.le_refl _)
theorem plan_ok (n : Nat) {S : Sto} (h : FS S) {c : Int} (h0 : 0 ≤ c) (h1 : c ≤ 12) : ∃ ps S', (Tb (n + 4)).f 15 [.loc 1, .int c] S = some (.ok (.tup ps) S') ∧ FS S' ∧ (∀ d ∈ ps, isPairD d) ∧ ps.length ≤ c.toNat ∧ (∃ ks, ps = unKs ks ∧ (∀ k ∈ ks, isPairK k) ∧ ascK ks = true) := by
  obtain ⟨r, S1, e1, hS1, r0, r1⟩ := draw_at (m := n + 3) (by omega) h (b := c + 1) (by omega) (by omega)
  obtain ⟨k, rfl⟩ := Int.eq_ofNat_of_zero_le r0
  have hk : k ≤ 12 := by omega
  have hkc : k ≤ c.toNat := by omega
  clear r0 r1
  have er : evI (Tb (n + 3)) (.rng (.call 11 (.cons (.var 0) (.cons (.bin .add (.var 1) (.cst (.int 1))) .nil)))) [.val (.loc 1), .val (.int c), .non] S = _ := evI_rng_ok (n := k) (S' := S1) (by simp [evE_cst, evE_var, evE_pk, evE_fn, evE_gc, evE_tup, evE_lst, evE_bin, evE_cat, evE_neg, evE_cmp, evE_cmp2, evE_isN, evE_isB, evE_bool, evE_not, evE_ite, evE_idx, evE_slc, evE_rev, evE_call, evE_callK, evE_blt, evE_sset, evE_said, evE_isa, evE_cnt, evE_isaC, evE_fld, evE_dget, evE_dct, evBs_nil, evBs_cons, evT_val, evT_bool, evT_not, evB_nil, evB_cons, evTs_nil, evTs_cons, evEs_nil, evEs_cons, evO_no, evO_so, evI_ex, evI_enum, evS_asg, evS_asgO, evS_unp, evS_expr, evS_ifs, evS_ret, evS_retN, evS_retO, evS_whl, evS_app, evS_ext, evS_seti, evS_dput, evS_raise, evS_frz, evS_pass, evS_brk, evS_cont, evSs_nil, evSs_cons, evE_comp, evS_for, e1]) (by omega)
  obtain ⟨ds, S2, e2, hS2, hP, hl⟩ := compM_if (J := FS) (P := isPairD) (xs0 := (List.range k).map fun (k : Nat) => D.int k) (f := compF (Tb (n + 3)) (.call 14 (.cons (.var 0) .nil)) (.nm 2) .nil [.val (.loc 1), .val (.int c), .non]) (fun x hx S hS => by
    obtain ⟨d, S', e, hS', hd⟩ := pair_at (m := n + 3) (by omega) hS
    refine ⟨some d, S', ?_, hS', fun z hz => by cases hz; exact hd⟩
    unfold compF
    simp [evE_cst, evE_var, evE_pk, evE_fn, evE_gc, evE_tup, evE_lst, evE_bin, evE_cat, evE_neg, evE_cmp, evE_cmp2, evE_isN, evE_isB, evE_bool, evE_not, evE_ite, evE_idx, evE_slc, evE_rev, evE_call, evE_callK, evE_blt, evE_sset, evE_said, evE_isa, evE_cnt, evE_isaC, evE_fld, evE_dget, evE_dct, evBs_nil, evBs_cons, evT_val, evT_bool, evT_not, evB_nil, evB_cons, evTs_nil, evTs_cons, evEs_nil, evEs_cons, evO_no, evO_so, evI_ex, evI_enum, evS_asg, evS_asgO, evS_unp, evS_expr, evS_ifs, evS_ret, evS_retN, evS_retO, evS_whl, evS_app, evS_ext, evS_seti, evS_dput, evS_raise, evS_frz, evS_pass, evS_brk, evS_cont, evSs_nil, evSs_cons, evE_comp, evS_for, e]) _ [] S1 (fun _ h => h) hS1 (fun _ h => nomatch h) (by rw [List.length_map, List.length_range, List.length_nil, Nat.zero_add]; exact Nat.le_trans hk (by decide))
  rw [List.length_map, List.length_range, List.length_nil, Nat.zero_add] at hl
  obtain ⟨qs, e3, hq, hql, hqa⟩ := sset_ok hP (by omega)
  refine ⟨qs, S2, ?_, hS2, hq, by omega, hqa⟩
  rw [tab_f (p := (3, b_15)) rfl, runF_eq]
  unfold b_15
  simp [evE_cst, evE_var, evE_pk, evE_fn, evE_gc, evE_tup, evE_lst, evE_bin, evE_cat, evE_neg, evE_cmp, evE_cmp2, evE_isN, evE_isB, evE_bool, evE_not, evE_ite, evE_idx, evE_slc, evE_rev, evE_call, evE_callK, evE_blt, evE_sset, evE_said, evE_isa, evE_cnt, evE_isaC, evE_fld, evE_dget, evE_dct, evBs_nil, evBs_cons, evT_val, evT_bool, evT_not, evB_nil, evB_cons, evTs_nil, evTs_cons, evEs_nil, evEs_cons, evO_no, evO_so, evI_ex, evI_enum, evS_asg, evS_asgO, evS_unp, evS_expr, evS_ifs, evS_ret, evS_retN, evS_retO, evS_whl, evS_app, evS_ext, evS_seti, evS_dput, evS_raise, evS_frz, evS_pass, evS_brk, evS_cont, evSs_nil, evSs_cons, evE_comp, evS_for, er, e2, e3, mkT_ok (show qs.length ≤ 16777216 by omega)]
theorem plan_at {m : Nat} (hm : 4 ≤ m) {S : Sto} (h : FS S) {c : Int} (h0 : 0 ≤ c) (h1 : c ≤ 12) : ∃ ps S', (Tb m).f 15 [.loc 1, .int c] S = some (.ok (.tup ps) S') ∧ FS S' ∧ (∀ d ∈ ps, isPairD d) ∧ ps.length ≤ c.toNat ∧ (∃ ks, ps = unKs ks ∧ (∀ k ∈ ks, isPairK k) ∧ ascK ks = true) := by
  obtain ⟨n, rfl⟩ : ∃ n, m = n + 4 := ⟨m - 4, by omega⟩
  exact plan_ok n h h0 h1
end T07
end

section
set_option linter.all false
set_option maxRecDepth 100000
set_option Elab.async false
set_option maxHeartbeats 4000000
namespace T07
open PySem L2 Mi
def str0 : List D := [.non, .bl true, .bl false, .int (-1), .int 0, .int 1, .int 7, .int 100000000000000000000000000000000000000000000000000000000000, .str "", .str "a", .str "abcdefgh", .str "abcdefghi", .str "A", .str "a b", .str "name", .str "left"]
def str1 : List D := [.tup [], .lst [], .tup [.str "name"], .lst [.str "name"], .tup [.str "reader", .str "name"], .tup [.str "name", .str "name"], .tup [.str "name", .str "left"], .tup [.str "left", .tup []]]
def str2 : List D := [.tup [.str "left", .lst []], .lst [.str "left", .tup []], .tup [.str "left"], .tup [.str "left", .tup [], .tup []], .tup [.str "Left", .tup []], .tup [.str "name", .tup []], .str "reader"]
def str3 : List D := [.tup [.str "left", .tup [.str "reader", .str "name"]], .tup [.tup [.str "left", .tup []]], .tup [.tup [.str "left", .tup []], .tup [.str "gone", .tup []]], .lst [.tup [.str "left", .tup []]]]
def str4 : List D := [.tup [.str "guess"], .tup [.str "guess", .int 1], .tup [.str "make", .str "a"], .tup [.str "make", .str "a", .tup []], .tup [.str "make", .str "a", .tup [.str "b", .str "a"]], .str "turned"]
def str5 : List D := [.tup [.str "make", .str "a", .lst [.str "a"]], .tup [.str "same", .str "a", .str "b"], .tup [.str "same", .str "a", .str "a"], .tup [.str "same", .str "a", .tup [.str "b"]], .tup [.str "left", .str "name"]]
def str6 : List D := [.tup [.str "make", .str "A", .tup []], .tup [.tup [.str "a"], .int 1, .int 0, .bl false], .tup [.tup [.str "a"], .int 0, .int 0, .bl false], .tup [.tup [.str "a"], .int 1, .int (-1), .bl true]]
def str7 : List D := [.tup [.tup [.str "a"], .int 1, .int 0, .int 0], .tup [.tup [], .int 1, .int 0, .bl true], .tup [.lst [.str "a"], .int 1, .int 0, .bl true], .tup [.tup [.str "b", .str "a"], .int 1, .int 0, .bl true]]
def str8 : List D := [.tup [.tup [.str "a"], .bl true, .int 0, .bl true], .tup [.tup [.str "a"], .int 1, .int 0], .tup [.str "turned", .tup [.str "maker"]]]
def strangeL : List D := str0 ++ str1 ++ str2 ++ str3 ++ str4 ++ str5 ++ str6 ++ str7 ++ str8
/-! ### how large data are -/
mutual
def wt : D → Nat
  | .int i => if i.natAbs ≤ 16 then 5 else 210
  | .str x => x.cps.size
  | .tup ds => wts ds
  | .lst ds => wts ds
  | _ => 0
def wts : List D → Nat
  | [] => 0
  | d :: ds => wt d + 1 + wts ds
end
mutual
def dp : D → Nat
  | .tup ds => dps ds + 1
  | .lst ds => dps ds + 1
  | _ => 0
def dps : List D → Nat
  | [] => 0
  | d :: ds => max (dp d) (dps ds)
end
mutual
/-- data whose numbers are at most 10 ** 59 + c -/
def gd (c : Nat) : D → Bool
  | .non => true
  | .bl _ => true
  | .int i => decide (i.natAbs ≤ 100000000000000000000000000000000000000000000000000000000000 + c)
  | .str x => x.cps.toList.all fun z => decide (z < 1114112)
  | .tup ds => gds c ds
  | .lst ds => gds c ds
  | _ => false
def gds (c : Nat) : List D → Bool
  | [] => true
  | d :: ds => gd c d && gds c ds
end
theorem gds_all {c : Nat} : ∀ {ds : List D}, gds c ds = true ↔ ∀ d ∈ ds, gd c d = true
  | [] => ⟨fun _ _ h => (List.not_mem_nil h).elim, fun _ => rfl⟩
  | d :: ds => by
    unfold gds
    rw [Bool.and_eq_true, gds_all (ds := ds), List.forall_mem_cons]
theorem dps_le {n : Nat} : ∀ {ds : List D}, dps ds ≤ n ↔ ∀ d ∈ ds, dp d ≤ n
  | [] => ⟨fun _ _ h => (List.not_mem_nil h).elim, fun _ => Nat.zero_le _⟩
  | d :: ds => by
    unfold dps
    rw [Nat.max_le, dps_le (ds := ds), List.forall_mem_cons]
theorem wts_app : ∀ (a b : List D), wts (a ++ b) = wts a + wts b
  | [], b => by unfold wts; simp [wts]
  | d :: a, b => by
    have ih := wts_app a b
    show wt d + 1 + wts (a ++ b) = wt d + 1 + wts a + wts b
    omega
theorem wts_mem {d : D} : ∀ {ds : List D}, d ∈ ds → wt d + 1 ≤ wts ds
  | e :: ds, h => by
    show wt d + 1 ≤ wt e + 1 + wts ds
    rcases List.mem_cons.mp h with z | z
    · subst z; omega
    · have := wts_mem z; omega
theorem wts_take (n : Nat) (ds : List D) : wts (ds.take n) + wts (ds.drop n) = wts ds := by
  rw [← wts_app, List.take_append_drop]
theorem wts_rev : ∀ ds : List D, wts ds.reverse = wts ds
  | [] => rfl
  | d :: ds => by
    rw [List.reverse_cons, wts_app, wts_rev ds]
    show wts ds + (wt d + 1 + 0) = wt d + 1 + wts ds
    omega
mutual
theorem gd_mono {c c' : Nat} (h : c ≤ c') : ∀ d : D, gd c d = true → gd c' d = true
  | .non, _ => rfl
  | .bl _, _ => rfl
  | .int i, e => by
    unfold gd at e ⊢
    rw [decide_eq_true_eq] at e ⊢
    omega
  | .str x, e => by unfold gd at e ⊢; exact e
  | .tup ds, e => by unfold gd at e ⊢; exact gds_mono h ds e
  | .lst ds, e => by unfold gd at e ⊢; exact gds_mono h ds e
  | .loc _, e => by unfold gd at e; cases e
  | .fn _, e => by unfold gd at e; cases e
theorem gds_mono {c c' : Nat} (h : c ≤ c') : ∀ ds : List D, gds c ds = true → gds c' ds = true
  | [], _ => rfl
  | d :: ds, e => by
    unfold gds at e ⊢
    rw [Bool.and_eq_true] at e ⊢
    exact ⟨gd_mono h d e.1, gds_mono h ds e.2⟩
end
mutual
theorem toPy_ok {c : Nat} (hc : c ≤ 1000) : ∀ d : D, gd c d = true → ∃ p, d.toPy = some p ∧ p.showable = true ∧ p.leavesShort 64 = true ∧ p.weight ≤ wt d ∧ p.depth = dp d ∧ p.canLay0 = true
  | .non, _ => ⟨.none, rfl, rfl, rfl, Nat.le_refl _, rfl, rfl⟩
  | .bl b, _ => ⟨.bool b, rfl, rfl, rfl, Nat.le_refl _, rfl, rfl⟩
  | .int i, e => by
    unfold gd at e
    rw [decide_eq_true_eq] at e
    have e2 : i.natAbs < 10 ^ 60 := Nat.lt_of_le_of_lt e (by have : (10 : Nat) ^ 60 = 1000000000000000000000000000000000000000000000000000000000000 := by decide
                                                             omega)
    have e3 : i.natAbs.log2 < 200 := by
      by_cases h0 : i.natAbs = 0
      · rw [h0]; decide
      · rw [Nat.log2_lt h0]
        exact Nat.lt_of_lt_of_le e2 (by decide)
    refine ⟨.int i, rfl, ?_, ?_, ?_, rfl, rfl⟩
    · unfold PyData.showable; rw [decide_eq_true_eq]; omega
    · unfold PyData.leavesShort
      rw [decide_eq_true_eq]
      show (Str.ofString (toString i)).length ≤ 64
      rw [ofString_length]
      exact Nat.le_trans (int_text_length_le10 (k := 60) (by decide) e2) (by decide)
    · show (if i == 0 then 0 else i.natAbs.log2 + 1) ≤ (if i.natAbs ≤ 16 then 5 else 210)
      by_cases h16 : i.natAbs ≤ 16
      · rw [if_pos h16]
        by_cases h0 : i.natAbs = 0
        · rw [h0]; split <;> decide
        · have : i.natAbs.log2 < 5 := by rw [Nat.log2_lt h0]; omega
          split <;> omega
      · rw [if_neg h16]
        split <;> omega
  | .str x, e => by
    unfold gd at e
    have e2 : ∀ z ∈ x.cps.toList, z < 1114112 := fun z hz => by have := List.all_eq_true.mp e z hz; rwa [decide_eq_true_eq] at this
    refine ⟨.str x, rfl, rfl, ?_, Nat.le_refl _, rfl, ?_⟩
    · show (x.cps.toList.all fun z => decide (z < 16 ^ 8)) = true
      exact List.all_eq_true.mpr fun z hz => decide_eq_true (Nat.lt_trans (e2 z hz) (by decide))
    · show PyData.strOk x = true
      unfold PyData.strOk
      rw [← Array.all_toList]
      exact e
  | .tup ds, e => by
    unfold gd at e
    obtain ⟨ps, h1, h2, h3, h4, h5, h6⟩ := toPys_ok hc ds e
    exact ⟨.tuple ps, by unfold D.toPy; rw [h1]; rfl, h2, h3, h4, by show PyData.depthAll ps + 1 = dps ds + 1; rw [h5], h6⟩
  | .lst ds, e => by
    unfold gd at e
    obtain ⟨ps, h1, h2, h3, h4, h5, h6⟩ := toPys_ok hc ds e
    exact ⟨.list ps, by unfold D.toPy; rw [h1]; rfl, h2, h3, h4, by show PyData.depthAll ps + 1 = dps ds + 1; rw [h5], h6⟩
  | .loc _, e => by unfold gd at e; cases e
  | .fn _, e => by unfold gd at e; cases e
theorem toPys_ok {c : Nat} (hc : c ≤ 1000) : ∀ ds : List D, gds c ds = true → ∃ ps, D.toPys ds = some ps ∧ PyData.showableAll ps = true ∧ PyData.leavesShortAll 64 ps = true ∧ PyData.weightAll ps ≤ wts ds ∧ PyData.depthAll ps = dps ds ∧ PyData.canLayAll0 ps = true
  | [], _ => ⟨[], rfl, rfl, rfl, Nat.le_refl _, rfl, rfl⟩
  | d :: ds, e => by
    unfold gds at e
    rw [Bool.and_eq_true] at e
    obtain ⟨p, h1, h2, h3, h4, h5, h6⟩ := toPy_ok hc d e.1
    obtain ⟨ps, k1, k2, k3, k4, k5, k6⟩ := toPys_ok hc ds e.2
    refine ⟨p :: ps, by unfold D.toPys; rw [h1, k1], ?_, ?_, ?_, ?_, ?_⟩
    · unfold PyData.showableAll; rw [h2, k2]; rfl
    · unfold PyData.leavesShortAll; rw [h3, k3]; rfl
    · show PyData.weight p + 1 + PyData.weightAll ps ≤ wt d + 1 + wts ds
      omega
    · show max p.depth (PyData.depthAll ps) = max (dp d) (dps ds)
      rw [h5, k5]
    · show (p.canLay0 && PyData.canLayAll0 ps) = true
      rw [h6, k6]; rfl
end
theorem repr_ok {c : Nat} (hc : c ≤ 1000) {d : D} (h : gd c d = true) (hw : wt d ≤ 200000) (hd : dp d ≤ 60) : ∃ s, reprD d = some (.str s) := by
  obtain ⟨p, h1, h2, h3, h4, h5, h6⟩ := toPy_ok hc d h
  refine ⟨p.shown, ?_⟩
  unfold reprD
  rw [h1]
  have l := PyData.shown_le 64 (by decide) p h3
  show (if _ then some (D.str p.shown) else none) = _
  rw [if_pos ⟨h2, by omega, by rw [maxLen_val]; omega⟩]
/-- how many things a tuple has -/
def tl : D → Nat
  | .tup ds => ds.length
  | _ => 0
theorem strange_good : (strangeL.all fun d => gd 0 d && decide (wt d ≤ 215) && decide (dp d ≤ 3 ∧ tl d ≤ 4)) = true := by decide +kernel
theorem strange_at {m : Nat} (hm : 3 ≤ m) {S : Sto} (h : FS S) : ∃ d S', (Tb m).f 22 [.loc 1] S = some (.ok d S') ∧ FS S' ∧ gd 0 d = true ∧ wt d ≤ 215 ∧ dp d ≤ 3 ∧ tl d ≤ 4 := by
  obtain ⟨n, rfl⟩ : ∃ n, m = n + 1 := ⟨m - 1, by omega⟩
  obtain ⟨d, S', e, hS, hd⟩ := pick_at (m := n) (by omega) h (xs := strangeL) (by unfold strangeL str0; simp) (by decide +kernel)
  have g := List.all_eq_true.mp strange_good d hd
  rw [Bool.and_eq_true, Bool.and_eq_true, decide_eq_true_eq, decide_eq_true_eq] at g
  refine ⟨d, S', ?_, hS, g.1.1, g.1.2, g.2⟩
  rw [tab_f (p := (2, b_22)) rfl, runF_eq]
  unfold b_22
  unfold strangeL str0 str1 str2 str3 str4 str5 str6 str7 str8 at e
  simp only [List.cons_append, List.nil_append] at e
  simp [evE_cst, evE_var, evE_pk, evE_fn, evE_gc, evE_tup, evE_lst, evE_bin, evE_cat, evE_neg, evE_cmp, evE_cmp2, evE_isN, evE_isB, evE_bool, evE_not, evE_ite, evE_idx, evE_slc, evE_rev, evE_call, evE_callK, evE_blt, evE_sset, evE_said, evE_isa, evE_cnt, evE_isaC, evE_fld, evE_dget, evE_dct, evBs_nil, evBs_cons, evT_val, evT_bool, evT_not, evB_nil, evB_cons, evTs_nil, evTs_cons, evEs_nil, evEs_cons, evO_no, evO_so, evI_ex, evI_enum, evS_asg, evS_asgO, evS_unp, evS_expr, evS_ifs, evS_ret, evS_retN, evS_retO, evS_whl, evS_app, evS_ext, evS_seti, evS_dput, evS_raise, evS_frz, evS_pass, evS_brk, evS_cont, evSs_nil, evSs_cons, evE_comp, evS_for, mkL_ok, mkT_ok, e, ownAt]
end T07
end

section
set_option linter.all false
set_option maxRecDepth 100000
set_option Elab.async false
set_option maxHeartbeats 8000000
namespace T07
open PySem L2 Mi
theorem len_wts : ∀ ds : List D, ds.length ≤ wts ds
  | [] => Nat.le_refl _
  | d :: ds => by
    have := len_wts ds
    show ds.length + 1 ≤ wt d + 1 + wts ds
    omega
theorem cut_to {α : Type} (xs : List α) (k : Nat) : cutG xs none (some (k : Int)) = xs.take k := by
  unfold cutG
  rw [HT.sIx_none, HT.sIx_nat, List.drop_zero, Nat.sub_zero]
  by_cases h : k ≤ xs.length
  · rw [Nat.min_eq_left h]
  · rw [Nat.min_eq_right (by omega), List.take_length, List.take_of_length_le (by omega)]
theorem cut_from {α : Type} (xs : List α) (k : Nat) : cutG xs (some (k : Int)) none = xs.drop k := by
  unfold cutG
  rw [HT.sIx_none, HT.sIx_nat]
  by_cases h : k ≤ xs.length
  · rw [Nat.min_eq_left h, List.take_of_length_le (by rw [List.length_drop]; omega)]
  · rw [Nat.min_eq_right (by omega), List.drop_length, List.drop_eq_nil_of_le (by omega)]; simp
theorem cut3 {α : Type} (xs : List α) {k : Int} (h0 : 0 ≤ k) (h1 : k < xs.length + 1) : (cutG xs none (some k)).length = k.toNat ∧ (cutG xs (some k) none).length = xs.length - k.toNat ∧ (cutG xs (some k) (some (k + 1))).length ≤ 1 ∧ (cutG xs (some (k + 1)) none).length ≤ xs.length - k.toNat := by
  obtain ⟨j, rfl⟩ := Int.eq_ofNat_of_zero_le h0
  have e1 := cut_to xs j
  have e2 := cut_from xs j
  have e3 := cut_from xs (j + 1)
  rw [show ((j + 1 : Nat) : Int) = (j : Int) + 1 from rfl] at e3
  rw [e1, e2, e3, List.length_take, List.length_drop, List.length_drop, Int.toNat_natCast]
  refine ⟨by omega, rfl, ?_, by omega⟩
  unfold cutG
  rw [HT.sIx_nat, show ((j : Int) + 1) = ((j + 1 : Nat) : Int) from rfl, HT.sIx_nat, List.length_take]
  omega
theorem cut_mem {α : Type} {xs : List α} {lo hi : Option Int} {x : α} (h : x ∈ cutG xs lo hi) : x ∈ xs := List.mem_of_mem_drop (List.mem_of_mem_take h)
theorem wts_cut (xs : List D) (lo hi : Option Int) : wts (cutG xs lo hi) ≤ wts xs := by
  unfold cutG
  have h1 := wts_take (HT.sIx xs.length xs.length hi - HT.sIx xs.length 0 lo) (xs.drop (HT.sIx xs.length 0 lo))
  have h2 := wts_take (HT.sIx xs.length 0 lo) xs
  omega
theorem cutS_good {x : Str} {lo hi : Option Int} (h : ∀ z ∈ x.cps.toList, z < 1114112) : ∀ z ∈ (cutS x lo hi).cps.toList, z < 1114112 := fun z hz => by
  unfold cutS at hz
  simp only [List.toList_toArray] at hz
  exact h z (List.mem_of_mem_drop (List.mem_of_mem_take hz))
theorem app_good {x y : Str} (h : ∀ z ∈ x.cps.toList, z < 1114112) (h' : ∀ z ∈ y.cps.toList, z < 1114112) : ∀ z ∈ (x ++ y).cps.toList, z < 1114112 := fun z hz => by
  have e : (x ++ y).cps.toList = x.cps.toList ++ y.cps.toList := by
    show (x.cps ++ y.cps).toList = _
    rw [Array.toList_append]
  rw [e] at hz
  rcases List.mem_append.mp hz with q | q
  · exact h z q
  · exact h' z q
theorem app_len (x y : Str) : (x ++ y).length = x.length + y.length := by
  show (x.cps ++ y.cps).size = _
  rw [Array.size_append]; rfl
theorem gd_str {c : Nat} {x : Str} : gd c (.str x) = true ↔ ∀ z ∈ x.cps.toList, z < 1114112 := by
  unfold gd
  rw [List.all_eq_true]
  exact ⟨fun h z hz => of_decide_eq_true (h z hz), fun h z hz => decide_eq_true (h z hz)⟩
theorem gd_toString {c : Nat} (s : String) : gd c (.str (Str.ofString s)) = true := gd_str.mpr fun z hz => by
  rw [Str.ofString_eq_toList] at hz
  simp only [List.toList_toArray, List.mem_map] at hz
  obtain ⟨ch, _, rfl⟩ := hz
  have := ch.valid
  rcases this with q | q
  · show ch.val.toNat < _
    have : ch.val.toNat < 0xd800 := q
    omega
  · exact q.2
def numB : D → Bool
  | .int i => decide (0 ≤ i)
  | _ => false
theorem num_at {m c : Nat} (hm : 1 ≤ m) {x : D} (h : gd c x = true) {S : Sto} : (Tb m).f 16 [x] S = some (.ok (.bl (numB x)) S) := by
  obtain ⟨n, rfl⟩ : ∃ n, m = n + 1 := ⟨m - 1, by omega⟩
  rw [tab_f (p := (1, b_16)) rfl, runF_eq]
  unfold b_16
  cases x with
  | loc _ => unfold gd at h; cases h
  | fn _ => unfold gd at h; cases h
  | int i =>
    by_cases h0 : 0 ≤ i
    · simp [evE_cst, evE_var, evE_pk, evE_fn, evE_gc, evE_tup, evE_lst, evE_bin, evE_cat, evE_neg, evE_cmp, evE_cmp2, evE_isN, evE_isB, evE_bool, evE_not, evE_ite, evE_idx, evE_slc, evE_rev, evE_call, evE_callK, evE_blt, evE_sset, evE_said, evE_isa, evE_cnt, evE_isaC, evE_fld, evE_dget, evE_dct, evBs_nil, evBs_cons, evT_val, evT_bool, evT_not, evB_nil, evB_cons, evTs_nil, evTs_cons, evEs_nil, evEs_cons, evO_no, evO_so, evI_ex, evI_enum, evS_asg, evS_asgO, evS_unp, evS_expr, evS_ifs, evS_ret, evS_retN, evS_retO, evS_whl, evS_app, evS_ext, evS_seti, evS_dput, evS_raise, evS_frz, evS_pass, evS_brk, evS_cont, evSs_nil, evSs_cons, evE_comp, evS_for, isaD, numB, h0]
    · simp [evE_cst, evE_var, evE_pk, evE_fn, evE_gc, evE_tup, evE_lst, evE_bin, evE_cat, evE_neg, evE_cmp, evE_cmp2, evE_isN, evE_isB, evE_bool, evE_not, evE_ite, evE_idx, evE_slc, evE_rev, evE_call, evE_callK, evE_blt, evE_sset, evE_said, evE_isa, evE_cnt, evE_isaC, evE_fld, evE_dget, evE_dct, evBs_nil, evBs_cons, evT_val, evT_bool, evT_not, evB_nil, evB_cons, evTs_nil, evTs_cons, evEs_nil, evEs_cons, evO_no, evO_so, evI_ex, evI_enum, evS_asg, evS_asgO, evS_unp, evS_expr, evS_ifs, evS_ret, evS_retN, evS_retO, evS_whl, evS_app, evS_ext, evS_seti, evS_dput, evS_raise, evS_frz, evS_pass, evS_brk, evS_cont, evSs_nil, evSs_cons, evE_comp, evS_for, isaD, numB, h0]
  | _ => simp [evE_cst, evE_var, evE_pk, evE_fn, evE_gc, evE_tup, evE_lst, evE_bin, evE_cat, evE_neg, evE_cmp, evE_cmp2, evE_isN, evE_isB, evE_bool, evE_not, evE_ite, evE_idx, evE_slc, evE_rev, evE_call, evE_callK, evE_blt, evE_sset, evE_said, evE_isa, evE_cnt, evE_isaC, evE_fld, evE_dget, evE_dct, evBs_nil, evBs_cons, evT_val, evT_bool, evT_not, evB_nil, evB_cons, evTs_nil, evTs_cons, evEs_nil, evEs_cons, evO_no, evO_so, evI_ex, evI_enum, evS_asg, evS_asgO, evS_unp, evS_expr, evS_ifs, evS_ret, evS_retN, evS_retO, evS_whl, evS_app, evS_ext, evS_seti, evS_dput, evS_raise, evS_frz, evS_pass, evS_brk, evS_cont, evSs_nil, evSs_cons, evE_comp, evS_for, isaD, numB]
def t19 : CSs := (.cons (.unp (.tp [3, 4]) (.tup (.cons (.call 11 (.cons (.var 0) (.cons (.cst (.int 7)) .nil))) (.cons (.call 22 (.cons (.var 0) .nil)) .nil)))) (.cons (.ifs (.bool true (.cons (.val (.isa (.var 1) .tuple)) (.cons (.val (.cmp .lt (.var 3) (.cst (.int 6)))) .nil))) (.cons (.asg 2 (.call 11 (.cons (.var 0) (.cons (.bin .add (.blt .len (.var 1)) (.cst (.int 1))) .nil)))) (.cons (.ifs (.val (.cmp .eq (.var 3) (.cst (.int 0)))) (.cons (.ret (.blt .list (.var 1))) .nil) .nil) (.cons (.ifs (.val (.cmp .eq (.var 3) (.cst (.int 1)))) (.cons (.ret (.bin .add (.slc (.var 1) .no (.so (.var 2))) (.slc (.var 1) (.so (.bin .add (.var 2) (.cst (.int 1)))) .no))) .nil) .nil) (.cons (.ifs (.val (.cmp .eq (.var 3) (.cst (.int 2)))) (.cons (.ret (.bin .add (.bin .add (.slc (.var 1) .no (.so (.var 2))) (.slc (.var 1) (.so (.var 2)) (.so (.bin .add (.var 2) (.cst (.int 1)))))) (.slc (.var 1) (.so (.var 2)) .no))) .nil) .nil) (.cons (.ret (.ite (.val (.cmp .lt (.var 3) (.cst (.int 5)))) (.bin .add (.bin .add (.slc (.var 1) .no (.so (.var 2))) (.tup (.cons (.var 4) .nil))) (.slc (.var 1) (.so (.var 2)) .no)) (.rev (.var 1)))) .nil))))) .nil) (.cons (.ifs (.bool true (.cons (.val (.isa (.var 1) .str)) (.cons (.val (.cmp .lt (.var 3) (.cst (.int 3)))) .nil))) (.cons (.asg 2 (.call 11 (.cons (.var 0) (.cons (.bin .add (.blt .len (.var 1)) (.cst (.int 1))) .nil)))) (.cons (.ret (.bin .add (.bin .add (.slc (.var 1) .no (.so (.var 2))) (.call 12 (.cons (.var 0) (.cons (.lst (.cons (.cst (.str "a")) (.cons (.cst (.str "A")) (.cons (.cst (.str "")) (.cons (.cst (.str " ")) (.cons (.cst (.str "z")) (.cons (.cst (.str "0")) .nil))))))) .nil)))) (.slc (.var 1) (.so (.bin .add (.var 2) (.blt .int (.cmp .gt (.var 3) (.cst (.int 1)))))) .no))) .nil)) .nil) (.cons (.ifs (.bool true (.cons (.val (.isa (.var 1) .str)) (.cons (.val (.cmp .lt (.var 3) (.cst (.int 6)))) .nil))) (.cons (.ret (.call 12 (.cons (.var 0) (.cons (.lst (.cons (.cst (.str "gone")) (.cons (.cst (.str "read")) (.cons (.cst (.str "turned")) (.cons (.cst (.str "maker")) (.cons (.cst (.str "picture")) (.cons (.cst (.str "made")) .nil))))))) .nil)))) .nil) .nil) (.cons (.ifs (.bool true (.cons (.val (.call 16 (.cons (.var 1) .nil))) (.cons (.val (.cmp .lt (.var 3) (.cst (.int 5)))) .nil))) (.cons (.ret (.idx (.lst (.cons (.bin .add (.var 1) (.cst (.int 1))) (.cons (.bin .sub (.var 1) (.cst (.int 1))) (.cons (.neg (.var 1)) (.cons (.cmp .eq (.var 1) (.cst (.int 1))) (.cons (.blt .str (.var 1)) .nil)))))) (.var 3))) .nil) .nil) (.cons (.ret (.var 4)) .nil))))))
theorem b19_eq : b_23 = .cons (.ifs (.bool true (.cons (.val (.isa (.var 1) .tuple)) (.cons (.val (.cmp .gt (.blt .len (.var 1)) (.cst (.int 0)))) (.cons (.val (.cmp .gt (.call 11 (.cons (.var 0) (.cons (.cst (.int 5)) .nil))) (.cst (.int 0)))) .nil)))) (.cons (.asg 2 (.call 11 (.cons (.var 0) (.cons (.blt .len (.var 1)) .nil)))) (.cons (.ret (.bin .add (.bin .add (.slc (.var 1) .no (.so (.var 2))) (.tup (.cons (.call 23 (.cons (.var 0) (.cons (.idx (.var 1) (.var 2)) .nil))) .nil))) (.slc (.var 1) (.so (.bin .add (.var 2) (.cst (.int 1)))) .no))) .nil)) .nil) t19 := rfl
/-- a bent thing -/
def Bent (c : Nat) (x d : D) : Prop := gd (c + 1) d = true ∧ wt d ≤ 3 * wt x + 216 ∧ dp d ≤ dp x + 3 ∧ tl d ≤ max (tl x + 1) 4
theorem bent_tup {c : Nat} {xs ys : List D} {x : D} (hx : x = .tup xs ∨ x = .lst xs) (hg : ∀ d ∈ ys, gd (c + 1) d = true ∧ dp d ≤ max (dps xs) 3) (hw : wts ys ≤ 3 * wts xs + 216) (hl : ys.length ≤ max (tl x + 1) 4) : Bent c x (.tup ys) := by
  have h3 : dps ys ≤ max (dps xs) 3 := dps_le.mpr fun d hd => (hg d hd).2
  have e : wt x = wts xs ∧ dp x = dps xs + 1 := by rcases hx with e | e <;> subst e <;> exact ⟨rfl, rfl⟩
  refine ⟨?_, ?_, ?_, hl⟩
  · show gds (c + 1) ys = true
    exact gds_all.mpr fun d hd => (hg d hd).1
  · rw [e.1]; exact hw
  · rw [e.2]
    show dps ys + 1 ≤ _
    omega
theorem bent_strange {c : Nat} {x s : D} (h1 : gd 0 s = true) (h2 : wt s ≤ 215) (h3 : dp s ≤ 3 ∧ tl s ≤ 4) : Bent c x s := ⟨gd_mono (by omega) _ h1, by omega, by omega, by omega⟩
theorem bent_tail {m c : Nat} (hm : 3 ≤ m) {x : D} (hx : gd c x = true) (hw : wt x ≤ 100000) (hc : c ≤ 1000) {S : Sto} (h : FS S) : ∃ d S', evSs (Tb m) t19 [.val (.loc 1), .val x, .non, .non, .non] S = some (.rt d S') ∧ FS S' ∧ Bent c x d := by
  obtain ⟨r, S1, e1, hS1, r0, r7⟩ := draw_at (m := m) (by omega) h (b := 7) (by decide) (by decide)
  obtain ⟨s, S2, e2, hS2, s1, s2, s3⟩ := strange_at (m := m) hm hS1
  have e3 := @num_at m c (by omega) x hx
  cases x with
  | loc _ => unfold gd at hx; cases hx
  | fn _ => unfold gd at hx; cases hx
  | non => 
    refine ⟨s, S2, ?_, hS2, bent_strange s1 s2 s3⟩
    unfold t19
    simp [evE_cst, evE_var, evE_pk, evE_fn, evE_gc, evE_tup, evE_lst, evE_bin, evE_cat, evE_neg, evE_cmp, evE_cmp2, evE_isN, evE_isB, evE_bool, evE_not, evE_ite, evE_idx, evE_slc, evE_rev, evE_call, evE_callK, evE_blt, evE_sset, evE_said, evE_isa, evE_cnt, evE_isaC, evE_fld, evE_dget, evE_dct, evBs_nil, evBs_cons, evT_val, evT_bool, evT_not, evB_nil, evB_cons, evTs_nil, evTs_cons, evEs_nil, evEs_cons, evO_no, evO_so, evI_ex, evI_enum, evS_asg, evS_asgO, evS_unp, evS_expr, evS_ifs, evS_ret, evS_retN, evS_retO, evS_whl, evS_app, evS_ext, evS_seti, evS_dput, evS_raise, evS_frz, evS_pass, evS_brk, evS_cont, evSs_nil, evSs_cons, evE_comp, evS_for, e1, e2, e3, mkT_ok, isaD, numB]
  | bl b => 
    refine ⟨s, S2, ?_, hS2, bent_strange s1 s2 s3⟩
    unfold t19
    simp [evE_cst, evE_var, evE_pk, evE_fn, evE_gc, evE_tup, evE_lst, evE_bin, evE_cat, evE_neg, evE_cmp, evE_cmp2, evE_isN, evE_isB, evE_bool, evE_not, evE_ite, evE_idx, evE_slc, evE_rev, evE_call, evE_callK, evE_blt, evE_sset, evE_said, evE_isa, evE_cnt, evE_isaC, evE_fld, evE_dget, evE_dct, evBs_nil, evBs_cons, evT_val, evT_bool, evT_not, evB_nil, evB_cons, evTs_nil, evTs_cons, evEs_nil, evEs_cons, evO_no, evO_so, evI_ex, evI_enum, evS_asg, evS_asgO, evS_unp, evS_expr, evS_ifs, evS_ret, evS_retN, evS_retO, evS_whl, evS_app, evS_ext, evS_seti, evS_dput, evS_raise, evS_frz, evS_pass, evS_brk, evS_cont, evSs_nil, evSs_cons, evE_comp, evS_for, e1, e2, e3, mkT_ok, isaD, numB]
  | lst xs => 
    refine ⟨s, S2, ?_, hS2, bent_strange s1 s2 s3⟩
    unfold t19
    simp [evE_cst, evE_var, evE_pk, evE_fn, evE_gc, evE_tup, evE_lst, evE_bin, evE_cat, evE_neg, evE_cmp, evE_cmp2, evE_isN, evE_isB, evE_bool, evE_not, evE_ite, evE_idx, evE_slc, evE_rev, evE_call, evE_callK, evE_blt, evE_sset, evE_said, evE_isa, evE_cnt, evE_isaC, evE_fld, evE_dget, evE_dct, evBs_nil, evBs_cons, evT_val, evT_bool, evT_not, evB_nil, evB_cons, evTs_nil, evTs_cons, evEs_nil, evEs_cons, evO_no, evO_so, evI_ex, evI_enum, evS_asg, evS_asgO, evS_unp, evS_expr, evS_ifs, evS_ret, evS_retN, evS_retO, evS_whl, evS_app, evS_ext, evS_seti, evS_dput, evS_raise, evS_frz, evS_pass, evS_brk, evS_cont, evSs_nil, evSs_cons, evE_comp, evS_for, e1, e2, e3, mkT_ok, isaD, numB]
  | int i =>
    have hi : i.natAbs ≤ 100000000000000000000000000000000000000000000000000000000000 + c := by unfold gd at hx; exact of_decide_eq_true hx
    by_cases h5 : r < 5
    · by_cases h0 : 0 ≤ i
      · have e2' : i.natAbs < 10 ^ 60 := Nat.lt_of_le_of_lt hi (by have : (10 : Nat) ^ 60 = 1000000000000000000000000000000000000000000000000000000000000 := by decide
                                                                   omega)
        have e3' : i.natAbs.log2 < 1920 := by
          by_cases hz : i.natAbs = 0
          · rw [hz]; decide
          · rw [Nat.log2_lt hz]
            exact Nat.lt_of_lt_of_le e2' (by decide +kernel)
        have e4 : bltD .str (.int i) = some (.str (toString i)) := by
          show (if i.natAbs.log2 < 1920 then _ else _) = _
          rw [if_pos e3']
        have big : ∀ j : Int, (j.natAbs ≤ i.natAbs + 1) → Bent c (.int i) (.int j) := fun j hj => by
          refine ⟨by unfold gd; exact decide_eq_true (by omega), ?_, Nat.zero_le _, Nat.zero_le _⟩
          show (if j.natAbs ≤ 16 then 5 else 210) ≤ _
          split <;> omega
        have five : r = 0 ∨ r = 1 ∨ r = 2 ∨ r = 3 ∨ r = 4 := by omega
        rcases five with e | e | e | e | e <;> subst e
        · refine ⟨.int (i + 1), S2, ?_, hS2, big _ (by omega)⟩
          unfold t19
          simp [evE_cst, evE_var, evE_pk, evE_fn, evE_gc, evE_tup, evE_lst, evE_bin, evE_cat, evE_neg, evE_cmp, evE_cmp2, evE_isN, evE_isB, evE_bool, evE_not, evE_ite, evE_idx, evE_slc, evE_rev, evE_call, evE_callK, evE_blt, evE_sset, evE_said, evE_isa, evE_cnt, evE_isaC, evE_fld, evE_dget, evE_dct, evBs_nil, evBs_cons, evT_val, evT_bool, evT_not, evB_nil, evB_cons, evTs_nil, evTs_cons, evEs_nil, evEs_cons, evO_no, evO_so, evI_ex, evI_enum, evS_asg, evS_asgO, evS_unp, evS_expr, evS_ifs, evS_ret, evS_retN, evS_retO, evS_whl, evS_app, evS_ext, evS_seti, evS_dput, evS_raise, evS_frz, evS_pass, evS_brk, evS_cont, evSs_nil, evSs_cons, evE_comp, evS_for, e1, e2, e3, mkT_ok, mkL_ok, isaD, numB, h0, e4, atD, L2.atI, L2.ixN]
        · refine ⟨.int (i - 1), S2, ?_, hS2, big _ (by omega)⟩
          unfold t19
          simp [evE_cst, evE_var, evE_pk, evE_fn, evE_gc, evE_tup, evE_lst, evE_bin, evE_cat, evE_neg, evE_cmp, evE_cmp2, evE_isN, evE_isB, evE_bool, evE_not, evE_ite, evE_idx, evE_slc, evE_rev, evE_call, evE_callK, evE_blt, evE_sset, evE_said, evE_isa, evE_cnt, evE_isaC, evE_fld, evE_dget, evE_dct, evBs_nil, evBs_cons, evT_val, evT_bool, evT_not, evB_nil, evB_cons, evTs_nil, evTs_cons, evEs_nil, evEs_cons, evO_no, evO_so, evI_ex, evI_enum, evS_asg, evS_asgO, evS_unp, evS_expr, evS_ifs, evS_ret, evS_retN, evS_retO, evS_whl, evS_app, evS_ext, evS_seti, evS_dput, evS_raise, evS_frz, evS_pass, evS_brk, evS_cont, evSs_nil, evSs_cons, evE_comp, evS_for, e1, e2, e3, mkT_ok, mkL_ok, isaD, numB, h0, e4, atD, L2.atI, L2.ixN]
        · refine ⟨.int (-i), S2, ?_, hS2, big _ (by omega)⟩
          unfold t19
          simp [evE_cst, evE_var, evE_pk, evE_fn, evE_gc, evE_tup, evE_lst, evE_bin, evE_cat, evE_neg, evE_cmp, evE_cmp2, evE_isN, evE_isB, evE_bool, evE_not, evE_ite, evE_idx, evE_slc, evE_rev, evE_call, evE_callK, evE_blt, evE_sset, evE_said, evE_isa, evE_cnt, evE_isaC, evE_fld, evE_dget, evE_dct, evBs_nil, evBs_cons, evT_val, evT_bool, evT_not, evB_nil, evB_cons, evTs_nil, evTs_cons, evEs_nil, evEs_cons, evO_no, evO_so, evI_ex, evI_enum, evS_asg, evS_asgO, evS_unp, evS_expr, evS_ifs, evS_ret, evS_retN, evS_retO, evS_whl, evS_app, evS_ext, evS_seti, evS_dput, evS_raise, evS_frz, evS_pass, evS_brk, evS_cont, evSs_nil, evSs_cons, evE_comp, evS_for, e1, e2, e3, mkT_ok, mkL_ok, isaD, numB, h0, e4, atD, L2.atI, L2.ixN]
        · refine ⟨.bl (decide (i = 1)), S2, ?_, hS2, rfl, by show 0 ≤ _; omega, Nat.zero_le _, Nat.zero_le _⟩
          unfold t19
          simp [evE_cst, evE_var, evE_pk, evE_fn, evE_gc, evE_tup, evE_lst, evE_bin, evE_cat, evE_neg, evE_cmp, evE_cmp2, evE_isN, evE_isB, evE_bool, evE_not, evE_ite, evE_idx, evE_slc, evE_rev, evE_call, evE_callK, evE_blt, evE_sset, evE_said, evE_isa, evE_cnt, evE_isaC, evE_fld, evE_dget, evE_dct, evBs_nil, evBs_cons, evT_val, evT_bool, evT_not, evB_nil, evB_cons, evTs_nil, evTs_cons, evEs_nil, evEs_cons, evO_no, evO_so, evI_ex, evI_enum, evS_asg, evS_asgO, evS_unp, evS_expr, evS_ifs, evS_ret, evS_retN, evS_retO, evS_whl, evS_app, evS_ext, evS_seti, evS_dput, evS_raise, evS_frz, evS_pass, evS_brk, evS_cont, evSs_nil, evSs_cons, evE_comp, evS_for, e1, e2, e3, mkT_ok, mkL_ok, isaD, numB, h0, e4, atD, L2.atI, L2.ixN]
        · refine ⟨.str (toString i), S2, ?_, hS2, gd_toString _, ?_, Nat.zero_le _, Nat.zero_le _⟩
          · unfold t19
            simp [evE_cst, evE_var, evE_pk, evE_fn, evE_gc, evE_tup, evE_lst, evE_bin, evE_cat, evE_neg, evE_cmp, evE_cmp2, evE_isN, evE_isB, evE_bool, evE_not, evE_ite, evE_idx, evE_slc, evE_rev, evE_call, evE_callK, evE_blt, evE_sset, evE_said, evE_isa, evE_cnt, evE_isaC, evE_fld, evE_dget, evE_dct, evBs_nil, evBs_cons, evT_val, evT_bool, evT_not, evB_nil, evB_cons, evTs_nil, evTs_cons, evEs_nil, evEs_cons, evO_no, evO_so, evI_ex, evI_enum, evS_asg, evS_asgO, evS_unp, evS_expr, evS_ifs, evS_ret, evS_retN, evS_retO, evS_whl, evS_app, evS_ext, evS_seti, evS_dput, evS_raise, evS_frz, evS_pass, evS_brk, evS_cont, evSs_nil, evSs_cons, evE_comp, evS_for, e1, e2, e3, mkT_ok, mkL_ok, isaD, numB, h0, e4, atD, L2.atI, L2.ixN]
          · show (Str.ofString (toString i)).length ≤ _
            rw [ofString_length]
            have := int_text_length_le10 (k := 60) (by decide) e2'
            omega
      · refine ⟨s, S2, ?_, hS2, bent_strange s1 s2 s3⟩
        unfold t19
        simp [evE_cst, evE_var, evE_pk, evE_fn, evE_gc, evE_tup, evE_lst, evE_bin, evE_cat, evE_neg, evE_cmp, evE_cmp2, evE_isN, evE_isB, evE_bool, evE_not, evE_ite, evE_idx, evE_slc, evE_rev, evE_call, evE_callK, evE_blt, evE_sset, evE_said, evE_isa, evE_cnt, evE_isaC, evE_fld, evE_dget, evE_dct, evBs_nil, evBs_cons, evT_val, evT_bool, evT_not, evB_nil, evB_cons, evTs_nil, evTs_cons, evEs_nil, evEs_cons, evO_no, evO_so, evI_ex, evI_enum, evS_asg, evS_asgO, evS_unp, evS_expr, evS_ifs, evS_ret, evS_retN, evS_retO, evS_whl, evS_app, evS_ext, evS_seti, evS_dput, evS_raise, evS_frz, evS_pass, evS_brk, evS_cont, evSs_nil, evSs_cons, evE_comp, evS_for, e1, e2, e3, mkT_ok, isaD, numB, h0]
    · refine ⟨s, S2, ?_, hS2, bent_strange s1 s2 s3⟩
      unfold t19
      by_cases h0 : 0 ≤ i
      · simp [evE_cst, evE_var, evE_pk, evE_fn, evE_gc, evE_tup, evE_lst, evE_bin, evE_cat, evE_neg, evE_cmp, evE_cmp2, evE_isN, evE_isB, evE_bool, evE_not, evE_ite, evE_idx, evE_slc, evE_rev, evE_call, evE_callK, evE_blt, evE_sset, evE_said, evE_isa, evE_cnt, evE_isaC, evE_fld, evE_dget, evE_dct, evBs_nil, evBs_cons, evT_val, evT_bool, evT_not, evB_nil, evB_cons, evTs_nil, evTs_cons, evEs_nil, evEs_cons, evO_no, evO_so, evI_ex, evI_enum, evS_asg, evS_asgO, evS_unp, evS_expr, evS_ifs, evS_ret, evS_retN, evS_retO, evS_whl, evS_app, evS_ext, evS_seti, evS_dput, evS_raise, evS_frz, evS_pass, evS_brk, evS_cont, evSs_nil, evSs_cons, evE_comp, evS_for, e1, e2, e3, mkT_ok, isaD, numB, h0, h5]
      · simp [evE_cst, evE_var, evE_pk, evE_fn, evE_gc, evE_tup, evE_lst, evE_bin, evE_cat, evE_neg, evE_cmp, evE_cmp2, evE_isN, evE_isB, evE_bool, evE_not, evE_ite, evE_idx, evE_slc, evE_rev, evE_call, evE_callK, evE_blt, evE_sset, evE_said, evE_isa, evE_cnt, evE_isaC, evE_fld, evE_dget, evE_dct, evBs_nil, evBs_cons, evT_val, evT_bool, evT_not, evB_nil, evB_cons, evTs_nil, evTs_cons, evEs_nil, evEs_cons, evO_no, evO_so, evI_ex, evI_enum, evS_asg, evS_asgO, evS_unp, evS_expr, evS_ifs, evS_ret, evS_retN, evS_retO, evS_whl, evS_app, evS_ext, evS_seti, evS_dput, evS_raise, evS_frz, evS_pass, evS_brk, evS_cont, evSs_nil, evSs_cons, evE_comp, evS_for, e1, e2, e3, mkT_ok, isaD, numB, h0, h5]
  | str x =>
    have gx := gd_str.mp hx
    have lx : x.length ≤ 100000 := hw
    by_cases h3 : r < 3
    · obtain ⟨k, S3, e4, hS3, k0, k1⟩ := draw_at (m := m) (by omega) hS2 (b := (x.length : Int) + 1) (by omega) (by omega)
      obtain ⟨p, S4, e5, hS4, hp⟩ := pick_at (m := m) (by omega) hS3 (xs := [.str "a", .str "A", .str "", .str " ", .str "z", .str "0"]) (by simp) (by simp)
      obtain ⟨y, rfl, ly, gy⟩ : ∃ y : Str, p = .str y ∧ y.length ≤ 1 ∧ ∀ z ∈ y.cps.toList, z < 1114112 := by
        simp only [List.mem_cons, List.not_mem_nil, or_false] at hp
        rcases hp with q | q | q | q | q | q <;> exact ⟨_, q, by decide +kernel, by decide +kernel⟩
      have l1 := cutS_length x none (some k)
      have l2 := cutS_length x (some (k + if 1 < r then 1 else 0)) none
      have g1 : ∀ z ∈ (cutS x none (some k)).cps.toList, z < 1114112 := cutS_good gx
      have g2 : ∀ z ∈ (cutS x (some (k + if 1 < r then 1 else 0)) none).cps.toList, z < 1114112 := cutS_good gx
      have w1 : (cutS x none (some k)).length + y.length ≤ 16777216 := by omega
      have w2 : (cutS x none (some k) ++ y).length + (cutS x (some (k + if 1 < r then 1 else 0)) none).length ≤ 16777216 := by rw [app_len]; omega
      have w0 : x.length ≤ 16777216 := by omega
      refine ⟨.str (cutS x none (some k) ++ y ++ cutS x (some (k + if 1 < r then 1 else 0)) none), S4, ?_, hS4, gd_str.mpr (app_good (app_good g1 gy) g2), ?_, Nat.zero_le _, Nat.zero_le _⟩
      · unfold t19
        simp [evE_cst, evE_var, evE_pk, evE_fn, evE_gc, evE_tup, evE_lst, evE_bin, evE_cat, evE_neg, evE_cmp, evE_cmp2, evE_isN, evE_isB, evE_bool, evE_not, evE_ite, evE_idx, evE_slc, evE_rev, evE_call, evE_callK, evE_blt, evE_sset, evE_said, evE_isa, evE_cnt, evE_isaC, evE_fld, evE_dget, evE_dct, evBs_nil, evBs_cons, evT_val, evT_bool, evT_not, evB_nil, evB_cons, evTs_nil, evTs_cons, evEs_nil, evEs_cons, evO_no, evO_so, evI_ex, evI_enum, evS_asg, evS_asgO, evS_unp, evS_expr, evS_ifs, evS_ret, evS_retN, evS_retO, evS_whl, evS_app, evS_ext, evS_seti, evS_dput, evS_raise, evS_frz, evS_pass, evS_brk, evS_cont, evSs_nil, evSs_cons, evE_comp, evS_for, e1, e2, e3, e4, e5, mkT_ok, mkL_ok, isaD, numB, h3, w0, w1, w2]
      · show (cutS x none (some k) ++ y ++ cutS x (some (k + if 1 < r then 1 else 0)) none).length ≤ 3 * x.length + 216
        rw [app_len, app_len]; omega
    · by_cases h6 : r < 6
      · obtain ⟨p, S4, e5, hS4, hp⟩ := pick_at (m := m) (by omega) hS2 (xs := [.str "gone", .str "read", .str "turned", .str "maker", .str "picture", .str "made"]) (by simp) (by simp)
        obtain ⟨y, rfl, ly, gy⟩ : ∃ y : Str, p = .str y ∧ y.length ≤ 7 ∧ ∀ z ∈ y.cps.toList, z < 1114112 := by
          simp only [List.mem_cons, List.not_mem_nil, or_false] at hp
          rcases hp with q | q | q | q | q | q <;> exact ⟨_, q, by decide +kernel, by decide +kernel⟩
        refine ⟨.str y, S4, ?_, hS4, gd_str.mpr gy, by show y.length ≤ _; omega, Nat.zero_le _, Nat.zero_le _⟩
        unfold t19
        simp [evE_cst, evE_var, evE_pk, evE_fn, evE_gc, evE_tup, evE_lst, evE_bin, evE_cat, evE_neg, evE_cmp, evE_cmp2, evE_isN, evE_isB, evE_bool, evE_not, evE_ite, evE_idx, evE_slc, evE_rev, evE_call, evE_callK, evE_blt, evE_sset, evE_said, evE_isa, evE_cnt, evE_isaC, evE_fld, evE_dget, evE_dct, evBs_nil, evBs_cons, evT_val, evT_bool, evT_not, evB_nil, evB_cons, evTs_nil, evTs_cons, evEs_nil, evEs_cons, evO_no, evO_so, evI_ex, evI_enum, evS_asg, evS_asgO, evS_unp, evS_expr, evS_ifs, evS_ret, evS_retN, evS_retO, evS_whl, evS_app, evS_ext, evS_seti, evS_dput, evS_raise, evS_frz, evS_pass, evS_brk, evS_cont, evSs_nil, evSs_cons, evE_comp, evS_for, e1, e2, e3, e5, mkT_ok, mkL_ok, isaD, numB, h3, h6]
      · refine ⟨s, S2, ?_, hS2, bent_strange s1 s2 s3⟩
        unfold t19
        simp [evE_cst, evE_var, evE_pk, evE_fn, evE_gc, evE_tup, evE_lst, evE_bin, evE_cat, evE_neg, evE_cmp, evE_cmp2, evE_isN, evE_isB, evE_bool, evE_not, evE_ite, evE_idx, evE_slc, evE_rev, evE_call, evE_callK, evE_blt, evE_sset, evE_said, evE_isa, evE_cnt, evE_isaC, evE_fld, evE_dget, evE_dct, evBs_nil, evBs_cons, evT_val, evT_bool, evT_not, evB_nil, evB_cons, evTs_nil, evTs_cons, evEs_nil, evEs_cons, evO_no, evO_so, evI_ex, evI_enum, evS_asg, evS_asgO, evS_unp, evS_expr, evS_ifs, evS_ret, evS_retN, evS_retO, evS_whl, evS_app, evS_ext, evS_seti, evS_dput, evS_raise, evS_frz, evS_pass, evS_brk, evS_cont, evSs_nil, evSs_cons, evE_comp, evS_for, e1, e2, e3, mkT_ok, isaD, numB, h3, h6]
  | tup xs =>
    have lw : wts xs ≤ 100000 := hw
    have lx := len_wts xs
    have hg : ∀ d ∈ xs, gd (c + 1) d = true ∧ dp d ≤ max (dps xs) 3 := fun d hd => ⟨gd_mono (by omega) _ (gds_all.mp (show gds c xs = true from hx) d hd), by have := dps_le.mp (Nat.le_refl (dps xs)) d hd; omega⟩
    by_cases h6 : r < 6
    · obtain ⟨k, S3, e4, hS3, k0, k1⟩ := draw_at (m := m) (by omega) hS2 (b := (xs.length : Int) + 1) (by omega) (by omega)
      have c1 := wts_cut xs none (some k)
      have c2 := wts_cut xs (some (k + 1)) none
      have c3 := wts_cut xs (some k) (some (k + 1))
      have c4 := wts_cut xs (some k) none
      have n1 := len_wts (cutG xs none (some k))
      have n2 := len_wts (cutG xs (some (k + 1)) none)
      have n3 := len_wts (cutG xs (some k) (some (k + 1)))
      have n4 := len_wts (cutG xs (some k) none)
      obtain ⟨z1, z2, z3, z4⟩ := cut3 xs k0 (by omega)
      have six : r = 0 ∨ r = 1 ∨ r = 2 ∨ (3 ≤ r ∧ r < 5) ∨ r = 5 := by omega
      rcases six with e | e | e | e | e
      · subst e
        refine ⟨.lst xs, S3, ?_, hS3, gds_all.mpr fun d hd => (hg d hd).1, by show wts xs ≤ 3 * wts xs + 216; omega, by show dps xs + 1 ≤ dps xs + 1 + 3; omega, Nat.zero_le _⟩
        unfold t19
        simp [evE_cst, evE_var, evE_pk, evE_fn, evE_gc, evE_tup, evE_lst, evE_bin, evE_cat, evE_neg, evE_cmp, evE_cmp2, evE_isN, evE_isB, evE_bool, evE_not, evE_ite, evE_idx, evE_slc, evE_rev, evE_call, evE_callK, evE_blt, evE_sset, evE_said, evE_isa, evE_cnt, evE_isaC, evE_fld, evE_dget, evE_dct, evBs_nil, evBs_cons, evT_val, evT_bool, evT_not, evB_nil, evB_cons, evTs_nil, evTs_cons, evEs_nil, evEs_cons, evO_no, evO_so, evI_ex, evI_enum, evS_asg, evS_asgO, evS_unp, evS_expr, evS_ifs, evS_ret, evS_retN, evS_retO, evS_whl, evS_app, evS_ext, evS_seti, evS_dput, evS_raise, evS_frz, evS_pass, evS_brk, evS_cont, evSs_nil, evSs_cons, evE_comp, evS_for, e1, e2, e3, e4, mkT_ok, isaD, numB, mkL_ok (show xs.length ≤ 16777216 by omega)]
      · subst e
        refine ⟨.tup (cutG xs none (some k) ++ cutG xs (some (k + 1)) none), S3, ?_, hS3, bent_tup (.inl rfl) (fun d hd => ?_) (by rw [wts_app]; omega) (by show _ ≤ max (xs.length + 1) 4; rw [List.length_append]; omega)⟩
        · unfold t19
          simp [evE_cst, evE_var, evE_pk, evE_fn, evE_gc, evE_tup, evE_lst, evE_bin, evE_cat, evE_neg, evE_cmp, evE_cmp2, evE_isN, evE_isB, evE_bool, evE_not, evE_ite, evE_idx, evE_slc, evE_rev, evE_call, evE_callK, evE_blt, evE_sset, evE_said, evE_isa, evE_cnt, evE_isaC, evE_fld, evE_dget, evE_dct, evBs_nil, evBs_cons, evT_val, evT_bool, evT_not, evB_nil, evB_cons, evTs_nil, evTs_cons, evEs_nil, evEs_cons, evO_no, evO_so, evI_ex, evI_enum, evS_asg, evS_asgO, evS_unp, evS_expr, evS_ifs, evS_ret, evS_retN, evS_retO, evS_whl, evS_app, evS_ext, evS_seti, evS_dput, evS_raise, evS_frz, evS_pass, evS_brk, evS_cont, evSs_nil, evSs_cons, evE_comp, evS_for, e1, e2, e3, e4, mkT_ok, isaD, numB, mkT_ok (show (cutG xs none (some k) ++ cutG xs (some (k + 1)) none).length ≤ 16777216 by rw [List.length_append]; omega)]
        · rcases List.mem_append.mp hd with q | q <;> exact hg d (cut_mem q)
      · subst e
        refine ⟨.tup (cutG xs none (some k) ++ cutG xs (some k) (some (k + 1)) ++ cutG xs (some k) none), S3, ?_, hS3, bent_tup (.inl rfl) (fun d hd => ?_) (by rw [wts_app, wts_app]; omega) (by show _ ≤ max (xs.length + 1) 4; rw [List.length_append, List.length_append]; omega)⟩
        · unfold t19
          have w1 : mkT (cutG xs none (some k) ++ cutG xs (some k) (some (k + 1))) = some (.tup (cutG xs none (some k) ++ cutG xs (some k) (some (k + 1)))) := mkT_ok (by rw [List.length_append]; omega)
          have w2 : mkT (cutG xs none (some k) ++ cutG xs (some k) (some (k + 1)) ++ cutG xs (some k) none) = some (.tup (cutG xs none (some k) ++ cutG xs (some k) (some (k + 1)) ++ cutG xs (some k) none)) := mkT_ok (by rw [List.length_append, List.length_append]; omega)
          simp only [List.append_assoc] at w2 ⊢
          simp [evE_cst, evE_var, evE_pk, evE_fn, evE_gc, evE_tup, evE_lst, evE_bin, evE_cat, evE_neg, evE_cmp, evE_cmp2, evE_isN, evE_isB, evE_bool, evE_not, evE_ite, evE_idx, evE_slc, evE_rev, evE_call, evE_callK, evE_blt, evE_sset, evE_said, evE_isa, evE_cnt, evE_isaC, evE_fld, evE_dget, evE_dct, evBs_nil, evBs_cons, evT_val, evT_bool, evT_not, evB_nil, evB_cons, evTs_nil, evTs_cons, evEs_nil, evEs_cons, evO_no, evO_so, evI_ex, evI_enum, evS_asg, evS_asgO, evS_unp, evS_expr, evS_ifs, evS_ret, evS_retN, evS_retO, evS_whl, evS_app, evS_ext, evS_seti, evS_dput, evS_raise, evS_frz, evS_pass, evS_brk, evS_cont, evSs_nil, evSs_cons, evE_comp, evS_for, e1, e2, e3, e4, mkT_ok, isaD, numB, w1, w2]
        · rcases List.mem_append.mp hd with q | q
          · rcases List.mem_append.mp q with q | q <;> exact hg d (cut_mem q)
          · exact hg d (cut_mem q)
      · refine ⟨.tup (cutG xs none (some k) ++ [s] ++ cutG xs (some k) none), S3, ?_, hS3, bent_tup (.inl rfl) (fun d hd => ?_) ?_ (by show _ ≤ max (xs.length + 1) 4; rw [List.length_append, List.length_append, List.length_singleton]; omega)⟩
        · unfold t19
          have w1 : mkT (cutG xs none (some k) ++ [s]) = some (.tup (cutG xs none (some k) ++ [s])) := mkT_ok (by rw [List.length_append, List.length_singleton]; omega)
          have w2 : mkT (cutG xs none (some k) ++ [s] ++ cutG xs (some k) none) = some (.tup (cutG xs none (some k) ++ [s] ++ cutG xs (some k) none)) := mkT_ok (by rw [List.length_append, List.length_append, List.length_singleton]; omega)
          have r1 : ¬ r = 0 := by omega
          have r2 : ¬ r = 1 := by omega
          have r3 : ¬ r = 2 := by omega
          simp only [List.append_assoc, List.cons_append, List.nil_append] at w2 ⊢
          simp [evE_cst, evE_var, evE_pk, evE_fn, evE_gc, evE_tup, evE_lst, evE_bin, evE_cat, evE_neg, evE_cmp, evE_cmp2, evE_isN, evE_isB, evE_bool, evE_not, evE_ite, evE_idx, evE_slc, evE_rev, evE_call, evE_callK, evE_blt, evE_sset, evE_said, evE_isa, evE_cnt, evE_isaC, evE_fld, evE_dget, evE_dct, evBs_nil, evBs_cons, evT_val, evT_bool, evT_not, evB_nil, evB_cons, evTs_nil, evTs_cons, evEs_nil, evEs_cons, evO_no, evO_so, evI_ex, evI_enum, evS_asg, evS_asgO, evS_unp, evS_expr, evS_ifs, evS_ret, evS_retN, evS_retO, evS_whl, evS_app, evS_ext, evS_seti, evS_dput, evS_raise, evS_frz, evS_pass, evS_brk, evS_cont, evSs_nil, evSs_cons, evE_comp, evS_for, e1, e2, e3, e4, mkT_ok, isaD, numB, w1, w2, h6, e.2, r1, r2, r3]
        · rcases List.mem_append.mp hd with q | q
          · rcases List.mem_append.mp q with q | q
            · exact hg d (cut_mem q)
            · rw [List.mem_singleton.mp q]; exact ⟨gd_mono (by omega) _ s1, by omega⟩
          · exact hg d (cut_mem q)
        · rw [wts_app, wts_app]
          show _ + (wt s + 1 + 0) + _ ≤ _
          omega
      · subst e
        refine ⟨.tup xs.reverse, S3, ?_, hS3, bent_tup (.inl rfl) (fun d hd => hg d (List.mem_reverse.mp hd)) (by rw [wts_rev]; omega) (by show _ ≤ max (xs.length + 1) 4; rw [List.length_reverse]; omega)⟩
        unfold t19
        simp [evE_cst, evE_var, evE_pk, evE_fn, evE_gc, evE_tup, evE_lst, evE_bin, evE_cat, evE_neg, evE_cmp, evE_cmp2, evE_isN, evE_isB, evE_bool, evE_not, evE_ite, evE_idx, evE_slc, evE_rev, evE_call, evE_callK, evE_blt, evE_sset, evE_said, evE_isa, evE_cnt, evE_isaC, evE_fld, evE_dget, evE_dct, evBs_nil, evBs_cons, evT_val, evT_bool, evT_not, evB_nil, evB_cons, evTs_nil, evTs_cons, evEs_nil, evEs_cons, evO_no, evO_so, evI_ex, evI_enum, evS_asg, evS_asgO, evS_unp, evS_expr, evS_ifs, evS_ret, evS_retN, evS_retO, evS_whl, evS_app, evS_ext, evS_seti, evS_dput, evS_raise, evS_frz, evS_pass, evS_brk, evS_cont, evSs_nil, evSs_cons, evE_comp, evS_for, e1, e2, e3, e4, mkT_ok, isaD, numB]
    · refine ⟨s, S2, ?_, hS2, bent_strange s1 s2 s3⟩
      unfold t19
      simp [evE_cst, evE_var, evE_pk, evE_fn, evE_gc, evE_tup, evE_lst, evE_bin, evE_cat, evE_neg, evE_cmp, evE_cmp2, evE_isN, evE_isB, evE_bool, evE_not, evE_ite, evE_idx, evE_slc, evE_rev, evE_call, evE_callK, evE_blt, evE_sset, evE_said, evE_isa, evE_cnt, evE_isaC, evE_fld, evE_dget, evE_dct, evBs_nil, evBs_cons, evT_val, evT_bool, evT_not, evB_nil, evB_cons, evTs_nil, evTs_cons, evEs_nil, evEs_cons, evO_no, evO_so, evI_ex, evI_enum, evS_asg, evS_asgO, evS_unp, evS_expr, evS_ifs, evS_ret, evS_retN, evS_retO, evS_whl, evS_app, evS_ext, evS_seti, evS_dput, evS_raise, evS_frz, evS_pass, evS_brk, evS_cont, evSs_nil, evSs_cons, evE_comp, evS_for, e1, e2, e3, mkT_ok, isaD, numB, h6]
theorem bent_ok : ∀ (n m c : Nat) (x : D) (S : Sto), dp x ≤ n → n + 4 ≤ m → gd c x = true → wt x ≤ 100000 → c ≤ 1000 → FS S → ∃ d S', (Tb m).f 23 [.loc 1, x] S = some (.ok d S') ∧ FS S' ∧ Bent c x d := by
  intro n
  induction n with
  | zero => 
    intro m c x S hd hm hx hw hc h
    obtain ⟨k, rfl⟩ : ∃ k, m = k + 1 := ⟨m - 1, by omega⟩
    obtain ⟨d, S', e, hS, hB⟩ := bent_tail (m := k) (by omega) hx hw hc h
    refine ⟨d, S', ?_, hS, hB⟩
    rw [tab_f (p := (5, b_23)) rfl, runF_eq, b19_eq]
    cases x with
    | tup xs => have hd : dps xs + 1 ≤ 0 := hd; omega
    | loc _ => unfold gd at hx; cases hx
    | fn _ => unfold gd at hx; cases hx
    | _ => simp [evE_cst, evE_var, evE_pk, evE_fn, evE_gc, evE_tup, evE_lst, evE_bin, evE_cat, evE_neg, evE_cmp, evE_cmp2, evE_isN, evE_isB, evE_bool, evE_not, evE_ite, evE_idx, evE_slc, evE_rev, evE_call, evE_callK, evE_blt, evE_sset, evE_said, evE_isa, evE_cnt, evE_isaC, evE_fld, evE_dget, evE_dct, evBs_nil, evBs_cons, evT_val, evT_bool, evT_not, evB_nil, evB_cons, evTs_nil, evTs_cons, evEs_nil, evEs_cons, evO_no, evO_so, evI_ex, evI_enum, evS_asg, evS_asgO, evS_unp, evS_expr, evS_ifs, evS_ret, evS_retN, evS_retO, evS_whl, evS_app, evS_ext, evS_seti, evS_dput, evS_raise, evS_frz, evS_pass, evS_brk, evS_cont, evSs_nil, evSs_cons, evE_comp, evS_for, isaD, e]
  | succ n ih =>
    intro m c x S hd hm hx hw hc h
    obtain ⟨k, rfl⟩ : ∃ k, m = k + 1 := ⟨m - 1, by omega⟩
    cases x with
    | loc _ => unfold gd at hx; cases hx
    | fn _ => unfold gd at hx; cases hx
    | tup xs =>
      have lw : wts xs ≤ 100000 := hw
      have lx := len_wts xs
      by_cases h0 : xs = []
      · subst h0
        obtain ⟨d, S', e, hS, hB⟩ := bent_tail (m := k) (by omega) hx hw hc h
        refine ⟨d, S', ?_, hS, hB⟩
        rw [tab_f (p := (5, b_23)) rfl, runF_eq, b19_eq]
        simp [evE_cst, evE_var, evE_pk, evE_fn, evE_gc, evE_tup, evE_lst, evE_bin, evE_cat, evE_neg, evE_cmp, evE_cmp2, evE_isN, evE_isB, evE_bool, evE_not, evE_ite, evE_idx, evE_slc, evE_rev, evE_call, evE_callK, evE_blt, evE_sset, evE_said, evE_isa, evE_cnt, evE_isaC, evE_fld, evE_dget, evE_dct, evBs_nil, evBs_cons, evT_val, evT_bool, evT_not, evB_nil, evB_cons, evTs_nil, evTs_cons, evEs_nil, evEs_cons, evO_no, evO_so, evI_ex, evI_enum, evS_asg, evS_asgO, evS_unp, evS_expr, evS_ifs, evS_ret, evS_retN, evS_retO, evS_whl, evS_app, evS_ext, evS_seti, evS_dput, evS_raise, evS_frz, evS_pass, evS_brk, evS_cont, evSs_nil, evSs_cons, evE_comp, evS_for, isaD, e]
      · have hp : (0 : Int) < xs.length := by cases xs <;> first | (exact absurd rfl h0) | (simp only [List.length_cons]; omega)
        obtain ⟨r, S1, e1, hS1, r0, r7⟩ := draw_at (m := k) (by omega) h (b := 5) (by decide) (by decide)
        by_cases hr : 0 < r
        · obtain ⟨q, S2, e2, hS2, q0, q1⟩ := draw_at (m := k) (by omega) hS1 (b := xs.length) hp (by omega)
          obtain ⟨i, rfl⟩ := Int.eq_ofNat_of_zero_le q0
          have hi : i < xs.length := by omega
          have ei : atD xs (i : Int) = some xs[i] := by
            show L2.atI xs i = _
            rw [at_ok q0 q1, Int.toNat_natCast, List.getElem?_eq_getElem hi]
          have gx : gd c xs[i] = true := gds_all.mp (show gds c xs = true from hx) _ (List.getElem_mem hi)
          have dx : dp xs[i] ≤ dps xs := dps_le.mp (Nat.le_refl (dps xs)) _ (List.getElem_mem hi)
          have wx := wts_mem (List.getElem_mem hi)
          have hd : dps xs + 1 ≤ n + 1 := hd
          obtain ⟨d, S3, e3, hS3, hB⟩ := ih k c xs[i] S2 (by omega) (by omega) gx (by omega) hc hS2
          have t1 := wts_take i xs
          have t2 : wts (xs.drop i) = wt xs[i] + 1 + wts (xs.drop (i + 1)) := by
            rw [List.drop_eq_getElem_cons hi]; rfl
          have l1 : (xs.take i).length ≤ xs.length := by rw [List.length_take]; omega
          have l2 : (xs.drop (i + 1)).length ≤ xs.length := by rw [List.length_drop]; omega
          have w1 : mkT (xs.take i ++ [d]) = some (.tup (xs.take i ++ [d])) := mkT_ok (by rw [List.length_append, List.length_singleton]; omega)
          have w2 : mkT (xs.take i ++ [d] ++ xs.drop (i + 1)) = some (.tup (xs.take i ++ [d] ++ xs.drop (i + 1))) := mkT_ok (by rw [List.length_append, List.length_append, List.length_singleton]; omega)
          refine ⟨.tup (xs.take i ++ [d] ++ xs.drop (i + 1)), S3, ?_, hS3, ?_, ?_, ?_, by show (xs.take i ++ [d] ++ xs.drop (i + 1)).length ≤ max (xs.length + 1) 4; rw [List.length_append, List.length_append, List.length_singleton, List.length_take, List.length_drop]; omega⟩
          · rw [tab_f (p := (5, b_23)) rfl, runF_eq, b19_eq]
            have c1 := cut_to xs i
            have c2 := cut_from xs (i + 1)
            rw [show ((i + 1 : Nat) : Int) = (i : Int) + 1 from rfl] at c2
            simp only [List.append_assoc, List.cons_append, List.nil_append] at w2 ⊢
            have hne : ¬ ((xs.length : Int) = 0) := by omega
            have hpn : 0 < xs.length := by omega
            simp [evE_cst, evE_var, evE_pk, evE_fn, evE_gc, evE_tup, evE_lst, evE_bin, evE_cat, evE_neg, evE_cmp, evE_cmp2, evE_isN, evE_isB, evE_bool, evE_not, evE_ite, evE_idx, evE_slc, evE_rev, evE_call, evE_callK, evE_blt, evE_sset, evE_said, evE_isa, evE_cnt, evE_isaC, evE_fld, evE_dget, evE_dct, evBs_nil, evBs_cons, evT_val, evT_bool, evT_not, evB_nil, evB_cons, evTs_nil, evTs_cons, evEs_nil, evEs_cons, evO_no, evO_so, evI_ex, evI_enum, evS_asg, evS_asgO, evS_unp, evS_expr, evS_ifs, evS_ret, evS_retN, evS_retO, evS_whl, evS_app, evS_ext, evS_seti, evS_dput, evS_raise, evS_frz, evS_pass, evS_brk, evS_cont, evSs_nil, evSs_cons, evE_comp, evS_for, isaD, e1, e2, e3, hp, hpn, hr, ei, c1, c2, mkT_ok, w1, w2]
          · show gds (c + 1) _ = true
            refine gds_all.mpr fun z hz => ?_
            rcases List.mem_append.mp hz with q | q
            · rcases List.mem_append.mp q with q | q
              · exact gd_mono (by omega) _ (gds_all.mp (show gds c xs = true from hx) z (List.mem_of_mem_take q))
              · rw [List.mem_singleton.mp q]; exact hB.1
            · exact gd_mono (by omega) _ (gds_all.mp (show gds c xs = true from hx) z (List.mem_of_mem_drop q))
          · show wts _ ≤ 3 * wts xs + 216
            have := hB.2.1
            rw [wts_app, wts_app]
            show _ + (wt d + 1 + 0) + _ ≤ _
            omega
          · show dps _ + 1 ≤ dps xs + 1 + 3
            refine Nat.succ_le_succ (dps_le.mpr fun z hz => ?_)
            have all : ∀ y ∈ xs, dp y ≤ dps xs := dps_le.mp (Nat.le_refl (dps xs))
            rcases List.mem_append.mp hz with q | q
            · rcases List.mem_append.mp q with q | q
              · have := all z (List.mem_of_mem_take q); omega
              · rw [List.mem_singleton.mp q]; have := hB.2.2.1; omega
            · have := all z (List.mem_of_mem_drop q); omega
        · obtain ⟨d, S', e, hS, hB⟩ := bent_tail (m := k) (by omega) hx hw hc hS1
          refine ⟨d, S', ?_, hS, hB⟩
          rw [tab_f (p := (5, b_23)) rfl, runF_eq, b19_eq]
          have hpn : 0 < xs.length := by omega
          simp [evE_cst, evE_var, evE_pk, evE_fn, evE_gc, evE_tup, evE_lst, evE_bin, evE_cat, evE_neg, evE_cmp, evE_cmp2, evE_isN, evE_isB, evE_bool, evE_not, evE_ite, evE_idx, evE_slc, evE_rev, evE_call, evE_callK, evE_blt, evE_sset, evE_said, evE_isa, evE_cnt, evE_isaC, evE_fld, evE_dget, evE_dct, evBs_nil, evBs_cons, evT_val, evT_bool, evT_not, evB_nil, evB_cons, evTs_nil, evTs_cons, evEs_nil, evEs_cons, evO_no, evO_so, evI_ex, evI_enum, evS_asg, evS_asgO, evS_unp, evS_expr, evS_ifs, evS_ret, evS_retN, evS_retO, evS_whl, evS_app, evS_ext, evS_seti, evS_dput, evS_raise, evS_frz, evS_pass, evS_brk, evS_cont, evSs_nil, evSs_cons, evE_comp, evS_for, isaD, e1, e, hp, hpn, hr]
    | _ =>
      obtain ⟨d, S', e, hS, hB⟩ := bent_tail (m := k) (by omega) hx hw hc h
      refine ⟨d, S', ?_, hS, hB⟩
      rw [tab_f (p := (5, b_23)) rfl, runF_eq, b19_eq]
      simp [evE_cst, evE_var, evE_pk, evE_fn, evE_gc, evE_tup, evE_lst, evE_bin, evE_cat, evE_neg, evE_cmp, evE_cmp2, evE_isN, evE_isB, evE_bool, evE_not, evE_ite, evE_idx, evE_slc, evE_rev, evE_call, evE_callK, evE_blt, evE_sset, evE_said, evE_isa, evE_cnt, evE_isaC, evE_fld, evE_dget, evE_dct, evBs_nil, evBs_cons, evT_val, evT_bool, evT_not, evB_nil, evB_cons, evTs_nil, evTs_cons, evEs_nil, evEs_cons, evO_no, evO_so, evI_ex, evI_enum, evS_asg, evS_asgO, evS_unp, evS_expr, evS_ifs, evS_ret, evS_retN, evS_retO, evS_whl, evS_app, evS_ext, evS_seti, evS_dput, evS_raise, evS_frz, evS_pass, evS_brk, evS_cont, evSs_nil, evSs_cons, evE_comp, evS_for, isaD, e]
end T07
end

section
set_option linter.all false
set_option maxRecDepth 100000
set_option Elab.async false
set_option maxHeartbeats 8000000
namespace T07
open PySem L2 Mi
/-! ### needs, moments, clauses -/
def needB : D → Bool
  | .str x => decide (x ∈ needL)
  | _ => false
def momB : D → Bool
  | .str x => decide (x ∈ momL)
  | _ => false
def strsOf : List D → Option (List Str)
  | [] => some []
  | .str x :: r => (strsOf r).map (x :: ·)
  | _ => none
theorem strsOf_wrd : ∀ ts : List Str, strsOf (wrd ts) = some ts
  | [] => rfl
  | t :: ts => by
    have ih := strsOf_wrd ts
    show (strsOf (wrd ts)).map (t :: ·) = _
    rw [ih]; rfl
theorem strsOf_some : ∀ {ds : List D} {ts : List Str}, strsOf ds = some ts → ds = wrd ts
  | [], ts, h => by cases h; rfl
  | d :: ds, ts, h => by
    cases d with
    | str x =>
      have h : (strsOf ds).map (x :: ·) = some ts := h
      cases e : strsOf ds with
      | none => rw [e] at h; cases h
      | some us => 
        rw [e] at h
        cases h
        rw [strsOf_some e]; rfl
    | _ => cases h
theorem strsOf_none : ∀ {ds : List D}, strsOf ds = none → ∃ d ∈ ds, isaD .str d = false
  | [], h => by cases h
  | d :: ds, h => by
    cases d with
    | str x =>
      have h : (strsOf ds).map (x :: ·) = none := h
      cases e : strsOf ds with
      | none => 
        obtain ⟨z, hz, hb⟩ := strsOf_none e
        exact ⟨z, List.mem_cons_of_mem _ hz, hb⟩
      | some us => rw [e] at h; cases h
    | _ => exact ⟨_, List.mem_cons_self, rfl⟩
/-- those of the words that are there, in their order -/
def pickW (L ts : List Str) : List Str := L.filter fun x => ts.any (· == x)
def needsB : D → Bool
  | .tup ds => match strsOf ds with
    | some ts => decide (pickW needL ts = ts)
    | none => false
  | _ => false
def pairB : D → Bool
  | .tup [a, b] => momB a && needsB b
  | _ => false
def ltS (x y : Str) : Bool := decide (x.cps.toList < y.cps.toList)
def ascR : List Str → Bool
  | x :: y :: r => ltS x y && ascR (y :: r)
  | _ => true
theorem any_mem {ts : List Str} {x : Str} : ts.any (· == x) = true ↔ x ∈ ts := by
  rw [List.any_eq_true]
  exact ⟨fun ⟨y, hy, e⟩ => by rw [beq_iff_eq] at e; rw [← e]; exact hy, fun h => ⟨x, h, beq_self_eq_true x⟩⟩
theorem needL_lt : ∀ x ∈ needL, ∀ y ∈ needL, ∀ z ∈ needL, ltS x y = true → ltS y z = true → ltS x z = true := by decide +kernel
theorem needL_irr : ∀ x ∈ needL, ltS x x = false := by decide +kernel
theorem needL_pw : needL.Pairwise fun x y => ltS x y = true := by decide +kernel
theorem asc_pw : ∀ {ts : List Str}, (∀ x ∈ ts, x ∈ needL) → ascR ts = true → ts.Pairwise fun x y => ltS x y = true
  | [], _, _ => .nil
  | [x], _, _ => List.pairwise_singleton _ _
  | x :: y :: r, h, a => by
    have a : (ltS x y && ascR (y :: r)) = true := a
    rw [Bool.and_eq_true] at a
    have ih := asc_pw (ts := y :: r) (fun z hz => h z (List.mem_cons_of_mem _ hz)) a.2
    refine .cons (fun z hz => ?_) ih
    rcases List.mem_cons.mp hz with e | e
    · rw [e]; exact a.1
    · exact needL_lt x (h x (by simp)) y (h y (by simp)) z (h z (List.mem_cons_of_mem _ (List.mem_cons_of_mem _ e))) a.1 ((List.pairwise_cons.mp ih).1 z e)
theorem pw_asc : ∀ {ts : List Str}, (ts.Pairwise fun x y => ltS x y = true) → ascR ts = true
  | [], _ => rfl
  | [x], _ => rfl
  | x :: y :: r, h => by
    have ⟨h1, h2⟩ := List.pairwise_cons.mp h
    show (ltS x y && ascR (y :: r)) = true
    rw [h1 y (by simp), pw_asc h2]; rfl
theorem pick_all : ∀ {L ts : List Str}, (∀ x ∈ L, x ∈ needL) → (L.Pairwise fun x y => ltS x y = true) → (ts.Pairwise fun x y => ltS x y = true) → (∀ x ∈ ts, x ∈ L) → pickW L ts = ts
  | [], ts, _, _, _, h => by
    cases ts with
    | nil => rfl
    | cons t ts => exact (List.not_mem_nil (h t (by simp))).elim
  | a :: L, [], hL, pL, pT, h => by
    show List.filter (fun _ => false) (a :: L) = []
    simp
  | a :: L, t :: ts, hL, pL, pT, h => by
    have ⟨L1, L2⟩ := List.pairwise_cons.mp pL
    have ⟨T1, T2⟩ := List.pairwise_cons.mp pT
    have hL' : ∀ x ∈ L, x ∈ needL := fun x hx => hL x (List.mem_cons_of_mem _ hx)
    by_cases e : t = a
    · subst e
      have sub : ∀ x ∈ ts, x ∈ L := fun x hx => by
        rcases List.mem_cons.mp (h x (List.mem_cons_of_mem _ hx)) with q | q
        · subst q
          have := T1 x hx
          rw [needL_irr x (hL x (by simp))] at this
          cases this
        · exact q
      have ih := pick_all hL' L2 T2 sub
      unfold pickW at ih ⊢
      rw [List.filter_cons, if_pos (any_mem.mpr (by simp))]
      refine congrArg (t :: ·) (Eq.trans (List.filter_congr fun x hx => ?_) ih)
      have ne : (t == x) = false := by
        rw [beq_eq_false_iff_ne]
        intro q
        subst q
        have := L1 t hx
        rw [needL_irr t (hL t (by simp))] at this
        cases this
      rw [List.any_cons, ne, Bool.false_or]
    · have tL : t ∈ L := by
        rcases List.mem_cons.mp (h t (by simp)) with q | q
        · exact (e q).elim
        · exact q
      have sub : ∀ x ∈ t :: ts, x ∈ L := fun x hx => by
        rcases List.mem_cons.mp (h x hx) with q | q
        · exfalso
          subst q
          rcases List.mem_cons.mp hx with q | q
          · exact e q.symm
          · have h1 := L1 t tL
            have h2 := T1 x q
            have := needL_lt x (hL x (by simp)) t (hL' t tL) x (hL x (by simp)) h1 h2
            rw [needL_irr x (hL x (by simp))] at this
            cases this
        · exact q
      have ih := pick_all hL' L2 pT sub
      unfold pickW at ih ⊢
      rw [List.filter_cons, if_neg ?_]
      · exact ih
      · intro q
        have q := any_mem.mp q
        have := L1 a (sub a q)
        rw [needL_irr a (hL a (by simp))] at this
        cases this
theorem pick_pw (ts : List Str) : (pickW needL ts).Pairwise fun x y => ltS x y = true := List.Pairwise.sublist List.filter_sublist needL_pw
/-- the two sayings of needs are one -/
theorem asc_iff {ts : List Str} (h : ∀ x ∈ ts, x ∈ needL) : ascR ts = decide (pickW needL ts = ts) := by
  by_cases e : pickW needL ts = ts
  · rw [decide_eq_true e, pw_asc (e ▸ pick_pw ts)]
  · rw [decide_eq_false e]
    cases q : ascR ts with
    | false => rfl
    | true => exact (e (pick_all (fun _ h => h) needL_pw (asc_pw h q) h)).elim
theorem flat_wrd : ∀ ts : List Str, (wrd ts).all D.flat = true
  | [] => rfl
  | t :: ts => by
    have ih := flat_wrd ts
    show (D.flat (.str t) && (wrd ts).all D.flat) = true
    rw [ih]; rfl
theorem any_wrd (x : Str) : ∀ ts : List Str, ((wrd ts).any fun y => eqV1 y (.str x)) = ts.any (· == x)
  | [] => rfl
  | t :: ts => by
    have ih := any_wrd x ts
    show (eqV1 (.str t) (.str x) || (wrd ts).any fun y => eqV1 y (.str x)) = _
    rw [ih]; rfl
theorem any_dec {ts : List Str} {x : Str} : ts.any (· == x) = decide (x ∈ ts) := by
  by_cases h : x ∈ ts
  · rw [decide_eq_true h, any_mem.mpr h]
  · rw [decide_eq_false h]
    cases e : ts.any (· == x) with
    | false => rfl
    | true => exact (h (any_mem.mp e)).elim
theorem in_wrd (x : Str) (ts : List Str) : inD (.str x) (wrd ts) = some (decide (x ∈ ts)) := by
  unfold inD
  have e : ((D.str x).flat && (wrd ts).all D.flat) = true := by rw [flat_wrd]; rfl
  rw [if_pos e, any_wrd, any_dec]
theorem toPys_wrd : ∀ ts : List Str, D.toPys (wrd ts) = some (ts.map PyData.str)
  | [] => rfl
  | t :: ts => by
    have ih := toPys_wrd ts
    show D.toPys (D.str t :: wrd ts) = _
    unfold D.toPys
    rw [ih]; rfl
theorem eqv_strs : ∀ a b : List Str, PyData.eqvAll (a.map .str) (b.map .str) = decide (a = b)
  | [], [] => rfl
  | [], _ :: _ => rfl
  | _ :: _, [] => rfl
  | x :: a, y :: b => by
    have ih := eqv_strs a b
    rw [List.map_cons, List.map_cons]
    unfold PyData.eqvAll
    rw [ih]
    show ((x == y) && decide (a = b)) = _
    by_cases e : x = y
    · subst e
      by_cases e2 : a = b <;> simp [e2]
    · simp [e]
theorem canLay_strs : ∀ {ts : List Str}, (∀ x ∈ ts, ∀ z ∈ x.cps.toList, z < 1114112) → PyData.canLayAll0 (ts.map .str) = true
  | [], _ => rfl
  | t :: ts, h => by
    have ih := canLay_strs fun x hx => h x (List.mem_cons_of_mem _ hx)
    rw [List.map_cons]
    unfold PyData.canLayAll0
    rw [ih, Bool.and_true]
    show PyData.strOk t = true
    unfold PyData.strOk
    rw [← Array.all_toList]
    exact List.all_eq_true.mpr fun z hz => decide_eq_true (h t (by simp) z hz)
theorem depth_strs : ∀ ts : List Str, PyData.depthAll (ts.map .str) = 0
  | [] => rfl
  | t :: ts => by
    have ih := depth_strs ts
    rw [List.map_cons]
    unfold PyData.depthAll
    rw [ih]; rfl
theorem eq_wrds {a b : List Str} (ha : ∀ x ∈ a, ∀ z ∈ x.cps.toList, z < 1114112) (hb : ∀ x ∈ b, ∀ z ∈ x.cps.toList, z < 1114112) : cop .eq (.lst (wrd a)) (.lst (wrd b)) = some (decide (a = b)) := by
  show eqD (.lst (wrd a)) (.lst (wrd b)) = some (decide (a = b))
  unfold eqD
  show (match (none : Option Bool) with | some b => some b | none => _) = _
  have h1 : D.toPy (.lst (wrd a)) = some (.list (a.map PyData.str)) := by unfold D.toPy; rw [toPys_wrd]; rfl
  have h2 : D.toPy (.lst (wrd b)) = some (.list (b.map PyData.str)) := by unfold D.toPy; rw [toPys_wrd]; rfl
  simp only [h1, h2]
  unfold eqPy
  rw [if_pos ⟨canLay_strs ha, canLay_strs hb, by
    show min (PyData.depthAll _ + 1) _ ≤ 64
    rw [depth_strs]; omega⟩]
  show some (PyData.eqvAll _ _) = _
  rw [eqv_strs]
theorem ne_nil2 {c : Nat} {ds : List D} (hc : c ≤ 1000) (h : gds c ds = true) : cop .ne (.lst ds) (.lst []) = some (!ds.isEmpty) := by
  obtain ⟨ps, h1, _, _, _, _, h6⟩ := toPys_ok hc ds h
  have e : eqD (.lst ds) (.lst []) = some ds.isEmpty := by
    unfold eqD
    show (match (none : Option Bool) with | some b => some b | none => _) = _
    have h3 : D.toPy (.lst ds) = some (.list ps) := by unfold D.toPy; rw [h1]; rfl
    have h2 : D.toPy (.lst []) = some (.list []) := rfl
    simp only [h3, h2]
    unfold eqPy
    rw [if_pos ⟨h6, rfl, (by show min _ 1 ≤ 64; omega)⟩]
    cases ds with
    | nil => 
      have : ps = [] := by unfold D.toPys at h1; cases h1; rfl
      subst this; rfl
    | cons d ds =>
      cases ps with
      | nil => 
        unfold D.toPys at h1
        split at h1 <;> cases h1
      | cons p ps => rfl
  show (eqD _ _).map _ = _
  rw [e]; rfl
end T07
end

section
set_option linter.all false
set_option maxRecDepth 100000
set_option Elab.async false
set_option maxHeartbeats 8000000
namespace T07
open PySem L2 Mi
@[simp] theorem cop_inn_t {x : D} {ys : List D} : cop .inn x (.tup ys) = inD x ys := by cases x <;> rfl
@[simp] theorem cop_inn_l {x : D} {ys : List D} : cop .inn x (.lst ys) = inD x ys := by cases x <;> rfl
@[simp] theorem gcv_0 : gcv 0 = some (.tup (wrd needL)) := rfl
@[simp] theorem gcv_1 : gcv 1 = some (.tup (wrd momL)) := rfl
theorem need_at {m c : Nat} (hm : 1 ≤ m) {x : D} (h : gd c x = true) {S : Sto} : (Tb m).f 2 [x] S = some (.ok (.bl (needB x)) S) := by
  obtain ⟨n, rfl⟩ : ∃ n, m = n + 1 := ⟨m - 1, by omega⟩
  rw [tab_f (p := (1, b_2)) rfl, runF_eq]
  unfold b_2
  cases x with
  | loc _ => unfold gd at h; cases h
  | fn _ => unfold gd at h; cases h
  | str x =>
    by_cases hx : x ∈ needL
    · simp [evE_cst, evE_var, evE_pk, evE_fn, evE_gc, evE_tup, evE_lst, evE_bin, evE_cat, evE_neg, evE_cmp, evE_cmp2, evE_isN, evE_isB, evE_bool, evE_not, evE_ite, evE_idx, evE_slc, evE_rev, evE_call, evE_callK, evE_blt, evE_sset, evE_said, evE_isa, evE_cnt, evE_isaC, evE_fld, evE_dget, evE_dct, evBs_nil, evBs_cons, evT_val, evT_bool, evT_not, evB_nil, evB_cons, evTs_nil, evTs_cons, evEs_nil, evEs_cons, evO_no, evO_so, evI_ex, evI_enum, evS_asg, evS_asgO, evS_unp, evS_expr, evS_ifs, evS_ret, evS_retN, evS_retO, evS_whl, evS_app, evS_ext, evS_seti, evS_dput, evS_raise, evS_frz, evS_pass, evS_brk, evS_cont, evSs_nil, evSs_cons, evE_comp, evS_for, isaD, needB, in_wrd, hx]
    · simp [evE_cst, evE_var, evE_pk, evE_fn, evE_gc, evE_tup, evE_lst, evE_bin, evE_cat, evE_neg, evE_cmp, evE_cmp2, evE_isN, evE_isB, evE_bool, evE_not, evE_ite, evE_idx, evE_slc, evE_rev, evE_call, evE_callK, evE_blt, evE_sset, evE_said, evE_isa, evE_cnt, evE_isaC, evE_fld, evE_dget, evE_dct, evBs_nil, evBs_cons, evT_val, evT_bool, evT_not, evB_nil, evB_cons, evTs_nil, evTs_cons, evEs_nil, evEs_cons, evO_no, evO_so, evI_ex, evI_enum, evS_asg, evS_asgO, evS_unp, evS_expr, evS_ifs, evS_ret, evS_retN, evS_retO, evS_whl, evS_app, evS_ext, evS_seti, evS_dput, evS_raise, evS_frz, evS_pass, evS_brk, evS_cont, evSs_nil, evSs_cons, evE_comp, evS_for, isaD, needB, in_wrd, hx]
  | _ => simp [evE_cst, evE_var, evE_pk, evE_fn, evE_gc, evE_tup, evE_lst, evE_bin, evE_cat, evE_neg, evE_cmp, evE_cmp2, evE_isN, evE_isB, evE_bool, evE_not, evE_ite, evE_idx, evE_slc, evE_rev, evE_call, evE_callK, evE_blt, evE_sset, evE_said, evE_isa, evE_cnt, evE_isaC, evE_fld, evE_dget, evE_dct, evBs_nil, evBs_cons, evT_val, evT_bool, evT_not, evB_nil, evB_cons, evTs_nil, evTs_cons, evEs_nil, evEs_cons, evO_no, evO_so, evI_ex, evI_enum, evS_asg, evS_asgO, evS_unp, evS_expr, evS_ifs, evS_ret, evS_retN, evS_retO, evS_whl, evS_app, evS_ext, evS_seti, evS_dput, evS_raise, evS_frz, evS_pass, evS_brk, evS_cont, evSs_nil, evSs_cons, evE_comp, evS_for, isaD, needB]
theorem mom_at {m c : Nat} (hm : 1 ≤ m) {x : D} (h : gd c x = true) {S : Sto} : (Tb m).f 3 [x] S = some (.ok (.bl (momB x)) S) := by
  obtain ⟨n, rfl⟩ : ∃ n, m = n + 1 := ⟨m - 1, by omega⟩
  rw [tab_f (p := (1, b_3)) rfl, runF_eq]
  unfold b_3
  cases x with
  | loc _ => unfold gd at h; cases h
  | fn _ => unfold gd at h; cases h
  | str x =>
    by_cases hx : x ∈ momL
    · simp [evE_cst, evE_var, evE_pk, evE_fn, evE_gc, evE_tup, evE_lst, evE_bin, evE_cat, evE_neg, evE_cmp, evE_cmp2, evE_isN, evE_isB, evE_bool, evE_not, evE_ite, evE_idx, evE_slc, evE_rev, evE_call, evE_callK, evE_blt, evE_sset, evE_said, evE_isa, evE_cnt, evE_isaC, evE_fld, evE_dget, evE_dct, evBs_nil, evBs_cons, evT_val, evT_bool, evT_not, evB_nil, evB_cons, evTs_nil, evTs_cons, evEs_nil, evEs_cons, evO_no, evO_so, evI_ex, evI_enum, evS_asg, evS_asgO, evS_unp, evS_expr, evS_ifs, evS_ret, evS_retN, evS_retO, evS_whl, evS_app, evS_ext, evS_seti, evS_dput, evS_raise, evS_frz, evS_pass, evS_brk, evS_cont, evSs_nil, evSs_cons, evE_comp, evS_for, isaD, momB, in_wrd, hx]
    · simp [evE_cst, evE_var, evE_pk, evE_fn, evE_gc, evE_tup, evE_lst, evE_bin, evE_cat, evE_neg, evE_cmp, evE_cmp2, evE_isN, evE_isB, evE_bool, evE_not, evE_ite, evE_idx, evE_slc, evE_rev, evE_call, evE_callK, evE_blt, evE_sset, evE_said, evE_isa, evE_cnt, evE_isaC, evE_fld, evE_dget, evE_dct, evBs_nil, evBs_cons, evT_val, evT_bool, evT_not, evB_nil, evB_cons, evTs_nil, evTs_cons, evEs_nil, evEs_cons, evO_no, evO_so, evI_ex, evI_enum, evS_asg, evS_asgO, evS_unp, evS_expr, evS_ifs, evS_ret, evS_retN, evS_retO, evS_whl, evS_app, evS_ext, evS_seti, evS_dput, evS_raise, evS_frz, evS_pass, evS_brk, evS_cont, evSs_nil, evSs_cons, evE_comp, evS_for, isaD, momB, in_wrd, hx]
  | _ => simp [evE_cst, evE_var, evE_pk, evE_fn, evE_gc, evE_tup, evE_lst, evE_bin, evE_cat, evE_neg, evE_cmp, evE_cmp2, evE_isN, evE_isB, evE_bool, evE_not, evE_ite, evE_idx, evE_slc, evE_rev, evE_call, evE_callK, evE_blt, evE_sset, evE_said, evE_isa, evE_cnt, evE_isaC, evE_fld, evE_dget, evE_dct, evBs_nil, evBs_cons, evT_val, evT_bool, evT_not, evB_nil, evB_cons, evTs_nil, evTs_cons, evEs_nil, evEs_cons, evO_no, evO_so, evI_ex, evI_enum, evS_asg, evS_asgO, evS_unp, evS_expr, evS_ifs, evS_ret, evS_retN, evS_retO, evS_whl, evS_app, evS_ext, evS_seti, evS_dput, evS_raise, evS_frz, evS_pass, evS_brk, evS_cont, evSs_nil, evSs_cons, evE_comp, evS_for, isaD, momB]
theorem mom2_at {m c : Nat} (hm : 1 ≤ m) {x : D} (h : gd c x = true) {S : Sto} : (Tb m).f 19 [x] S = some (.ok (.bl (momB x)) S) := by
  obtain ⟨n, rfl⟩ : ∃ n, m = n + 1 := ⟨m - 1, by omega⟩
  rw [tab_f (p := (1, b_19)) rfl, runF_eq]
  unfold b_19
  cases x with
  | loc _ => unfold gd at h; cases h
  | fn _ => unfold gd at h; cases h
  | str x =>
    have e := in_wrd x momL
    by_cases hx : x ∈ momL
    · rw [decide_eq_true hx] at e
      unfold momL wrd at e
      simp only [List.map] at e
      simp [evE_cst, evE_var, evE_pk, evE_fn, evE_gc, evE_tup, evE_lst, evE_bin, evE_cat, evE_neg, evE_cmp, evE_cmp2, evE_isN, evE_isB, evE_bool, evE_not, evE_ite, evE_idx, evE_slc, evE_rev, evE_call, evE_callK, evE_blt, evE_sset, evE_said, evE_isa, evE_cnt, evE_isaC, evE_fld, evE_dget, evE_dct, evBs_nil, evBs_cons, evT_val, evT_bool, evT_not, evB_nil, evB_cons, evTs_nil, evTs_cons, evEs_nil, evEs_cons, evO_no, evO_so, evI_ex, evI_enum, evS_asg, evS_asgO, evS_unp, evS_expr, evS_ifs, evS_ret, evS_retN, evS_retO, evS_whl, evS_app, evS_ext, evS_seti, evS_dput, evS_raise, evS_frz, evS_pass, evS_brk, evS_cont, evSs_nil, evSs_cons, evE_comp, evS_for, isaD, momB, mkL_ok, e, hx]
    · rw [decide_eq_false hx] at e
      unfold momL wrd at e
      simp only [List.map] at e
      simp [evE_cst, evE_var, evE_pk, evE_fn, evE_gc, evE_tup, evE_lst, evE_bin, evE_cat, evE_neg, evE_cmp, evE_cmp2, evE_isN, evE_isB, evE_bool, evE_not, evE_ite, evE_idx, evE_slc, evE_rev, evE_call, evE_callK, evE_blt, evE_sset, evE_said, evE_isa, evE_cnt, evE_isaC, evE_fld, evE_dget, evE_dct, evBs_nil, evBs_cons, evT_val, evT_bool, evT_not, evB_nil, evB_cons, evTs_nil, evTs_cons, evEs_nil, evEs_cons, evO_no, evO_so, evI_ex, evI_enum, evS_asg, evS_asgO, evS_unp, evS_expr, evS_ifs, evS_ret, evS_retN, evS_retO, evS_whl, evS_app, evS_ext, evS_seti, evS_dput, evS_raise, evS_frz, evS_pass, evS_brk, evS_cont, evSs_nil, evSs_cons, evE_comp, evS_for, isaD, momB, mkL_ok, e, hx]
  | _ => simp [evE_cst, evE_var, evE_pk, evE_fn, evE_gc, evE_tup, evE_lst, evE_bin, evE_cat, evE_neg, evE_cmp, evE_cmp2, evE_isN, evE_isB, evE_bool, evE_not, evE_ite, evE_idx, evE_slc, evE_rev, evE_call, evE_callK, evE_blt, evE_sset, evE_said, evE_isa, evE_cnt, evE_isaC, evE_fld, evE_dget, evE_dct, evBs_nil, evBs_cons, evT_val, evT_bool, evT_not, evB_nil, evB_cons, evTs_nil, evTs_cons, evEs_nil, evEs_cons, evO_no, evO_so, evI_ex, evI_enum, evS_asg, evS_asgO, evS_unp, evS_expr, evS_ifs, evS_ret, evS_retN, evS_retO, evS_whl, evS_app, evS_ext, evS_seti, evS_dput, evS_raise, evS_frz, evS_pass, evS_brk, evS_cont, evSs_nil, evSs_cons, evE_comp, evS_for, isaD, momB]
theorem bls_map (f : D → Bool) : ∀ ds : List D, bls (ds.map fun d => .bl (f d)) = some (ds.map f)
  | [] => rfl
  | d :: ds => by
    have ih := bls_map f ds
    show (bls (ds.map fun d => .bl (f d))).map (f d :: ·) = _
    rw [ih]; rfl
theorem wrd_at {ts : List Str} {k : Nat} (h : k < ts.length) : atD (wrd ts) (k : Int) = some (.str (ts.getD k "")) := by
  show L2.atI _ _ = _
  have lw : (wrd ts).length = ts.length := List.length_map ..
  rw [at_ok (by omega) (by omega), Int.toNat_natCast]
  unfold wrd
  rw [List.getElem?_map, List.getElem?_eq_getElem h, List.getD_eq_getElem?_getD, List.getElem?_eq_getElem h]
  rfl
/-- range(n - 1) -/
theorem rng_neg : rng1D (.int (-1)) = some [] := by
  show rngD 0 (-1) = _
  unfold rngD
  rw [if_pos ⟨by decide, by decide, by decide, by decide⟩]
  rfl
theorem evI_rng_neg {G : Tab} {e : CE} {ρ : Mi.Env} {S S' : Sto} (h : evE G e ρ S = some (.ok (.int (-1)) S')) : evI G (.rng e) ρ S = some (.ok [] S') := by
  rw [evI_rng, h, rb_ok1, rng_neg]
  rfl
theorem asc_rng : ∀ (ts : List Str) (n : Nat), ts.length = n + 1 → ((List.range n).all fun k => ltS (ts.getD k "") (ts.getD (k + 1) "")) = ascR ts
  | [_], n, h => by
    have : n = 0 := by simp at h; omega
    subst this; rfl
  | x :: y :: r, n, h => by
    obtain ⟨k, rfl⟩ : ∃ k, n = k + 1 := ⟨r.length, by simp at h; omega⟩
    have ih := asc_rng (y :: r) k (by simp at h ⊢; omega)
    rw [List.range_succ_eq_map, List.all_cons, List.all_map]
    show (ltS x y && _) = (ltS x y && ascR (y :: r))
    rw [← ih]; rfl
theorem asc_at {m : Nat} (hm : 1 ≤ m) {ts : List Str} (hl : ts.length ≤ 16777216) {S : Sto} : (Tb m).f 1 [.tup (wrd ts)] S = some (.ok (.bl (ascR ts)) S) := by
  obtain ⟨n, rfl⟩ : ∃ n, m = n + 1 := ⟨m - 1, by omega⟩
  have lw : (wrd ts).length = ts.length := List.length_map ..
  rw [tab_f (p := (2, b_1)) rfl, runF_eq]
  unfold b_1
  cases ts with
  | nil =>
    have er : evI (Tb n) (.rng (.bin .sub (.blt .len (.var 0)) (.cst (.int 1)))) [.val (.tup (wrd [])), .non] S = _ := evI_rng_neg (S' := S) (by simp [evE_cst, evE_var, evE_pk, evE_fn, evE_gc, evE_tup, evE_lst, evE_bin, evE_cat, evE_neg, evE_cmp, evE_cmp2, evE_isN, evE_isB, evE_bool, evE_not, evE_ite, evE_idx, evE_slc, evE_rev, evE_call, evE_callK, evE_blt, evE_sset, evE_said, evE_isa, evE_cnt, evE_isaC, evE_fld, evE_dget, evE_dct, evBs_nil, evBs_cons, evT_val, evT_bool, evT_not, evB_nil, evB_cons, evTs_nil, evTs_cons, evEs_nil, evEs_cons, evO_no, evO_so, evI_ex, evI_enum, evS_asg, evS_asgO, evS_unp, evS_expr, evS_ifs, evS_ret, evS_retN, evS_retO, evS_whl, evS_app, evS_ext, evS_seti, evS_dput, evS_raise, evS_frz, evS_pass, evS_brk, evS_cont, evSs_nil, evSs_cons, evE_comp, evS_for, wrd])
    simp [evE_cst, evE_var, evE_pk, evE_fn, evE_gc, evE_tup, evE_lst, evE_bin, evE_cat, evE_neg, evE_cmp, evE_cmp2, evE_isN, evE_isB, evE_bool, evE_not, evE_ite, evE_idx, evE_slc, evE_rev, evE_call, evE_callK, evE_blt, evE_sset, evE_said, evE_isa, evE_cnt, evE_isaC, evE_fld, evE_dget, evE_dct, evBs_nil, evBs_cons, evT_val, evT_bool, evT_not, evB_nil, evB_cons, evTs_nil, evTs_cons, evEs_nil, evEs_cons, evO_no, evO_so, evI_ex, evI_enum, evS_asg, evS_asgO, evS_unp, evS_expr, evS_ifs, evS_ret, evS_retN, evS_retO, evS_whl, evS_app, evS_ext, evS_seti, evS_dput, evS_raise, evS_frz, evS_pass, evS_brk, evS_cont, evSs_nil, evSs_cons, evE_comp, evS_for, er, compM, bls, ascR]
  | cons t us =>
    have er : evI (Tb n) (.rng (.bin .sub (.blt .len (.var 0)) (.cst (.int 1)))) [.val (.tup (wrd (t :: us))), .non] S = _ := evI_rng_ok (n := us.length) (S' := S) (by
      simp [evE_cst, evE_var, evE_pk, evE_fn, evE_gc, evE_tup, evE_lst, evE_bin, evE_cat, evE_neg, evE_cmp, evE_cmp2, evE_isN, evE_isB, evE_bool, evE_not, evE_ite, evE_idx, evE_slc, evE_rev, evE_call, evE_callK, evE_blt, evE_sset, evE_said, evE_isa, evE_cnt, evE_isaC, evE_fld, evE_dget, evE_dct, evBs_nil, evBs_cons, evT_val, evT_bool, evT_not, evB_nil, evB_cons, evTs_nil, evTs_cons, evEs_nil, evEs_cons, evO_no, evO_so, evI_ex, evI_enum, evS_asg, evS_asgO, evS_unp, evS_expr, evS_ifs, evS_ret, evS_retN, evS_retO, evS_whl, evS_app, evS_ext, evS_seti, evS_dput, evS_raise, evS_frz, evS_pass, evS_brk, evS_cont, evSs_nil, evSs_cons, evE_comp, evS_for, lw]) (by simp at hl; omega)
    obtain ⟨F, hF⟩ : ∃ F : Nat → Bool, ∀ k, F k = ltS ((t :: us).getD k "") ((t :: us).getD (k + 1) "") := ⟨_, fun _ => rfl⟩
    have ec : compM (compF (Tb n) (.cmp .lt (.idx (.var 0) (.var 1)) (.idx (.var 0) (.bin .add (.var 1) (.cst (.int 1))))) (.nm 1) .nil [.val (.tup (wrd (t :: us))), .non]) ((List.range us.length).map fun (k : Nat) => D.int k) [] S = _ :=
      compM_pure (fun x => match x with | .int k => some (.bl (F k.toNat)) | _ => none) _ _ (fun x hx => by
        obtain ⟨k, hk, rfl⟩ := List.mem_map.mp hx
        have hk : k < us.length := List.mem_range.mp hk
        have a1 := wrd_at (ts := t :: us) (k := k) (by simp; omega)
        have a2 := wrd_at (ts := t :: us) (k := k + 1) (by simp; omega)
        rw [show ((k + 1 : Nat) : Int) = (k : Int) + 1 from rfl] at a2
        have cl : ∀ x y : Str, cop .lt (.str x) (.str y) = some (ltS x y) := fun _ _ => rfl
        have hk := (hF k).symm
        generalize (t :: us).getD k "" = p at a1 hk
        generalize (t :: us).getD (k + 1) "" = q at a2 hk
        unfold compF
        simp [evE_cst, evE_var, evE_pk, evE_fn, evE_gc, evE_tup, evE_lst, evE_bin, evE_cat, evE_neg, evE_cmp, evE_cmp2, evE_isN, evE_isB, evE_bool, evE_not, evE_ite, evE_idx, evE_slc, evE_rev, evE_call, evE_callK, evE_blt, evE_sset, evE_said, evE_isa, evE_cnt, evE_isaC, evE_fld, evE_dget, evE_dct, evBs_nil, evBs_cons, evT_val, evT_bool, evT_not, evB_nil, evB_cons, evTs_nil, evTs_cons, evEs_nil, evEs_cons, evO_no, evO_so, evI_ex, evI_enum, evS_asg, evS_asgO, evS_unp, evS_expr, evS_ifs, evS_ret, evS_retN, evS_retO, evS_whl, evS_app, evS_ext, evS_seti, evS_dput, evS_raise, evS_frz, evS_pass, evS_brk, evS_cont, evSs_nil, evSs_cons, evE_comp, evS_for, a1, a2, cl, hk]) (by rw [List.length_map, List.length_range]; simp at hl ⊢; omega)
    have ed : ([] ++ ((List.range us.length).map fun (k : Nat) => D.int k).filterMap fun x => match x with | .int k => some (.bl (F k.toNat)) | _ => none) = ((List.range us.length).map fun (k : Nat) => D.bl (F k)) := by
      rw [List.nil_append, List.filterMap_map, ← List.filterMap_eq_map]
      rfl
    rw [ed] at ec
    have eb : bls ((List.range us.length).map fun (k : Nat) => D.bl (F k)) = some ((List.range us.length).map F) := by
      generalize List.range us.length = L
      induction L with
      | nil => rfl
      | cons a L ih =>
        show (bls _).map _ = _
        rw [ih]; rfl
    have ea := asc_rng (t :: us) us.length rfl
    have ef : ((List.range us.length).map F).all id = ascR (t :: us) := by
      rw [List.all_map, ← ea]
      exact congrArg (List.all _) (funext hF)
    simp [evE_cst, evE_var, evE_pk, evE_fn, evE_gc, evE_tup, evE_lst, evE_bin, evE_cat, evE_neg, evE_cmp, evE_cmp2, evE_isN, evE_isB, evE_bool, evE_not, evE_ite, evE_idx, evE_slc, evE_rev, evE_call, evE_callK, evE_blt, evE_sset, evE_said, evE_isa, evE_cnt, evE_isaC, evE_fld, evE_dget, evE_dct, evBs_nil, evBs_cons, evT_val, evT_bool, evT_not, evB_nil, evB_cons, evTs_nil, evTs_cons, evEs_nil, evEs_cons, evO_no, evO_so, evI_ex, evI_enum, evS_asg, evS_asgO, evS_unp, evS_expr, evS_ifs, evS_ret, evS_retN, evS_retO, evS_whl, evS_app, evS_ext, evS_seti, evS_dput, evS_raise, evS_frz, evS_pass, evS_brk, evS_cont, evSs_nil, evSs_cons, evE_comp, evS_for, er, ec]
    rw [eb]
    simp [evE_cst, evE_var, evE_pk, evE_fn, evE_gc, evE_tup, evE_lst, evE_bin, evE_cat, evE_neg, evE_cmp, evE_cmp2, evE_isN, evE_isB, evE_bool, evE_not, evE_ite, evE_idx, evE_slc, evE_rev, evE_call, evE_callK, evE_blt, evE_sset, evE_said, evE_isa, evE_cnt, evE_isaC, evE_fld, evE_dget, evE_dct, evBs_nil, evBs_cons, evT_val, evT_bool, evT_not, evB_nil, evB_cons, evTs_nil, evTs_cons, evEs_nil, evEs_cons, evO_no, evO_so, evI_ex, evI_enum, evS_asg, evS_asgO, evS_unp, evS_expr, evS_ifs, evS_ret, evS_retN, evS_retO, evS_whl, evS_app, evS_ext, evS_seti, evS_dput, evS_raise, evS_frz, evS_pass, evS_brk, evS_cont, evSs_nil, evSs_cons, evE_comp, evS_for]
    rw [← ef, List.all_map]; rfl
theorem compM_map {f : D → Sto → Mo (Option D)} {S : Sto} (g : D → D) (xs : List D) (hf : ∀ x ∈ xs, f x S = some (.ok (some (g x)) S)) (hl : xs.length ≤ 16777216) : compM f xs [] S = some (.ok (xs.map g) S) := by
  rw [compM_pure (fun x => some (g x)) xs [] hf (by simpa using hl), List.nil_append, List.filterMap_eq_map']
theorem compM_fil {f : D → Sto → Mo (Option D)} {S : Sto} (g : D → Bool) (xs : List D) (hf : ∀ x ∈ xs, f x S = some (.ok (if g x = true then some x else none) S)) (hl : xs.length ≤ 16777216) : compM f xs [] S = some (.ok (xs.filter g) S) := by
  rw [compM_pure (fun x => if g x = true then some x else none) xs [] hf (by simpa using hl), List.nil_append]
  have e : ∀ ys : List D, ys.filterMap (fun x => if g x = true then some x else none) = ys.filter g := fun ys => by
    induction ys with
    | nil => rfl
    | cons y ys ih =>
      rw [List.filterMap_cons, List.filter_cons]
      by_cases h : g y = true
      · simp [h, ih]
      · simp [h, ih]
  rw [e]
theorem all_need {ts : List Str} : (wrd ts).all needB = true ↔ ∀ x ∈ ts, x ∈ needL := by
  rw [List.all_eq_true]
  constructor
  · intro h x hx
    exact of_decide_eq_true (h (.str x) (List.mem_map_of_mem hx))
  · intro h d hd
    obtain ⟨x, hx, rfl⟩ := List.mem_map.mp hd
    exact decide_eq_true (h x hx)
theorem needs_at {m c : Nat} (hm : 2 ≤ m) (hc : c ≤ 1000) {x : D} (h : gd c x = true) (hw : wt x ≤ 200000) {S : Sto} : (Tb m).f 4 [x] S = some (.ok (.bl (needsB x)) S) := by
  obtain ⟨n, rfl⟩ : ∃ n, m = n + 1 := ⟨m - 1, by omega⟩
  rw [tab_f (p := (2, b_4)) rfl, runF_eq]
  unfold b_4
  cases x with
  | loc _ => unfold gd at h; cases h
  | fn _ => unfold gd at h; cases h
  | tup ds =>
    have lw : wts ds ≤ 200000 := hw
    have ll := len_wts ds
    have hg := gds_all.mp (show gds c ds = true from h)
    have ec : compM (compF (Tb n) (.call 2 (.cons (.var 1) .nil)) (.nm 1) .nil [.val (.tup ds), .non]) ds [] S = _ :=
      compM_map (fun d => .bl (needB d)) ds (fun d hd => by
        have e1 := @need_at n c (by omega) d (hg d hd)
        unfold compF
        simp [evE_cst, evE_var, evE_pk, evE_fn, evE_gc, evE_tup, evE_lst, evE_bin, evE_cat, evE_neg, evE_cmp, evE_cmp2, evE_isN, evE_isB, evE_bool, evE_not, evE_ite, evE_idx, evE_slc, evE_rev, evE_call, evE_callK, evE_blt, evE_sset, evE_said, evE_isa, evE_cnt, evE_isaC, evE_fld, evE_dget, evE_dct, evBs_nil, evBs_cons, evT_val, evT_bool, evT_not, evB_nil, evB_cons, evTs_nil, evTs_cons, evEs_nil, evEs_cons, evO_no, evO_so, evI_ex, evI_enum, evS_asg, evS_asgO, evS_unp, evS_expr, evS_ifs, evS_ret, evS_retN, evS_retO, evS_whl, evS_app, evS_ext, evS_seti, evS_dput, evS_raise, evS_frz, evS_pass, evS_brk, evS_cont, evSs_nil, evSs_cons, evE_comp, evS_for, e1]) (by omega)
    have eb := bls_map needB ds
    cases ha : ds.all needB with
    | false =>
      have er : needsB (.tup ds) = false := by
        show (match strsOf ds with
          | some ts => decide (pickW needL ts = ts)
          | none => false) = false
        cases e : strsOf ds with
        | none => rfl
        | some ts =>
          show decide _ = false
          rw [decide_eq_false_iff_not]
          intro q
          have e2 := strsOf_some e
          subst e2
          have : (wrd ts).all needB = true := all_need.mpr fun x hx => by
            rw [← q] at hx
            exact (List.mem_filter.mp hx).1
          rw [this] at ha
          cases ha
      rw [er]
      have ha2 : (ds.map needB).all id = false := by rw [List.all_map]; exact ha
      generalize hL : (ds.map fun d => D.bl (needB d)) = L at ec eb
      generalize hM : ds.map needB = M at eb ha2
      simp [evE_cst, evE_var, evE_pk, evE_fn, evE_gc, evE_tup, evE_lst, evE_bin, evE_cat, evE_neg, evE_cmp, evE_cmp2, evE_isN, evE_isB, evE_bool, evE_not, evE_ite, evE_idx, evE_slc, evE_rev, evE_call, evE_callK, evE_blt, evE_sset, evE_said, evE_isa, evE_cnt, evE_isaC, evE_fld, evE_dget, evE_dct, evBs_nil, evBs_cons, evT_val, evT_bool, evT_not, evB_nil, evB_cons, evTs_nil, evTs_cons, evEs_nil, evEs_cons, evO_no, evO_so, evI_ex, evI_enum, evS_asg, evS_asgO, evS_unp, evS_expr, evS_ifs, evS_ret, evS_retN, evS_retO, evS_whl, evS_app, evS_ext, evS_seti, evS_dput, evS_raise, evS_frz, evS_pass, evS_brk, evS_cont, evSs_nil, evSs_cons, evE_comp, evS_for, isaD, ec, eb, ha2]
    | true =>
      have hs : strsOf ds ≠ none := fun q => by
        obtain ⟨d, hd, hb⟩ := strsOf_none q
        have := List.all_eq_true.mp ha d hd
        cases d with
        | str x => cases hb
        | _ => cases this
      obtain ⟨ts, e⟩ : ∃ ts, strsOf ds = some ts := by
        cases q : strsOf ds with
        | none => exact (hs q).elim
        | some ts => exact ⟨ts, rfl⟩
      have er : needsB (.tup ds) = decide (pickW needL ts = ts) := by
        show (match strsOf ds with
          | some ts => decide (pickW needL ts = ts)
          | none => false) = _
        rw [e]
      have e2 := strsOf_some e
      subst e2
      rw [er, ← asc_iff (all_need.mp ha)]
      have lt : ts.length ≤ 16777216 := by
        have : (wrd ts).length = ts.length := List.length_map ..
        omega
      have e0 := @asc_at n (by omega) ts lt S
      have ha2 : ((wrd ts).map needB).all id = true := by rw [List.all_map]; exact ha
      generalize hL : ((wrd ts).map fun d => D.bl (needB d)) = L at ec eb
      generalize hM : (wrd ts).map needB = M at eb ha2
      generalize ascR ts = z at e0
      cases z <;> simp [evE_cst, evE_var, evE_pk, evE_fn, evE_gc, evE_tup, evE_lst, evE_bin, evE_cat, evE_neg, evE_cmp, evE_cmp2, evE_isN, evE_isB, evE_bool, evE_not, evE_ite, evE_idx, evE_slc, evE_rev, evE_call, evE_callK, evE_blt, evE_sset, evE_said, evE_isa, evE_cnt, evE_isaC, evE_fld, evE_dget, evE_dct, evBs_nil, evBs_cons, evT_val, evT_bool, evT_not, evB_nil, evB_cons, evTs_nil, evTs_cons, evEs_nil, evEs_cons, evO_no, evO_so, evI_ex, evI_enum, evS_asg, evS_asgO, evS_unp, evS_expr, evS_ifs, evS_ret, evS_retN, evS_retO, evS_whl, evS_app, evS_ext, evS_seti, evS_dput, evS_raise, evS_frz, evS_pass, evS_brk, evS_cont, evSs_nil, evSs_cons, evE_comp, evS_for, isaD, ec, eb, ha2, e0]
  | _ => simp [evE_cst, evE_var, evE_pk, evE_fn, evE_gc, evE_tup, evE_lst, evE_bin, evE_cat, evE_neg, evE_cmp, evE_cmp2, evE_isN, evE_isB, evE_bool, evE_not, evE_ite, evE_idx, evE_slc, evE_rev, evE_call, evE_callK, evE_blt, evE_sset, evE_said, evE_isa, evE_cnt, evE_isaC, evE_fld, evE_dget, evE_dct, evBs_nil, evBs_cons, evT_val, evT_bool, evT_not, evB_nil, evB_cons, evTs_nil, evTs_cons, evEs_nil, evEs_cons, evO_no, evO_so, evI_ex, evI_enum, evS_asg, evS_asgO, evS_unp, evS_expr, evS_ifs, evS_ret, evS_retN, evS_retO, evS_whl, evS_app, evS_ext, evS_seti, evS_dput, evS_raise, evS_frz, evS_pass, evS_brk, evS_cont, evSs_nil, evSs_cons, evE_comp, evS_for, isaD, needsB]
def isS : D → Bool
  | .str _ => true
  | _ => false
theorem rest_nil : ∀ {ds : List D}, ds.filter (fun d => !isS d) = [] ↔ ∃ ts, strsOf ds = some ts
  | [] => ⟨fun _ => ⟨[], rfl⟩, fun _ => rfl⟩
  | d :: ds => by
    have ih := rest_nil (ds := ds)
    cases d with
    | str x =>
      rw [List.filter_cons_of_neg (by simp [isS]), ih]
      constructor
      · rintro ⟨ts, e⟩
        exact ⟨x :: ts, by show (strsOf ds).map (x :: ·) = _; rw [e]; rfl⟩
      · rintro ⟨ts, e⟩
        have e : (strsOf ds).map (x :: ·) = some ts := e
        cases q : strsOf ds with
        | none => rw [q] at e; cases e
        | some us => exact ⟨us, rfl⟩
    | _ =>
      constructor
      · intro h
        rw [List.filter_cons_of_pos rfl] at h
        cases h
      · rintro ⟨ts, e⟩
        cases e
theorem fil_wrd (ts : List Str) : ∀ L : List Str, (wrd L).filter (fun d => match d with | .str x => ts.any (· == x) | _ => false) = wrd (pickW L ts)
  | [] => rfl
  | x :: L => by
    have ih := fil_wrd ts L
    unfold pickW at ih ⊢
    show List.filter _ (D.str x :: wrd L) = _
    rw [List.filter_cons, List.filter_cons]
    by_cases h : ts.any (· == x) = true
    · rw [if_pos h, if_pos h, ih]; rfl
    · rw [if_neg h, if_neg h, ih]
theorem needL_cps : ∀ x ∈ needL, ∀ z ∈ x.cps.toList, z < 1114112 := by decide +kernel
theorem needs2_at {m c : Nat} (hm : 2 ≤ m) (hc : c ≤ 1000) {x : D} (h : gd c x = true) (hw : wt x ≤ 200000) {S : Sto} : (Tb m).f 18 [x] S = some (.ok (.bl (needsB x)) S) := by
  obtain ⟨n, rfl⟩ : ∃ n, m = n + 1 := ⟨m - 1, by omega⟩
  rw [tab_f (p := (3, b_18)) rfl, runF_eq]
  unfold b_18
  cases x with
  | loc _ => unfold gd at h; cases h
  | fn _ => unfold gd at h; cases h
  | tup ds =>
    have lw : wts ds ≤ 200000 := hw
    have ll := len_wts ds
    have hg := gds_all.mp (show gds c ds = true from h)
    have ec : compM (compF (Tb n) (.var 2) (.nm 2) (.cons (.not (.val (.isa (.var 2) .str))) .nil) [.val (.tup ds), .non, .non]) ds [] S = _ :=
      compM_fil (fun d => !isS d) ds (fun d hd => by
        have hd := hg d hd
        unfold compF
        cases d with
        | loc _ => unfold gd at hd; cases hd
        | fn _ => unfold gd at hd; cases hd
        | _ => simp [evE_cst, evE_var, evE_pk, evE_fn, evE_gc, evE_tup, evE_lst, evE_bin, evE_cat, evE_neg, evE_cmp, evE_cmp2, evE_isN, evE_isB, evE_bool, evE_not, evE_ite, evE_idx, evE_slc, evE_rev, evE_call, evE_callK, evE_blt, evE_sset, evE_said, evE_isa, evE_cnt, evE_isaC, evE_fld, evE_dget, evE_dct, evBs_nil, evBs_cons, evT_val, evT_bool, evT_not, evB_nil, evB_cons, evTs_nil, evTs_cons, evEs_nil, evEs_cons, evO_no, evO_so, evI_ex, evI_enum, evS_asg, evS_asgO, evS_unp, evS_expr, evS_ifs, evS_ret, evS_retN, evS_retO, evS_whl, evS_app, evS_ext, evS_seti, evS_dput, evS_raise, evS_frz, evS_pass, evS_brk, evS_cont, evSs_nil, evSs_cons, evE_comp, evS_for, isaD, isS]) (by omega)
    have en := ne_nil2 (ds := ds.filter fun d => !isS d) hc (gds_all.mpr fun d hd => hg d ((List.mem_filter.mp hd).1))
    by_cases hr : ds.filter (fun d => !isS d) = []
    · obtain ⟨ts, e⟩ := rest_nil.mp hr
      have er : needsB (.tup ds) = decide (pickW needL ts = ts) := by
        show (match strsOf ds with
          | some ts => decide (pickW needL ts = ts)
          | none => false) = _
        rw [e]
      have e2 := strsOf_some e
      rw [er]
      rw [hr] at ec en
      have en : cop .ne (.lst []) (.lst []) = some false := en
      have gt : ∀ x ∈ ts, ∀ z ∈ x.cps.toList, z < 1114112 := fun x hx => by
        have := hg (.str x) (by rw [e2]; exact List.mem_map_of_mem hx)
        exact gd_str.mp this
      have ec2 : compM (compF (Tb n) (.var 2) (.nm 2) (.cons (.val (.cmp .inn (.var 2) (.var 0))) .nil) [.val (.tup ds), .val (.lst [.str "maker", .str "name", .str "picture", .str "reader"]), .non]) [.str "maker", .str "name", .str "picture", .str "reader"] [] S = some (.ok (wrd (pickW needL ts)) S) := by
        refine (compM_fil (fun d => match d with | .str x => ts.any (· == x) | _ => false) _ (fun d hd => ?_) (by decide)).trans ?_
        · unfold compF
          have key : ∀ x : Str, d = .str x → rb (evTs (Tb n) (.cons (.val (.cmp .inn (.var 2) (.var 0))) .nil) [.val (.tup ds), .val (.lst [.str "maker", .str "name", .str "picture", .str "reader"]), .val (.str x)] S) (fun b S => if b = true then rb (evE (Tb n) (.var 2) [.val (.tup ds), .val (.lst [.str "maker", .str "name", .str "picture", .str "reader"]), .val (.str x)] S) fun d S => some (.ok (some d) S) else some (.ok none S)) = some (.ok (if ts.any (· == x) = true then some (.str x) else none) S) := fun x _ => by
            rw [e2, any_dec]
            by_cases hx : x ∈ ts
            · simp [evE_cst, evE_var, evE_pk, evE_fn, evE_gc, evE_tup, evE_lst, evE_bin, evE_cat, evE_neg, evE_cmp, evE_cmp2, evE_isN, evE_isB, evE_bool, evE_not, evE_ite, evE_idx, evE_slc, evE_rev, evE_call, evE_callK, evE_blt, evE_sset, evE_said, evE_isa, evE_cnt, evE_isaC, evE_fld, evE_dget, evE_dct, evBs_nil, evBs_cons, evT_val, evT_bool, evT_not, evB_nil, evB_cons, evTs_nil, evTs_cons, evEs_nil, evEs_cons, evO_no, evO_so, evI_ex, evI_enum, evS_asg, evS_asgO, evS_unp, evS_expr, evS_ifs, evS_ret, evS_retN, evS_retO, evS_whl, evS_app, evS_ext, evS_seti, evS_dput, evS_raise, evS_frz, evS_pass, evS_brk, evS_cont, evSs_nil, evSs_cons, evE_comp, evS_for, in_wrd, hx]
            · simp [evE_cst, evE_var, evE_pk, evE_fn, evE_gc, evE_tup, evE_lst, evE_bin, evE_cat, evE_neg, evE_cmp, evE_cmp2, evE_isN, evE_isB, evE_bool, evE_not, evE_ite, evE_idx, evE_slc, evE_rev, evE_call, evE_callK, evE_blt, evE_sset, evE_said, evE_isa, evE_cnt, evE_isaC, evE_fld, evE_dget, evE_dct, evBs_nil, evBs_cons, evT_val, evT_bool, evT_not, evB_nil, evB_cons, evTs_nil, evTs_cons, evEs_nil, evEs_cons, evO_no, evO_so, evI_ex, evI_enum, evS_asg, evS_asgO, evS_unp, evS_expr, evS_ifs, evS_ret, evS_retN, evS_retO, evS_whl, evS_app, evS_ext, evS_seti, evS_dput, evS_raise, evS_frz, evS_pass, evS_brk, evS_cont, evSs_nil, evSs_cons, evE_comp, evS_for, in_wrd, hx]
          simp only [List.mem_cons, List.not_mem_nil, or_false] at hd
          rcases hd with q | q | q | q <;> subst q <;> exact key _ rfl
        · refine congrArg (fun l => some (R.ok l S)) ?_
          exact fil_wrd ts needL
      have eq := eq_wrds (a := pickW needL ts) (b := ts) (fun x hx => needL_cps x ((List.mem_filter.mp hx).1)) gt
      rw [← e2] at eq
      generalize wrd (pickW needL ts) = W at ec2 eq
      simp [evE_cst, evE_var, evE_pk, evE_fn, evE_gc, evE_tup, evE_lst, evE_bin, evE_cat, evE_neg, evE_cmp, evE_cmp2, evE_isN, evE_isB, evE_bool, evE_not, evE_ite, evE_idx, evE_slc, evE_rev, evE_call, evE_callK, evE_blt, evE_sset, evE_said, evE_isa, evE_cnt, evE_isaC, evE_fld, evE_dget, evE_dct, evBs_nil, evBs_cons, evT_val, evT_bool, evT_not, evB_nil, evB_cons, evTs_nil, evTs_cons, evEs_nil, evEs_cons, evO_no, evO_so, evI_ex, evI_enum, evS_asg, evS_asgO, evS_unp, evS_expr, evS_ifs, evS_ret, evS_retN, evS_retO, evS_whl, evS_app, evS_ext, evS_seti, evS_dput, evS_raise, evS_frz, evS_pass, evS_brk, evS_cont, evSs_nil, evSs_cons, evE_comp, evS_for, isaD, ec, en, mkL_ok, ec2, mkL_ok (show ds.length ≤ 16777216 by omega), eq]
    · have er : needsB (.tup ds) = false := by
        show (match strsOf ds with
          | some ts => decide (pickW needL ts = ts)
          | none => false) = false
        cases e : strsOf ds with
        | none => rfl
        | some ts => exact (hr (rest_nil.mpr ⟨ts, e⟩)).elim
      have en : cop .ne (.lst (ds.filter fun d => !isS d)) (.lst []) = some true := by
        rw [en]
        cases q : ds.filter (fun d => !isS d) with
        | nil => exact (hr q).elim
        | cons _ _ => rfl
      rw [er]
      generalize (ds.filter fun d => !isS d) = W at ec en
      simp [evE_cst, evE_var, evE_pk, evE_fn, evE_gc, evE_tup, evE_lst, evE_bin, evE_cat, evE_neg, evE_cmp, evE_cmp2, evE_isN, evE_isB, evE_bool, evE_not, evE_ite, evE_idx, evE_slc, evE_rev, evE_call, evE_callK, evE_blt, evE_sset, evE_said, evE_isa, evE_cnt, evE_isaC, evE_fld, evE_dget, evE_dct, evBs_nil, evBs_cons, evT_val, evT_bool, evT_not, evB_nil, evB_cons, evTs_nil, evTs_cons, evEs_nil, evEs_cons, evO_no, evO_so, evI_ex, evI_enum, evS_asg, evS_asgO, evS_unp, evS_expr, evS_ifs, evS_ret, evS_retN, evS_retO, evS_whl, evS_app, evS_ext, evS_seti, evS_dput, evS_raise, evS_frz, evS_pass, evS_brk, evS_cont, evSs_nil, evSs_cons, evE_comp, evS_for, isaD, ec, en, mkL_ok]
  | _ => simp [evE_cst, evE_var, evE_pk, evE_fn, evE_gc, evE_tup, evE_lst, evE_bin, evE_cat, evE_neg, evE_cmp, evE_cmp2, evE_isN, evE_isB, evE_bool, evE_not, evE_ite, evE_idx, evE_slc, evE_rev, evE_call, evE_callK, evE_blt, evE_sset, evE_said, evE_isa, evE_cnt, evE_isaC, evE_fld, evE_dget, evE_dct, evBs_nil, evBs_cons, evT_val, evT_bool, evT_not, evB_nil, evB_cons, evTs_nil, evTs_cons, evEs_nil, evEs_cons, evO_no, evO_so, evI_ex, evI_enum, evS_asg, evS_asgO, evS_unp, evS_expr, evS_ifs, evS_ret, evS_retN, evS_retO, evS_whl, evS_app, evS_ext, evS_seti, evS_dput, evS_raise, evS_frz, evS_pass, evS_brk, evS_cont, evSs_nil, evSs_cons, evE_comp, evS_for, isaD, needsB]
end T07
end

section
set_option linter.all false
set_option maxRecDepth 100000
set_option Elab.async false
set_option maxHeartbeats 8000000
namespace T07
open PySem L2 Mi
theorem gd_tup2 {c : Nat} {a b : D} (h : gd c (.tup [a, b]) = true) : gd c a = true ∧ gd c b = true := by
  have h := gds_all.mp (show gds c [a, b] = true from h)
  exact ⟨h a (by simp), h b (by simp)⟩
theorem wt_tup2 {a b : D} : wt (.tup [a, b]) = wt a + 1 + (wt b + 1 + 0) := rfl
theorem clause_at {m c : Nat} (hm : 3 ≤ m) (hc : c ≤ 1000) {x : D} (h : gd c x = true) (hw : wt x ≤ 200000) {S : Sto} : (Tb m).f 6 [x] S = some (.ok (.bl (pairB x)) S) := by
  obtain ⟨n, rfl⟩ : ∃ n, m = n + 1 := ⟨m - 1, by omega⟩
  rw [tab_f (p := (1, b_6)) rfl, runF_eq]
  unfold b_6
  cases x with
  | loc _ => unfold gd at h; cases h
  | fn _ => unfold gd at h; cases h
  | tup ds =>
    match ds, h, hw with
    | [], _, _ => simp [evE_cst, evE_var, evE_pk, evE_fn, evE_gc, evE_tup, evE_lst, evE_bin, evE_cat, evE_neg, evE_cmp, evE_cmp2, evE_isN, evE_isB, evE_bool, evE_not, evE_ite, evE_idx, evE_slc, evE_rev, evE_call, evE_callK, evE_blt, evE_sset, evE_said, evE_isa, evE_cnt, evE_isaC, evE_fld, evE_dget, evE_dct, evBs_nil, evBs_cons, evT_val, evT_bool, evT_not, evB_nil, evB_cons, evTs_nil, evTs_cons, evEs_nil, evEs_cons, evO_no, evO_so, evI_ex, evI_enum, evS_asg, evS_asgO, evS_unp, evS_expr, evS_ifs, evS_ret, evS_retN, evS_retO, evS_whl, evS_app, evS_ext, evS_seti, evS_dput, evS_raise, evS_frz, evS_pass, evS_brk, evS_cont, evSs_nil, evSs_cons, evE_comp, evS_for, isaD, pairB]
    | [a], _, _ => simp [evE_cst, evE_var, evE_pk, evE_fn, evE_gc, evE_tup, evE_lst, evE_bin, evE_cat, evE_neg, evE_cmp, evE_cmp2, evE_isN, evE_isB, evE_bool, evE_not, evE_ite, evE_idx, evE_slc, evE_rev, evE_call, evE_callK, evE_blt, evE_sset, evE_said, evE_isa, evE_cnt, evE_isaC, evE_fld, evE_dget, evE_dct, evBs_nil, evBs_cons, evT_val, evT_bool, evT_not, evB_nil, evB_cons, evTs_nil, evTs_cons, evEs_nil, evEs_cons, evO_no, evO_so, evI_ex, evI_enum, evS_asg, evS_asgO, evS_unp, evS_expr, evS_ifs, evS_ret, evS_retN, evS_retO, evS_whl, evS_app, evS_ext, evS_seti, evS_dput, evS_raise, evS_frz, evS_pass, evS_brk, evS_cont, evSs_nil, evSs_cons, evE_comp, evS_for, isaD, pairB]
    | [a, b], h, hw =>
      have g := gd_tup2 h
      rw [wt_tup2] at hw
      have e1 := @mom_at n c (by omega) a g.1 S
      have e2 := @needs_at n c (by omega) hc b g.2 (by omega) S
      generalize hp : pairB (.tup [a, b]) = z
      have hp : (momB a && needsB b) = z := hp
      cases q : momB a <;> rw [q] at hp e1 <;> cases q2 : needsB b <;> rw [q2] at hp e2 <;> simp [evE_cst, evE_var, evE_pk, evE_fn, evE_gc, evE_tup, evE_lst, evE_bin, evE_cat, evE_neg, evE_cmp, evE_cmp2, evE_isN, evE_isB, evE_bool, evE_not, evE_ite, evE_idx, evE_slc, evE_rev, evE_call, evE_callK, evE_blt, evE_sset, evE_said, evE_isa, evE_cnt, evE_isaC, evE_fld, evE_dget, evE_dct, evBs_nil, evBs_cons, evT_val, evT_bool, evT_not, evB_nil, evB_cons, evTs_nil, evTs_cons, evEs_nil, evEs_cons, evO_no, evO_so, evI_ex, evI_enum, evS_asg, evS_asgO, evS_unp, evS_expr, evS_ifs, evS_ret, evS_retN, evS_retO, evS_whl, evS_app, evS_ext, evS_seti, evS_dput, evS_raise, evS_frz, evS_pass, evS_brk, evS_cont, evSs_nil, evSs_cons, evE_comp, evS_for, isaD, e1, e2, atD, L2.atI, L2.ixN] <;> simpa using hp
    | a :: b :: d :: r, _, _ =>
      have e : ¬ ((r.length : Int) + 1 + 1 + 1 = 2) := by omega
      simp [evE_cst, evE_var, evE_pk, evE_fn, evE_gc, evE_tup, evE_lst, evE_bin, evE_cat, evE_neg, evE_cmp, evE_cmp2, evE_isN, evE_isB, evE_bool, evE_not, evE_ite, evE_idx, evE_slc, evE_rev, evE_call, evE_callK, evE_blt, evE_sset, evE_said, evE_isa, evE_cnt, evE_isaC, evE_fld, evE_dget, evE_dct, evBs_nil, evBs_cons, evT_val, evT_bool, evT_not, evB_nil, evB_cons, evTs_nil, evTs_cons, evEs_nil, evEs_cons, evO_no, evO_so, evI_ex, evI_enum, evS_asg, evS_asgO, evS_unp, evS_expr, evS_ifs, evS_ret, evS_retN, evS_retO, evS_whl, evS_app, evS_ext, evS_seti, evS_dput, evS_raise, evS_frz, evS_pass, evS_brk, evS_cont, evSs_nil, evSs_cons, evE_comp, evS_for, isaD, pairB, e]
  | _ => simp [evE_cst, evE_var, evE_pk, evE_fn, evE_gc, evE_tup, evE_lst, evE_bin, evE_cat, evE_neg, evE_cmp, evE_cmp2, evE_isN, evE_isB, evE_bool, evE_not, evE_ite, evE_idx, evE_slc, evE_rev, evE_call, evE_callK, evE_blt, evE_sset, evE_said, evE_isa, evE_cnt, evE_isaC, evE_fld, evE_dget, evE_dct, evBs_nil, evBs_cons, evT_val, evT_bool, evT_not, evB_nil, evB_cons, evTs_nil, evTs_cons, evEs_nil, evEs_cons, evO_no, evO_so, evI_ex, evI_enum, evS_asg, evS_asgO, evS_unp, evS_expr, evS_ifs, evS_ret, evS_retN, evS_retO, evS_whl, evS_app, evS_ext, evS_seti, evS_dput, evS_raise, evS_frz, evS_pass, evS_brk, evS_cont, evSs_nil, evSs_cons, evE_comp, evS_for, isaD, pairB]
theorem pair2_at {m c : Nat} (hm : 3 ≤ m) (hc : c ≤ 1000) {x : D} (h : gd c x = true) (hw : wt x ≤ 200000) {S : Sto} : (Tb m).f 20 [x] S = some (.ok (.bl (pairB x)) S) := by
  obtain ⟨n, rfl⟩ : ∃ n, m = n + 1 := ⟨m - 1, by omega⟩
  rw [tab_f (p := (1, b_20)) rfl, runF_eq]
  unfold b_20
  cases x with
  | loc _ => unfold gd at h; cases h
  | fn _ => unfold gd at h; cases h
  | tup ds =>
    match ds, h, hw with
    | [], _, _ => simp [evE_cst, evE_var, evE_pk, evE_fn, evE_gc, evE_tup, evE_lst, evE_bin, evE_cat, evE_neg, evE_cmp, evE_cmp2, evE_isN, evE_isB, evE_bool, evE_not, evE_ite, evE_idx, evE_slc, evE_rev, evE_call, evE_callK, evE_blt, evE_sset, evE_said, evE_isa, evE_cnt, evE_isaC, evE_fld, evE_dget, evE_dct, evBs_nil, evBs_cons, evT_val, evT_bool, evT_not, evB_nil, evB_cons, evTs_nil, evTs_cons, evEs_nil, evEs_cons, evO_no, evO_so, evI_ex, evI_enum, evS_asg, evS_asgO, evS_unp, evS_expr, evS_ifs, evS_ret, evS_retN, evS_retO, evS_whl, evS_app, evS_ext, evS_seti, evS_dput, evS_raise, evS_frz, evS_pass, evS_brk, evS_cont, evSs_nil, evSs_cons, evE_comp, evS_for, isaD, pairB]
    | [a], _, _ => simp [evE_cst, evE_var, evE_pk, evE_fn, evE_gc, evE_tup, evE_lst, evE_bin, evE_cat, evE_neg, evE_cmp, evE_cmp2, evE_isN, evE_isB, evE_bool, evE_not, evE_ite, evE_idx, evE_slc, evE_rev, evE_call, evE_callK, evE_blt, evE_sset, evE_said, evE_isa, evE_cnt, evE_isaC, evE_fld, evE_dget, evE_dct, evBs_nil, evBs_cons, evT_val, evT_bool, evT_not, evB_nil, evB_cons, evTs_nil, evTs_cons, evEs_nil, evEs_cons, evO_no, evO_so, evI_ex, evI_enum, evS_asg, evS_asgO, evS_unp, evS_expr, evS_ifs, evS_ret, evS_retN, evS_retO, evS_whl, evS_app, evS_ext, evS_seti, evS_dput, evS_raise, evS_frz, evS_pass, evS_brk, evS_cont, evSs_nil, evSs_cons, evE_comp, evS_for, isaD, pairB]
    | [a, b], h, hw =>
      have g := gd_tup2 h
      rw [wt_tup2] at hw
      have e1 := @mom2_at n c (by omega) a g.1 S
      have e2 := @needs2_at n c (by omega) hc b g.2 (by omega) S
      generalize hp : pairB (.tup [a, b]) = z
      have hp : (momB a && needsB b) = z := hp
      cases q : momB a <;> rw [q] at hp e1 <;> cases q2 : needsB b <;> rw [q2] at hp e2 <;> simp [evE_cst, evE_var, evE_pk, evE_fn, evE_gc, evE_tup, evE_lst, evE_bin, evE_cat, evE_neg, evE_cmp, evE_cmp2, evE_isN, evE_isB, evE_bool, evE_not, evE_ite, evE_idx, evE_slc, evE_rev, evE_call, evE_callK, evE_blt, evE_sset, evE_said, evE_isa, evE_cnt, evE_isaC, evE_fld, evE_dget, evE_dct, evBs_nil, evBs_cons, evT_val, evT_bool, evT_not, evB_nil, evB_cons, evTs_nil, evTs_cons, evEs_nil, evEs_cons, evO_no, evO_so, evI_ex, evI_enum, evS_asg, evS_asgO, evS_unp, evS_expr, evS_ifs, evS_ret, evS_retN, evS_retO, evS_whl, evS_app, evS_ext, evS_seti, evS_dput, evS_raise, evS_frz, evS_pass, evS_brk, evS_cont, evSs_nil, evSs_cons, evE_comp, evS_for, isaD, e1, e2, atD, L2.atI, L2.ixN] <;> simpa using hp
    | a :: b :: d :: r, _, _ =>
      have e : ¬ ((r.length : Int) + 1 + 1 + 1 = 2) := by omega
      simp [evE_cst, evE_var, evE_pk, evE_fn, evE_gc, evE_tup, evE_lst, evE_bin, evE_cat, evE_neg, evE_cmp, evE_cmp2, evE_isN, evE_isB, evE_bool, evE_not, evE_ite, evE_idx, evE_slc, evE_rev, evE_call, evE_callK, evE_blt, evE_sset, evE_said, evE_isa, evE_cnt, evE_isaC, evE_fld, evE_dget, evE_dct, evBs_nil, evBs_cons, evT_val, evT_bool, evT_not, evB_nil, evB_cons, evTs_nil, evTs_cons, evEs_nil, evEs_cons, evO_no, evO_so, evI_ex, evI_enum, evS_asg, evS_asgO, evS_unp, evS_expr, evS_ifs, evS_ret, evS_retN, evS_retO, evS_whl, evS_app, evS_ext, evS_seti, evS_dput, evS_raise, evS_frz, evS_pass, evS_brk, evS_cont, evSs_nil, evSs_cons, evE_comp, evS_for, isaD, pairB, e]
  | _ => simp [evE_cst, evE_var, evE_pk, evE_fn, evE_gc, evE_tup, evE_lst, evE_bin, evE_cat, evE_neg, evE_cmp, evE_cmp2, evE_isN, evE_isB, evE_bool, evE_not, evE_ite, evE_idx, evE_slc, evE_rev, evE_call, evE_callK, evE_blt, evE_sset, evE_said, evE_isa, evE_cnt, evE_isaC, evE_fld, evE_dget, evE_dct, evBs_nil, evBs_cons, evT_val, evT_bool, evT_not, evB_nil, evB_cons, evTs_nil, evTs_cons, evEs_nil, evEs_cons, evO_no, evO_so, evI_ex, evI_enum, evS_asg, evS_asgO, evS_unp, evS_expr, evS_ifs, evS_ret, evS_retN, evS_retO, evS_whl, evS_app, evS_ext, evS_seti, evS_dput, evS_raise, evS_frz, evS_pass, evS_brk, evS_cont, evSs_nil, evSs_cons, evE_comp, evS_for, isaD, pairB]
theorem pairB_ex {x : D} (h : pairB x = true) : ∃ (m : Str) (ts : List Str), x = .tup [.str m, .tup (wrd ts)] := by
  cases x with
  | tup ds =>
    match ds, h with
    | [a, b], h =>
      have h : (momB a && needsB b) = true := h
      rw [Bool.and_eq_true] at h
      obtain ⟨m, rfl⟩ : ∃ m, a = .str m := by
        cases a with
        | str m => exact ⟨m, rfl⟩
        | _ => cases h.1
      obtain ⟨ts, rfl⟩ : ∃ ts, b = .tup (wrd ts) := by
        cases b with
        | tup es =>
          have h2 : (match strsOf es with
            | some ts => decide (pickW needL ts = ts)
            | none => false) = true := h.2
          cases e : strsOf es with
          | none => rw [e] at h2; cases h2
          | some ts => exact ⟨ts, by rw [strsOf_some e]⟩
        | _ => cases h.2
      exact ⟨m, ts, rfl⟩
    | [], h => cases h
    | [_], h => cases h
    | _ :: _ :: _ :: _, h => cases h
  | _ => cases h
theorem alike_strs : ∀ ts us : List Str, PySem.W.alikeAll (ts.map PyData.str) (us.map PyData.str) = true
  | [], us => by unfold PySem.W.alikeAll; rfl
  | t :: ts, [] => by rw [List.map_cons]; unfold PySem.W.alikeAll; rfl
  | t :: ts, u :: us => by
    have ih := alike_strs ts us
    rw [List.map_cons, List.map_cons]
    unfold PySem.W.alikeAll
    rw [ih]; rfl
end T07
end

section
set_option linter.all false
set_option maxRecDepth 100000
set_option Elab.async false
set_option maxHeartbeats 8000000
namespace T07
open PySem L2 Mi
/-! ### pairs as keys -/
theorem pairB_iff {d : D} : pairB d = true ↔ isPairD d := by
  constructor
  · intro h
    obtain ⟨m, ts, rfl⟩ := pairB_ex h
    have h : (momB (.str m) && needsB (.tup (wrd ts))) = true := h
    rw [Bool.and_eq_true] at h
    have hm : m ∈ momL := of_decide_eq_true h.1
    have hn : (match strsOf (wrd ts) with
      | some ts => decide (pickW needL ts = ts)
      | none => false) = true := h.2
    rw [strsOf_wrd] at hn
    have hn : pickW needL ts = ts := of_decide_eq_true hn
    have hs : ts.Sublist needL := by rw [← hn]; exact List.filter_sublist
    exact ⟨m, hm, ts, fun x hx => hs.subset hx, hs.length_le, hs, rfl⟩
  · rintro ⟨m, hm, ts, ht, hl, hs, rfl⟩
    show (momB (.str m) && needsB (.tup (wrd ts))) = true
    have h1 : momB (.str m) = true := decide_eq_true hm
    have h2 : needsB (.tup (wrd ts)) = true := by
      show (match strsOf (wrd ts) with
        | some ts => decide (pickW needL ts = ts)
        | none => false) = true
      rw [strsOf_wrd]
      exact decide_eq_true (pick_all (fun _ h => h) needL_pw (needL_pw.sublist hs) ht)
    rw [h1, h2]; rfl
theorem pairs_keys {ds : List D} (h : ∀ d ∈ ds, isPairD d) : ∃ ks, kyDs ds = some ks ∧ ds = unKs ks ∧ (∀ k ∈ ks, isPairK k) ∧ ks.length = ds.length := by
  obtain ⟨ks, e, hk, hn⟩ := ky_pairs h
  exact ⟨ks, e, (kys_un ds ks e).symm, hk, hn⟩
theorem text_datas (ts : List Str) : NestedKey.datas (ts.map .text) = ts.map PyData.str := by
  rw [datas_map, List.map_map]; rfl
theorem lt_pairK {p q : NestedKey} (h : isPairK p) (h' : isPairK q) : ltD (unK p) (unK q) = some (ltK p q) := by
  have al := pairK_alike h h'
  have dp := pairK_depth h
  obtain ⟨m, _, ts, _, _, _, rfl⟩ := h
  obtain ⟨m', _, ts', _, _, _, rfl⟩ := h'
  refine ltD_tup al ?_
  have dp : NestedKey.depthAll [.text m, .tup (ts.map .text)] + 1 ≤ 7 := dp
  omega
theorem momL_cps0 : ∀ x ∈ momL, PyData.strOk x = true := by decide +kernel
theorem needL_cps0 : ∀ x ∈ needL, PyData.strOk x = true := by decide +kernel
theorem texts_lay {L : List Str} (hL : ∀ x ∈ L, PyData.strOk x = true) : ∀ {ts : List Str}, (∀ x ∈ ts, x ∈ L) → PyData.canLayAll0 (ts.map PyData.str) = true
  | [], _ => rfl
  | t :: ts, h => by
    have ih := texts_lay hL (ts := ts) fun x hx => h x (List.mem_cons_of_mem _ hx)
    rw [List.map_cons]
    unfold PyData.canLayAll0
    rw [ih, Bool.and_true]
    exact hL t (h t (by simp))
theorem pairK_lay {k : NestedKey} (h : isPairK k) : PyData.canLay0 k.data = true := by
  obtain ⟨m, hm, ts, ht, _, _, rfl⟩ := h
  show PyData.canLayAll0 [.str m, .tuple (NestedKey.datas (ts.map .text))] = true
  rw [text_datas]
  unfold PyData.canLayAll0 PyData.canLayAll0 PyData.canLayAll0
  have e1 : PyData.canLay0 (.str m) = true := momL_cps0 m hm
  have e2 : PyData.canLay0 (.tuple (ts.map PyData.str)) = true := texts_lay needL_cps0 ht
  rw [e1, e2]; rfl
theorem pairsK_lay : ∀ {ks : List NestedKey}, (∀ k ∈ ks, isPairK k) → PyData.canLayAll0 (NestedKey.datas ks) = true
  | [], _ => rfl
  | k :: ks, h => by
    unfold NestedKey.datas PyData.canLayAll0
    rw [pairK_lay (h k (by simp)), pairsK_lay fun x hx => h x (List.mem_cons_of_mem _ hx)]; rfl
theorem pairsK_depth : ∀ {ks : List NestedKey}, (∀ k ∈ ks, isPairK k) → PyData.depthAll (NestedKey.datas ks) ≤ 7
  | [], _ => Nat.zero_le _
  | k :: ks, h => by
    have h1 := key_depth k
    have h2 := pairK_depth (h k (by simp))
    have h3 := pairsK_depth fun x hx => h x (List.mem_cons_of_mem _ hx)
    unfold NestedKey.datas PyData.depthAll
    omega
theorem pairsK_alike {ks : List NestedKey} (h : ∀ k ∈ ks, isPairK k) : AlikeK ks := fun p hp q hq => pairK_alike (h p hp) (h q hq)
theorem pairsK_ok {ks : List NestedKey} (h : ∀ k ∈ ks, isPairK k) (hl : ks.length < 64) : okSet ks = true := by
  unfold okSet
  rw [Bool.and_eq_true, Bool.and_eq_true, decide_eq_true_eq, List.all_eq_true, List.all_eq_true]
  refine ⟨⟨hl, fun k hk' => ?_⟩, fun p hp => List.all_eq_true.mpr fun q hq => pairK_alike (h p hp) (h q hq)⟩
  have hd := pairK_depth (h k hk')
  obtain ⟨m, _, ts, _, _, _, rfl⟩ := h k hk'
  exact decide_eq_true hd
/-- is_ascending of a row of keys -/
theorem asc_keys {m : Nat} (hm : 1 ≤ m) {ks : List NestedKey} (hl : ks.length ≤ 16777216) (hlt : ∀ p ∈ ks, ∀ q ∈ ks, ltD (unK p) (unK q) = some (ltK p q)) {S : Sto} : (Tb m).f 1 [.tup (unKs ks)] S = some (.ok (.bl (ascK ks)) S) := by
  obtain ⟨n, rfl⟩ : ∃ n, m = n + 1 := ⟨m - 1, by omega⟩
  have lw : (unKs ks).length = ks.length := by rw [unKs_map, List.length_map]
  rw [tab_f (p := (2, b_1)) rfl, runF_eq]
  unfold b_1
  cases ks with
  | nil =>
    have er : evI (Tb n) (.rng (.bin .sub (.blt .len (.var 0)) (.cst (.int 1)))) [.val (.tup (unKs [])), .non] S = _ := evI_rng_neg (S' := S) (by simp [evE_cst, evE_var, evE_pk, evE_fn, evE_gc, evE_tup, evE_lst, evE_bin, evE_cat, evE_neg, evE_cmp, evE_cmp2, evE_isN, evE_isB, evE_bool, evE_not, evE_ite, evE_idx, evE_slc, evE_rev, evE_call, evE_callK, evE_blt, evE_sset, evE_said, evE_isa, evE_cnt, evE_isaC, evE_fld, evE_dget, evE_dct, evBs_nil, evBs_cons, evT_val, evT_bool, evT_not, evB_nil, evB_cons, evTs_nil, evTs_cons, evEs_nil, evEs_cons, evO_no, evO_so, evI_ex, evI_enum, evS_asg, evS_asgO, evS_unp, evS_expr, evS_ifs, evS_ret, evS_retN, evS_retO, evS_whl, evS_app, evS_ext, evS_seti, evS_dput, evS_raise, evS_frz, evS_pass, evS_brk, evS_cont, evSs_nil, evSs_cons, evE_comp, evS_for, unKs])
    simp [evE_cst, evE_var, evE_pk, evE_fn, evE_gc, evE_tup, evE_lst, evE_bin, evE_cat, evE_neg, evE_cmp, evE_cmp2, evE_isN, evE_isB, evE_bool, evE_not, evE_ite, evE_idx, evE_slc, evE_rev, evE_call, evE_callK, evE_blt, evE_sset, evE_said, evE_isa, evE_cnt, evE_isaC, evE_fld, evE_dget, evE_dct, evBs_nil, evBs_cons, evT_val, evT_bool, evT_not, evB_nil, evB_cons, evTs_nil, evTs_cons, evEs_nil, evEs_cons, evO_no, evO_so, evI_ex, evI_enum, evS_asg, evS_asgO, evS_unp, evS_expr, evS_ifs, evS_ret, evS_retN, evS_retO, evS_whl, evS_app, evS_ext, evS_seti, evS_dput, evS_raise, evS_frz, evS_pass, evS_brk, evS_cont, evSs_nil, evSs_cons, evE_comp, evS_for, er, compM, bls, ascK]
  | cons t us =>
    have er : evI (Tb n) (.rng (.bin .sub (.blt .len (.var 0)) (.cst (.int 1)))) [.val (.tup (unKs (t :: us))), .non] S = _ := evI_rng_ok (n := us.length) (S' := S) (by
      simp [evE_cst, evE_var, evE_pk, evE_fn, evE_gc, evE_tup, evE_lst, evE_bin, evE_cat, evE_neg, evE_cmp, evE_cmp2, evE_isN, evE_isB, evE_bool, evE_not, evE_ite, evE_idx, evE_slc, evE_rev, evE_call, evE_callK, evE_blt, evE_sset, evE_said, evE_isa, evE_cnt, evE_isaC, evE_fld, evE_dget, evE_dct, evBs_nil, evBs_cons, evT_val, evT_bool, evT_not, evB_nil, evB_cons, evTs_nil, evTs_cons, evEs_nil, evEs_cons, evO_no, evO_so, evI_ex, evI_enum, evS_asg, evS_asgO, evS_unp, evS_expr, evS_ifs, evS_ret, evS_retN, evS_retO, evS_whl, evS_app, evS_ext, evS_seti, evS_dput, evS_raise, evS_frz, evS_pass, evS_brk, evS_cont, evSs_nil, evSs_cons, evE_comp, evS_for, lw]) (by simp at hl; omega)
    obtain ⟨F, hF⟩ : ∃ F : Nat → Bool, ∀ k, F k = ltK ((t :: us).getD k .none) ((t :: us).getD (k + 1) .none) := ⟨_, fun _ => rfl⟩
    have ec : compM (compF (Tb n) (.cmp .lt (.idx (.var 0) (.var 1)) (.idx (.var 0) (.bin .add (.var 1) (.cst (.int 1))))) (.nm 1) .nil [.val (.tup (unKs (t :: us))), .non]) ((List.range us.length).map fun (k : Nat) => D.int k) [] S = _ :=
      compM_pure (fun x => match x with | .int k => some (.bl (F k.toNat)) | _ => none) _ _ (fun x hx => by
        obtain ⟨k, hk, rfl⟩ := List.mem_map.mp hx
        have hk : k < us.length := List.mem_range.mp hk
        have a1 := atK (ks := t :: us) (k := k) (by simp; omega)
        have a2 := atK (ks := t :: us) (k := k + 1) (by simp; omega)
        rw [show ((k + 1 : Nat) : Int) = (k : Int) + 1 from rfl] at a2
        have cl : ∀ x y : D, cop .lt x y = ltD x y := fun x y => by cases x <;> rfl
        have m1 : (t :: us).getD k .none ∈ t :: us := by
          rw [List.getD_eq_getElem?_getD, List.getElem?_eq_getElem (by simp; omega)]
          exact List.getElem_mem _
        have m2 : (t :: us).getD (k + 1) .none ∈ t :: us := by
          rw [List.getD_eq_getElem?_getD, List.getElem?_eq_getElem (by simp; omega)]
          exact List.getElem_mem _
        have hlk := hlt _ m1 _ m2
        have hk := (hF k).symm
        generalize (t :: us).getD k .none = p at a1 hk hlk
        generalize (t :: us).getD (k + 1) .none = q at a2 hk hlk
        generalize unKs (t :: us) = W at a1 a2
        unfold compF
        simp [evE_cst, evE_var, evE_pk, evE_fn, evE_gc, evE_tup, evE_lst, evE_bin, evE_cat, evE_neg, evE_cmp, evE_cmp2, evE_isN, evE_isB, evE_bool, evE_not, evE_ite, evE_idx, evE_slc, evE_rev, evE_call, evE_callK, evE_blt, evE_sset, evE_said, evE_isa, evE_cnt, evE_isaC, evE_fld, evE_dget, evE_dct, evBs_nil, evBs_cons, evT_val, evT_bool, evT_not, evB_nil, evB_cons, evTs_nil, evTs_cons, evEs_nil, evEs_cons, evO_no, evO_so, evI_ex, evI_enum, evS_asg, evS_asgO, evS_unp, evS_expr, evS_ifs, evS_ret, evS_retN, evS_retO, evS_whl, evS_app, evS_ext, evS_seti, evS_dput, evS_raise, evS_frz, evS_pass, evS_brk, evS_cont, evSs_nil, evSs_cons, evE_comp, evS_for, a1, a2, cl, hlk, hk]) (by rw [List.length_map, List.length_range]; simp at hl ⊢; omega)
    have ed : ([] ++ ((List.range us.length).map fun (k : Nat) => D.int k).filterMap fun x => match x with | .int k => some (.bl (F k.toNat)) | _ => none) = ((List.range us.length).map fun (k : Nat) => D.bl (F k)) := by
      rw [List.nil_append, List.filterMap_map, ← List.filterMap_eq_map]
      rfl
    rw [ed] at ec
    have eb : bls ((List.range us.length).map fun (k : Nat) => D.bl (F k)) = some ((List.range us.length).map F) := by
      generalize List.range us.length = L
      induction L with
      | nil => rfl
      | cons a L ih =>
        show (bls _).map _ = _
        rw [ih]; rfl
    have ea := ascK_rng (t :: us) us.length rfl
    have ef : ((List.range us.length).map F).all id = ascK (t :: us) := by
      rw [List.all_map, ← ea]
      exact congrArg (List.all _) (funext hF)
    generalize unKs (t :: us) = W at er ec
    simp [evE_cst, evE_var, evE_pk, evE_fn, evE_gc, evE_tup, evE_lst, evE_bin, evE_cat, evE_neg, evE_cmp, evE_cmp2, evE_isN, evE_isB, evE_bool, evE_not, evE_ite, evE_idx, evE_slc, evE_rev, evE_call, evE_callK, evE_blt, evE_sset, evE_said, evE_isa, evE_cnt, evE_isaC, evE_fld, evE_dget, evE_dct, evBs_nil, evBs_cons, evT_val, evT_bool, evT_not, evB_nil, evB_cons, evTs_nil, evTs_cons, evEs_nil, evEs_cons, evO_no, evO_so, evI_ex, evI_enum, evS_asg, evS_asgO, evS_unp, evS_expr, evS_ifs, evS_ret, evS_retN, evS_retO, evS_whl, evS_app, evS_ext, evS_seti, evS_dput, evS_raise, evS_frz, evS_pass, evS_brk, evS_cont, evSs_nil, evSs_cons, evE_comp, evS_for, er, ec]
    rw [eb]
    simp [evE_cst, evE_var, evE_pk, evE_fn, evE_gc, evE_tup, evE_lst, evE_bin, evE_cat, evE_neg, evE_cmp, evE_cmp2, evE_isN, evE_isB, evE_bool, evE_not, evE_ite, evE_idx, evE_slc, evE_rev, evE_call, evE_callK, evE_blt, evE_sset, evE_said, evE_isa, evE_cnt, evE_isaC, evE_fld, evE_dget, evE_dct, evBs_nil, evBs_cons, evT_val, evT_bool, evT_not, evB_nil, evB_cons, evTs_nil, evTs_cons, evEs_nil, evEs_cons, evO_no, evO_so, evI_ex, evI_enum, evS_asg, evS_asgO, evS_unp, evS_expr, evS_ifs, evS_ret, evS_retN, evS_retO, evS_whl, evS_app, evS_ext, evS_seti, evS_dput, evS_raise, evS_frz, evS_pass, evS_brk, evS_cont, evSs_nil, evSs_cons, evE_comp, evS_for]
    rw [← ef, List.all_map]; rfl
/-! ### rules -/
def ruleB : D → Bool
  | .tup ds => ds.all pairB && (match kyDs ds with
    | some ks => ascK ks
    | none => false)
  | _ => false
theorem ruleB_of {ks : List NestedKey} (h : ∀ k ∈ ks, isPairK k) : ruleB (.tup (unKs ks)) = ascK ks := by
  have h1 : (unKs ks).all pairB = true := List.all_eq_true.mpr fun d hd => by
    rw [unKs_map] at hd
    obtain ⟨k, hk, rfl⟩ := List.mem_map.mp hd
    exact pairB_iff.mpr (unK_pair (h k hk))
  obtain ⟨ks', e1, e2, e3, e4⟩ := pairs_keys (ds := unKs ks) fun d hd => pairB_iff.mp (List.all_eq_true.mp h1 d hd)
  have e5 : ks' = ks := by
    have q := toPys_un ks
    rw [e2, toPys_un] at q
    exact datas_inj _ _ (Option.some.inj q)
  show ((unKs ks).all pairB && (match kyDs (unKs ks) with
    | some ks => ascK ks
    | none => false)) = _
  rw [h1, e1, e5]; rfl
theorem rule_at {m c : Nat} (hm : 4 ≤ m) (hc : c ≤ 1000) {x : D} (h : gd c x = true) (hw : wt x ≤ 200000) {S : Sto} : (Tb m).f 7 [x] S = some (.ok (.bl (ruleB x)) S) := by
  obtain ⟨n, rfl⟩ : ∃ n, m = n + 1 := ⟨m - 1, by omega⟩
  rw [tab_f (p := (2, b_7)) rfl, runF_eq]
  unfold b_7
  cases x with
  | loc _ => unfold gd at h; cases h
  | fn _ => unfold gd at h; cases h
  | tup ds =>
    have lw : wts ds ≤ 200000 := hw
    have ll := len_wts ds
    have hg := gds_all.mp (show gds c ds = true from h)
    have ec : compM (compF (Tb n) (.call 6 (.cons (.var 1) .nil)) (.nm 1) .nil [.val (.tup ds), .non]) ds [] S = _ :=
      compM_map (fun d => .bl (pairB d)) ds (fun d hd => by
        have e1 := @clause_at n c (by omega) hc d (hg d hd) (by have := wts_mem hd; omega) S
        unfold compF
        simp [evE_cst, evE_var, evE_pk, evE_fn, evE_gc, evE_tup, evE_lst, evE_bin, evE_cat, evE_neg, evE_cmp, evE_cmp2, evE_isN, evE_isB, evE_bool, evE_not, evE_ite, evE_idx, evE_slc, evE_rev, evE_call, evE_callK, evE_blt, evE_sset, evE_said, evE_isa, evE_cnt, evE_isaC, evE_fld, evE_dget, evE_dct, evBs_nil, evBs_cons, evT_val, evT_bool, evT_not, evB_nil, evB_cons, evTs_nil, evTs_cons, evEs_nil, evEs_cons, evO_no, evO_so, evI_ex, evI_enum, evS_asg, evS_asgO, evS_unp, evS_expr, evS_ifs, evS_ret, evS_retN, evS_retO, evS_whl, evS_app, evS_ext, evS_seti, evS_dput, evS_raise, evS_frz, evS_pass, evS_brk, evS_cont, evSs_nil, evSs_cons, evE_comp, evS_for, e1]) (by omega)
    have eb := bls_map pairB ds
    cases ha : ds.all pairB with
    | false =>
      have er : ruleB (.tup ds) = false := by
        show (ds.all pairB && _) = false
        rw [ha]; rfl
      rw [er]
      have ha2 : (ds.map pairB).all id = false := by rw [List.all_map]; exact ha
      generalize hL : (ds.map fun d => D.bl (pairB d)) = L at ec eb
      generalize hM : ds.map pairB = M at eb ha2
      simp [evE_cst, evE_var, evE_pk, evE_fn, evE_gc, evE_tup, evE_lst, evE_bin, evE_cat, evE_neg, evE_cmp, evE_cmp2, evE_isN, evE_isB, evE_bool, evE_not, evE_ite, evE_idx, evE_slc, evE_rev, evE_call, evE_callK, evE_blt, evE_sset, evE_said, evE_isa, evE_cnt, evE_isaC, evE_fld, evE_dget, evE_dct, evBs_nil, evBs_cons, evT_val, evT_bool, evT_not, evB_nil, evB_cons, evTs_nil, evTs_cons, evEs_nil, evEs_cons, evO_no, evO_so, evI_ex, evI_enum, evS_asg, evS_asgO, evS_unp, evS_expr, evS_ifs, evS_ret, evS_retN, evS_retO, evS_whl, evS_app, evS_ext, evS_seti, evS_dput, evS_raise, evS_frz, evS_pass, evS_brk, evS_cont, evSs_nil, evSs_cons, evE_comp, evS_for, isaD, ec, eb, ha2]
    | true =>
      obtain ⟨ks, e1, e2, e3, e4⟩ := pairs_keys (ds := ds) fun d hd => pairB_iff.mp (List.all_eq_true.mp ha d hd)
      have er : ruleB (.tup ds) = ascK ks := by rw [e2]; exact ruleB_of e3
      have e0 := @asc_keys n (by omega) ks (by omega) (fun p hp q hq => lt_pairK (e3 p hp) (e3 q hq)) S
      rw [← e2] at e0
      rw [er]
      have ha2 : (ds.map pairB).all id = true := by rw [List.all_map]; exact ha
      generalize hL : (ds.map fun d => D.bl (pairB d)) = L at ec eb
      generalize hM : ds.map pairB = M at eb ha2
      generalize ascK ks = z at e0
      cases z <;> simp [evE_cst, evE_var, evE_pk, evE_fn, evE_gc, evE_tup, evE_lst, evE_bin, evE_cat, evE_neg, evE_cmp, evE_cmp2, evE_isN, evE_isB, evE_bool, evE_not, evE_ite, evE_idx, evE_slc, evE_rev, evE_call, evE_callK, evE_blt, evE_sset, evE_said, evE_isa, evE_cnt, evE_isaC, evE_fld, evE_dget, evE_dct, evBs_nil, evBs_cons, evT_val, evT_bool, evT_not, evB_nil, evB_cons, evTs_nil, evTs_cons, evEs_nil, evEs_cons, evO_no, evO_so, evI_ex, evI_enum, evS_asg, evS_asgO, evS_unp, evS_expr, evS_ifs, evS_ret, evS_retN, evS_retO, evS_whl, evS_app, evS_ext, evS_seti, evS_dput, evS_raise, evS_frz, evS_pass, evS_brk, evS_cont, evSs_nil, evSs_cons, evE_comp, evS_for, isaD, ec, eb, ha2, e0]
  | _ => simp [evE_cst, evE_var, evE_pk, evE_fn, evE_gc, evE_tup, evE_lst, evE_bin, evE_cat, evE_neg, evE_cmp, evE_cmp2, evE_isN, evE_isB, evE_bool, evE_not, evE_ite, evE_idx, evE_slc, evE_rev, evE_call, evE_callK, evE_blt, evE_sset, evE_said, evE_isa, evE_cnt, evE_isaC, evE_fld, evE_dget, evE_dct, evBs_nil, evBs_cons, evT_val, evT_bool, evT_not, evB_nil, evB_cons, evTs_nil, evTs_cons, evEs_nil, evEs_cons, evO_no, evO_so, evI_ex, evI_enum, evS_asg, evS_asgO, evS_unp, evS_expr, evS_ifs, evS_ret, evS_retN, evS_retO, evS_whl, evS_app, evS_ext, evS_seti, evS_dput, evS_raise, evS_frz, evS_pass, evS_brk, evS_cont, evSs_nil, evSs_cons, evE_comp, evS_for, isaD, ruleB]
theorem sset_pairs {ks : List NestedKey} (h : ∀ k ∈ ks, isPairK k) (hl : ks.length < 64) {x : D} (hx : seqL x = some (unKs ks)) (hk : kyDs (unKs ks) = some ks) : ssetD x = some (.lst (unKs (ssetL ks))) := by
  unfold ssetD
  rw [hx]
  show (match kyDs (unKs ks) with
    | some ks => if (okSet ks || okTx ks) = true then some (D.lst (unKs (ssetL ks))) else none
    | none => none) = _
  rw [hk]
  show (if (okSet ks || okTx ks) = true then some (D.lst (unKs (ssetL ks))) else none) = _
  rw [pairsK_ok h hl]; rfl
theorem plan2_at {m c : Nat} (hm : 4 ≤ m) (hc : c ≤ 1000) {x : D} (h : gd c x = true) (hw : wt x ≤ 200000) (ht : tl x < 64) {S : Sto} : (Tb m).f 21 [x] S = some (.ok (.bl (ruleB x)) S) := by
  obtain ⟨n, rfl⟩ : ∃ n, m = n + 1 := ⟨m - 1, by omega⟩
  rw [tab_f (p := (2, b_21)) rfl, runF_eq]
  unfold b_21
  cases x with
  | loc _ => unfold gd at h; cases h
  | fn _ => unfold gd at h; cases h
  | tup ds =>
    have lw : wts ds ≤ 200000 := hw
    have ll := len_wts ds
    have ht : ds.length < 64 := ht
    have hg := gds_all.mp (show gds c ds = true from h)
    have ec : compM (compF (Tb n) (.var 1) (.nm 1) (.cons (.not (.val (.call 20 (.cons (.var 1) .nil)))) .nil) [.val (.tup ds), .non]) ds [] S = _ :=
      compM_fil (fun d => !pairB d) ds (fun d hd => by
        have e1 := @pair2_at n c (by omega) hc d (hg d hd) (by have := wts_mem hd; omega) S
        unfold compF
        cases q : pairB d <;> rw [q] at e1 <;> simp [evE_cst, evE_var, evE_pk, evE_fn, evE_gc, evE_tup, evE_lst, evE_bin, evE_cat, evE_neg, evE_cmp, evE_cmp2, evE_isN, evE_isB, evE_bool, evE_not, evE_ite, evE_idx, evE_slc, evE_rev, evE_call, evE_callK, evE_blt, evE_sset, evE_said, evE_isa, evE_cnt, evE_isaC, evE_fld, evE_dget, evE_dct, evBs_nil, evBs_cons, evT_val, evT_bool, evT_not, evB_nil, evB_cons, evTs_nil, evTs_cons, evEs_nil, evEs_cons, evO_no, evO_so, evI_ex, evI_enum, evS_asg, evS_asgO, evS_unp, evS_expr, evS_ifs, evS_ret, evS_retN, evS_retO, evS_whl, evS_app, evS_ext, evS_seti, evS_dput, evS_raise, evS_frz, evS_pass, evS_brk, evS_cont, evSs_nil, evSs_cons, evE_comp, evS_for, e1]) (by omega)
    have en := ne_nil2 (ds := ds.filter fun d => !pairB d) hc (gds_all.mpr fun d hd => hg d ((List.mem_filter.mp hd).1))
    cases ha : ds.all pairB with
    | false =>
      have er : ruleB (.tup ds) = false := by
        show (ds.all pairB && _) = false
        rw [ha]; rfl
      have ne : (ds.filter fun d => !pairB d).isEmpty = false := by
        cases q : ds.filter (fun d => !pairB d) with
        | cons _ _ => rfl
        | nil =>
          have : ds.all pairB = true := List.all_eq_true.mpr fun d hd => by
            have := List.filter_eq_nil_iff.mp q d hd
            simpa using this
          rw [this] at ha
          cases ha
      rw [ne] at en
      rw [er]
      generalize (ds.filter fun d => !pairB d) = W at ec en
      simp [evE_cst, evE_var, evE_pk, evE_fn, evE_gc, evE_tup, evE_lst, evE_bin, evE_cat, evE_neg, evE_cmp, evE_cmp2, evE_isN, evE_isB, evE_bool, evE_not, evE_ite, evE_idx, evE_slc, evE_rev, evE_call, evE_callK, evE_blt, evE_sset, evE_said, evE_isa, evE_cnt, evE_isaC, evE_fld, evE_dget, evE_dct, evBs_nil, evBs_cons, evT_val, evT_bool, evT_not, evB_nil, evB_cons, evTs_nil, evTs_cons, evEs_nil, evEs_cons, evO_no, evO_so, evI_ex, evI_enum, evS_asg, evS_asgO, evS_unp, evS_expr, evS_ifs, evS_ret, evS_retN, evS_retO, evS_whl, evS_app, evS_ext, evS_seti, evS_dput, evS_raise, evS_frz, evS_pass, evS_brk, evS_cont, evSs_nil, evSs_cons, evE_comp, evS_for, isaD, ec, en, mkL_ok]
    | true =>
      obtain ⟨ks, e1, e2, e3, e4⟩ := pairs_keys (ds := ds) fun d hd => pairB_iff.mp (List.all_eq_true.mp ha d hd)
      have ye : (ds.filter fun d => !pairB d) = [] := List.filter_eq_nil_iff.mpr fun d hd => by
        have := List.all_eq_true.mp ha d hd
        simp [this]
      rw [ye] at ec en
      have er : ruleB (.tup ds) = ascK ks := by rw [e2]; exact ruleB_of e3
      have es := sset_pairs (x := .tup ds) e3 (by omega) (by rw [e2]; rfl) (by rw [← e2]; exact e1)
      have eq := eq_keysL (a := ks) (b := ssetL ks) (pairsK_lay e3) (pairsK_lay fun k hk => e3 k (sset_mem.mp hk)) (Nat.le_trans (pairsK_depth e3) (by decide))
      rw [sset_iff (pairsK_alike e3), ← e2] at eq
      rw [er]
      have en : cop .ne (.lst []) (.lst []) = some false := en
      generalize unKs (ssetL ks) = W at es eq
      generalize ascK ks = z at eq
      simp [evE_cst, evE_var, evE_pk, evE_fn, evE_gc, evE_tup, evE_lst, evE_bin, evE_cat, evE_neg, evE_cmp, evE_cmp2, evE_isN, evE_isB, evE_bool, evE_not, evE_ite, evE_idx, evE_slc, evE_rev, evE_call, evE_callK, evE_blt, evE_sset, evE_said, evE_isa, evE_cnt, evE_isaC, evE_fld, evE_dget, evE_dct, evBs_nil, evBs_cons, evT_val, evT_bool, evT_not, evB_nil, evB_cons, evTs_nil, evTs_cons, evEs_nil, evEs_cons, evO_no, evO_so, evI_ex, evI_enum, evS_asg, evS_asgO, evS_unp, evS_expr, evS_ifs, evS_ret, evS_retN, evS_retO, evS_whl, evS_app, evS_ext, evS_seti, evS_dput, evS_raise, evS_frz, evS_pass, evS_brk, evS_cont, evSs_nil, evSs_cons, evE_comp, evS_for, isaD, ec, en, mkL_ok, mkL_ok (show ds.length ≤ 16777216 by omega), es, eq]
  | _ => simp [evE_cst, evE_var, evE_pk, evE_fn, evE_gc, evE_tup, evE_lst, evE_bin, evE_cat, evE_neg, evE_cmp, evE_cmp2, evE_isN, evE_isB, evE_bool, evE_not, evE_ite, evE_idx, evE_slc, evE_rev, evE_call, evE_callK, evE_blt, evE_sset, evE_said, evE_isa, evE_cnt, evE_isaC, evE_fld, evE_dget, evE_dct, evBs_nil, evBs_cons, evT_val, evT_bool, evT_not, evB_nil, evB_cons, evTs_nil, evTs_cons, evEs_nil, evEs_cons, evO_no, evO_so, evI_ex, evI_enum, evS_asg, evS_asgO, evS_unp, evS_expr, evS_ifs, evS_ret, evS_retN, evS_retO, evS_whl, evS_app, evS_ext, evS_seti, evS_dput, evS_raise, evS_frz, evS_pass, evS_brk, evS_cont, evSs_nil, evSs_cons, evE_comp, evS_for, isaD, ruleB]
end T07
end

section
set_option linter.all false
set_option maxRecDepth 100000
set_option Elab.async false
set_option maxHeartbeats 8000000
namespace T07
open PySem L2 Mi
/-! ### sets of moments -/
theorem wrd_un (ts : List Str) : unKs (ts.map .text) = wrd ts := un_texts ts
theorem texts_alikeK (ts : List Str) : AlikeK (ts.map .text) := fun p hp q hq => by
  obtain ⟨x, _, rfl⟩ := List.mem_map.mp hp
  obtain ⟨y, _, rfl⟩ := List.mem_map.mp hq
  unfold NestedKey.data PySem.W.alike; rfl
theorem lt_textK {ts : List Str} : ∀ p ∈ ts.map NestedKey.text, ∀ q ∈ ts.map NestedKey.text, ltD (unK p) (unK q) = some (ltK p q) := fun p hp q hq => by
  obtain ⟨x, _, rfl⟩ := List.mem_map.mp hp
  obtain ⟨y, _, rfl⟩ := List.mem_map.mp hq
  exact ltD_text x y
def momsB : D → Bool
  | .tup ds => match strsOf ds with
    | some ts => (ts.all fun x => decide (x ∈ momL)) && ascK (ts.map .text)
    | none => false
  | _ => false
theorem momsB_wrd (ts : List Str) : momsB (.tup (wrd ts)) = ((ts.all fun x => decide (x ∈ momL)) && ascK (ts.map .text)) := by
  show (match strsOf (wrd ts) with
    | some ts => (ts.all fun x => decide (x ∈ momL)) && ascK (ts.map .text)
    | none => false) = _
  rw [strsOf_wrd]
theorem moms_all {ds : List D} (h : ds.all momB = true) : ∃ ts, ds = wrd ts ∧ ∀ x ∈ ts, x ∈ momL := by
  induction ds with
  | nil => exact ⟨[], rfl, fun _ h => (List.not_mem_nil h).elim⟩
  | cons d ds ih =>
    rw [List.all_cons, Bool.and_eq_true] at h
    obtain ⟨ts, rfl, ht⟩ := ih h.2
    cases d with
    | str x =>
      have hx : x ∈ momL := of_decide_eq_true h.1
      exact ⟨x :: ts, rfl, fun y hy => by
        rcases List.mem_cons.mp hy with e | e
        · rw [e]; exact hx
        · exact ht y e⟩
    | _ => cases h.1
theorem moms_not {ds : List D} (h : ds.all momB = false) : momsB (.tup ds) = false := by
  cases q : strsOf ds with
  | none => show (match strsOf ds with | some ts => _ | none => false) = false; rw [q]
  | some ts =>
    have e := strsOf_some q
    subst e
    rw [momsB_wrd]
    have : (ts.all fun x => decide (x ∈ momL)) = false := by
      rw [← h]
      clear h q
      induction ts with
      | nil => rfl
      | cons t ts ih =>
        show (_ && _) = (momB (.str t) && (wrd ts).all momB)
        rw [← ih]; rfl
    rw [this]; rfl
theorem moms_at {m c : Nat} (hm : 2 ≤ m) (hc : c ≤ 1000) {x : D} (h : gd c x = true) (hw : wt x ≤ 200000) {S : Sto} : (Tb m).f 5 [x] S = some (.ok (.bl (momsB x)) S) := by
  obtain ⟨n, rfl⟩ : ∃ n, m = n + 1 := ⟨m - 1, by omega⟩
  rw [tab_f (p := (2, b_5)) rfl, runF_eq]
  unfold b_5
  cases x with
  | loc _ => unfold gd at h; cases h
  | fn _ => unfold gd at h; cases h
  | tup ds =>
    have lw : wts ds ≤ 200000 := hw
    have ll := len_wts ds
    have hg := gds_all.mp (show gds c ds = true from h)
    have ec : compM (compF (Tb n) (.call 3 (.cons (.var 1) .nil)) (.nm 1) .nil [.val (.tup ds), .non]) ds [] S = _ :=
      compM_map (fun d => .bl (momB d)) ds (fun d hd => by
        have e1 := @mom_at n c (by omega) d (hg d hd) S
        unfold compF
        simp [evE_cst, evE_var, evE_pk, evE_fn, evE_gc, evE_tup, evE_lst, evE_bin, evE_cat, evE_neg, evE_cmp, evE_cmp2, evE_isN, evE_isB, evE_bool, evE_not, evE_ite, evE_idx, evE_slc, evE_rev, evE_call, evE_callK, evE_blt, evE_sset, evE_said, evE_isa, evE_cnt, evE_isaC, evE_fld, evE_dget, evE_dct, evBs_nil, evBs_cons, evT_val, evT_bool, evT_not, evB_nil, evB_cons, evTs_nil, evTs_cons, evEs_nil, evEs_cons, evO_no, evO_so, evI_ex, evI_enum, evS_asg, evS_asgO, evS_unp, evS_expr, evS_ifs, evS_ret, evS_retN, evS_retO, evS_whl, evS_app, evS_ext, evS_seti, evS_dput, evS_raise, evS_frz, evS_pass, evS_brk, evS_cont, evSs_nil, evSs_cons, evE_comp, evS_for, e1]) (by omega)
    have eb := bls_map momB ds
    cases ha : ds.all momB with
    | false =>
      rw [moms_not ha]
      have ha2 : (ds.map momB).all id = false := by rw [List.all_map]; exact ha
      generalize hL : (ds.map fun d => D.bl (momB d)) = L at ec eb
      generalize hM : ds.map momB = M at eb ha2
      simp [evE_cst, evE_var, evE_pk, evE_fn, evE_gc, evE_tup, evE_lst, evE_bin, evE_cat, evE_neg, evE_cmp, evE_cmp2, evE_isN, evE_isB, evE_bool, evE_not, evE_ite, evE_idx, evE_slc, evE_rev, evE_call, evE_callK, evE_blt, evE_sset, evE_said, evE_isa, evE_cnt, evE_isaC, evE_fld, evE_dget, evE_dct, evBs_nil, evBs_cons, evT_val, evT_bool, evT_not, evB_nil, evB_cons, evTs_nil, evTs_cons, evEs_nil, evEs_cons, evO_no, evO_so, evI_ex, evI_enum, evS_asg, evS_asgO, evS_unp, evS_expr, evS_ifs, evS_ret, evS_retN, evS_retO, evS_whl, evS_app, evS_ext, evS_seti, evS_dput, evS_raise, evS_frz, evS_pass, evS_brk, evS_cont, evSs_nil, evSs_cons, evE_comp, evS_for, isaD, ec, eb, ha2]
    | true =>
      obtain ⟨ts, rfl, ht⟩ := moms_all ha
      have lt : (wrd ts).length = ts.length := List.length_map ..
      have e0 := @asc_keys n (by omega) (ts.map .text) (by rw [List.length_map]; omega) lt_textK S
      rw [wrd_un] at e0
      have ea : (ts.all fun x => decide (x ∈ momL)) = true := List.all_eq_true.mpr fun x hx => decide_eq_true (ht x hx)
      rw [momsB_wrd, ea, Bool.true_and]
      have ha2 : ((wrd ts).map momB).all id = true := by rw [List.all_map]; exact ha
      generalize hL : ((wrd ts).map fun d => D.bl (momB d)) = L at ec eb
      generalize hM : (wrd ts).map momB = M at eb ha2
      generalize ascK (ts.map .text) = z at e0
      cases z <;> simp [evE_cst, evE_var, evE_pk, evE_fn, evE_gc, evE_tup, evE_lst, evE_bin, evE_cat, evE_neg, evE_cmp, evE_cmp2, evE_isN, evE_isB, evE_bool, evE_not, evE_ite, evE_idx, evE_slc, evE_rev, evE_call, evE_callK, evE_blt, evE_sset, evE_said, evE_isa, evE_cnt, evE_isaC, evE_fld, evE_dget, evE_dct, evBs_nil, evBs_cons, evT_val, evT_bool, evT_not, evB_nil, evB_cons, evTs_nil, evTs_cons, evEs_nil, evEs_cons, evO_no, evO_so, evI_ex, evI_enum, evS_asg, evS_asgO, evS_unp, evS_expr, evS_ifs, evS_ret, evS_retN, evS_retO, evS_whl, evS_app, evS_ext, evS_seti, evS_dput, evS_raise, evS_frz, evS_pass, evS_brk, evS_cont, evSs_nil, evSs_cons, evE_comp, evS_for, isaD, ec, eb, ha2, e0]
  | _ => simp [evE_cst, evE_var, evE_pk, evE_fn, evE_gc, evE_tup, evE_lst, evE_bin, evE_cat, evE_neg, evE_cmp, evE_cmp2, evE_isN, evE_isB, evE_bool, evE_not, evE_ite, evE_idx, evE_slc, evE_rev, evE_call, evE_callK, evE_blt, evE_sset, evE_said, evE_isa, evE_cnt, evE_isaC, evE_fld, evE_dget, evE_dct, evBs_nil, evBs_cons, evT_val, evT_bool, evT_not, evB_nil, evB_cons, evTs_nil, evTs_cons, evEs_nil, evEs_cons, evO_no, evO_so, evI_ex, evI_enum, evS_asg, evS_asgO, evS_unp, evS_expr, evS_ifs, evS_ret, evS_retN, evS_retO, evS_whl, evS_app, evS_ext, evS_seti, evS_dput, evS_raise, evS_frz, evS_pass, evS_brk, evS_cont, evSs_nil, evSs_cons, evE_comp, evS_for, isaD, momsB]
theorem texts_ok {ts : List Str} (h : ts.length < 64) : okTx (ts.map .text) = true := by
  unfold okTx
  rw [Bool.and_eq_true, decide_eq_true_eq, List.length_map]
  refine ⟨h, List.all_eq_true.mpr fun k hk => ?_⟩
  obtain ⟨x, _, rfl⟩ := List.mem_map.mp hk
  rfl
theorem sset_texts {ts : List Str} (h : ts.length < 64) {x : D} (hx : seqL x = some (wrd ts)) : ssetD x = some (.lst (unKs (ssetL (ts.map .text)))) := by
  unfold ssetD
  rw [hx]
  show (match kyDs (wrd ts) with
    | some ks => if (okSet ks || okTx ks) = true then some (D.lst (unKs (ssetL ks))) else none
    | none => none) = _
  rw [ky_wrd]
  show (if (okSet (ts.map .text) || okTx (ts.map .text)) = true then some (D.lst (unKs (ssetL (ts.map .text)))) else none) = _
  rw [texts_ok h, Bool.or_true]; rfl
theorem textsK_lay {L ts : List Str} (hL : ∀ x ∈ L, PyData.strOk x = true) (h : ∀ x ∈ ts, x ∈ L) {ks : List NestedKey} (hk : ∀ k ∈ ks, k ∈ ts.map NestedKey.text) : PyData.canLayAll0 (NestedKey.datas ks) = true := by
  induction ks with
  | nil => rfl
  | cons k ks ih =>
    obtain ⟨x, hx, rfl⟩ := List.mem_map.mp (hk k (by simp))
    unfold NestedKey.datas PyData.canLayAll0
    rw [ih fun y hy => hk y (List.mem_cons_of_mem _ hy)]
    have : PyData.canLay0 (NestedKey.text x).data = true := hL x (h x hx)
    rw [this]; rfl
theorem textsK_depth (ts : List Str) : PyData.depthAll (NestedKey.datas (ts.map .text)) ≤ 60 := by
  rw [text_datas, depth_strs]; decide
/-- a row of moments compared with its own set -/
theorem parts_at {m c : Nat} (hm : 2 ≤ m) (hc : c ≤ 1000) {x : D} (h : gd c x = true) (hw : wt x ≤ 200000) (ht : tl x < 64) {S : Sto} : (Tb m).f 31 [x] S = some (.ok (.bl (momsB x)) S) := by
  obtain ⟨n, rfl⟩ : ∃ n, m = n + 1 := ⟨m - 1, by omega⟩
  rw [tab_f (p := (2, b_31)) rfl, runF_eq]
  unfold b_31
  cases x with
  | loc _ => unfold gd at h; cases h
  | fn _ => unfold gd at h; cases h
  | tup ds =>
    have lw : wts ds ≤ 200000 := hw
    have ll := len_wts ds
    have ht : ds.length < 64 := ht
    have hg := gds_all.mp (show gds c ds = true from h)
    have ec : compM (compF (Tb n) (.var 1) (.nm 1) (.cons (.not (.val (.call 19 (.cons (.var 1) .nil)))) .nil) [.val (.tup ds), .non]) ds [] S = _ :=
      compM_fil (fun d => !momB d) ds (fun d hd => by
        have e1 := @mom2_at n c (by omega) d (hg d hd) S
        unfold compF
        cases q : momB d <;> rw [q] at e1 <;> simp [evE_cst, evE_var, evE_pk, evE_fn, evE_gc, evE_tup, evE_lst, evE_bin, evE_cat, evE_neg, evE_cmp, evE_cmp2, evE_isN, evE_isB, evE_bool, evE_not, evE_ite, evE_idx, evE_slc, evE_rev, evE_call, evE_callK, evE_blt, evE_sset, evE_said, evE_isa, evE_cnt, evE_isaC, evE_fld, evE_dget, evE_dct, evBs_nil, evBs_cons, evT_val, evT_bool, evT_not, evB_nil, evB_cons, evTs_nil, evTs_cons, evEs_nil, evEs_cons, evO_no, evO_so, evI_ex, evI_enum, evS_asg, evS_asgO, evS_unp, evS_expr, evS_ifs, evS_ret, evS_retN, evS_retO, evS_whl, evS_app, evS_ext, evS_seti, evS_dput, evS_raise, evS_frz, evS_pass, evS_brk, evS_cont, evSs_nil, evSs_cons, evE_comp, evS_for, e1]) (by omega)
    have en := ne_nil2 (ds := ds.filter fun d => !momB d) hc (gds_all.mpr fun d hd => hg d ((List.mem_filter.mp hd).1))
    cases ha : ds.all momB with
    | false =>
      have ne : (ds.filter fun d => !momB d).isEmpty = false := by
        cases q : ds.filter (fun d => !momB d) with
        | cons _ _ => rfl
        | nil =>
          have : ds.all momB = true := List.all_eq_true.mpr fun d hd => by
            have := List.filter_eq_nil_iff.mp q d hd
            simpa using this
          rw [this] at ha
          cases ha
      rw [ne] at en
      rw [moms_not ha]
      generalize (ds.filter fun d => !momB d) = W at ec en
      simp [evE_cst, evE_var, evE_pk, evE_fn, evE_gc, evE_tup, evE_lst, evE_bin, evE_cat, evE_neg, evE_cmp, evE_cmp2, evE_isN, evE_isB, evE_bool, evE_not, evE_ite, evE_idx, evE_slc, evE_rev, evE_call, evE_callK, evE_blt, evE_sset, evE_said, evE_isa, evE_cnt, evE_isaC, evE_fld, evE_dget, evE_dct, evBs_nil, evBs_cons, evT_val, evT_bool, evT_not, evB_nil, evB_cons, evTs_nil, evTs_cons, evEs_nil, evEs_cons, evO_no, evO_so, evI_ex, evI_enum, evS_asg, evS_asgO, evS_unp, evS_expr, evS_ifs, evS_ret, evS_retN, evS_retO, evS_whl, evS_app, evS_ext, evS_seti, evS_dput, evS_raise, evS_frz, evS_pass, evS_brk, evS_cont, evSs_nil, evSs_cons, evE_comp, evS_for, isaD, ec, en, mkL_ok]
    | true =>
      obtain ⟨ts, rfl, hts⟩ := moms_all ha
      have lt : (wrd ts).length = ts.length := List.length_map ..
      have ye : ((wrd ts).filter fun d => !momB d) = [] := List.filter_eq_nil_iff.mpr fun d hd => by
        have := List.all_eq_true.mp ha d hd
        simp [this]
      rw [ye] at ec en
      have ea : (ts.all fun x => decide (x ∈ momL)) = true := List.all_eq_true.mpr fun x hx => decide_eq_true (hts x hx)
      have es := sset_texts (ts := ts) (x := .tup (wrd ts)) (by omega) rfl
      have eq := eq_keysL (a := ts.map .text) (b := ssetL (ts.map .text)) (textsK_lay momL_cps0 hts fun k hk => hk) (textsK_lay momL_cps0 hts fun k hk => sset_mem.mp hk) (textsK_depth ts)
      rw [sset_iff (texts_alikeK ts), wrd_un] at eq
      rw [momsB_wrd, ea, Bool.true_and]
      have en : cop .ne (.lst []) (.lst []) = some false := en
      generalize unKs (ssetL (ts.map .text)) = W at es eq
      generalize ascK (ts.map .text) = z at eq
      simp [evE_cst, evE_var, evE_pk, evE_fn, evE_gc, evE_tup, evE_lst, evE_bin, evE_cat, evE_neg, evE_cmp, evE_cmp2, evE_isN, evE_isB, evE_bool, evE_not, evE_ite, evE_idx, evE_slc, evE_rev, evE_call, evE_callK, evE_blt, evE_sset, evE_said, evE_isa, evE_cnt, evE_isaC, evE_fld, evE_dget, evE_dct, evBs_nil, evBs_cons, evT_val, evT_bool, evT_not, evB_nil, evB_cons, evTs_nil, evTs_cons, evEs_nil, evEs_cons, evO_no, evO_so, evI_ex, evI_enum, evS_asg, evS_asgO, evS_unp, evS_expr, evS_ifs, evS_ret, evS_retN, evS_retO, evS_whl, evS_app, evS_ext, evS_seti, evS_dput, evS_raise, evS_frz, evS_pass, evS_brk, evS_cont, evSs_nil, evSs_cons, evE_comp, evS_for, isaD, ec, en, mkL_ok, mkL_ok (show (wrd ts).length ≤ 16777216 by omega), es, eq]
  | _ => simp [evE_cst, evE_var, evE_pk, evE_fn, evE_gc, evE_tup, evE_lst, evE_bin, evE_cat, evE_neg, evE_cmp, evE_cmp2, evE_isN, evE_isB, evE_bool, evE_not, evE_ite, evE_idx, evE_slc, evE_rev, evE_call, evE_callK, evE_blt, evE_sset, evE_said, evE_isa, evE_cnt, evE_isaC, evE_fld, evE_dget, evE_dct, evBs_nil, evBs_cons, evT_val, evT_bool, evT_not, evB_nil, evB_cons, evTs_nil, evTs_cons, evEs_nil, evEs_cons, evO_no, evO_so, evI_ex, evI_enum, evS_asg, evS_asgO, evS_unp, evS_expr, evS_ifs, evS_ret, evS_retN, evS_retO, evS_whl, evS_app, evS_ext, evS_seti, evS_dput, evS_raise, evS_frz, evS_pass, evS_brk, evS_cont, evSs_nil, evSs_cons, evE_comp, evS_for, isaD, momsB]
/-! ### what is given back -/
/-- one clause -/
def frees1 (ms ns : List Str) : D → Bool
  | .tup [.str m, .tup ts] => decide (m ∈ ms) && (match strsOf ts with
    | some ts => ts.all fun x => !decide (x ∈ ns)
    | none => false)
  | _ => false
theorem frees1_wrd {ms ns : List Str} {m : Str} {ts : List Str} : frees1 ms ns (.tup [.str m, .tup (wrd ts)]) = (decide (m ∈ ms) && ts.all fun x => !decide (x ∈ ns)) := by
  show (decide (m ∈ ms) && (match strsOf (wrd ts) with
    | some ts => ts.all fun x => !decide (x ∈ ns)
    | none => false)) = _
  rw [strsOf_wrd]
theorem any_bl (f : D → Bool) (ds : List D) : bltD .any (.lst (ds.map fun d => .bl (f d))) = some (.bl (ds.any f)) := by
  show (bls (ds.map fun d => .bl (f d))).map (fun bs => D.bl (bs.any id)) = _
  rw [bls_map, Option.map_some, List.any_map]; rfl
def strIn (ns : List Str) : D → Bool
  | .str x => decide (x ∈ ns)
  | _ => false
theorem any_strIn (ns : List Str) : ∀ ts : List Str, (wrd ts).any (strIn ns) = !(ts.all fun x => !decide (x ∈ ns))
  | [] => rfl
  | t :: ts => by
    have ih := any_strIn ns ts
    show (strIn ns (.str t) || (wrd ts).any (strIn ns)) = !(_ && _)
    rw [ih, Bool.not_and, Bool.not_not]; rfl
theorem fil_strIn (ns : List Str) : ∀ ts : List Str, (wrd ts).filter (strIn ns) = wrd (ts.filter fun x => decide (x ∈ ns))
  | [] => rfl
  | t :: ts => by
    have ih := fil_strIn ns ts
    show List.filter _ (D.str t :: wrd ts) = _
    rw [List.filter_cons, List.filter_cons, ih]
    by_cases h : t ∈ ns
    · rw [if_pos (show strIn ns (.str t) = true from decide_eq_true h), if_pos (decide_eq_true h)]; rfl
    · have e1 : strIn ns (.str t) = false := decide_eq_false h
      have e2 : decide (t ∈ ns) = false := decide_eq_false h
      rw [e1, e2]; rfl
def bodyF : CSs := (.cons (.ifs (.bool true (.cons (.val (.cmp .inn (.var 3) (.var 1))) (.cons (.not (.val (.blt .any (.comp (.cmp .inn (.var 5) (.var 2)) (.nm 5) (.ex (.var 4)) .nil)))) .nil))) (.cons (.ret (.cst (.bl true))) .nil) .nil) .nil)
def bodyG : CSs := (.cons (.ifs (.bool true (.cons (.val (.cmp .inn (.var 3) (.var 1))) (.cons (.val (.cmp .eq (.comp (.var 5) (.nm 5) (.ex (.var 4)) (.cons (.val (.cmp .inn (.var 5) (.var 2))) .nil)) (.lst .nil))) .nil))) (.cons (.ret (.cst (.bl true))) .nil) .nil) .nil)
theorem bF_eq : b_8 = .cons (.for1 (.tp [3, 4]) (.ex (.var 0)) bodyF) (.cons (.ret (.cst (.bl false))) .nil) := rfl
theorem bG_eq : b_27 = .cons (.for1 (.tp [3, 4]) (.ex (.var 0)) bodyG) (.cons (.ret (.cst (.bl false))) .nil) := rfl
theorem for_eq {G : Tab} {ρ : Mi.Env} {S S' : Sto} {xs : List D} {t : Tg} {it : CI} {bd : CSs} (h : evI G it ρ S = some (.ok xs S')) : evS G (.for1 t it bd) ρ S = Mi.forM (forF G t bd) xs ρ S' := by
  rw [evS_for, h, vb_ok1]
section
variable {m : Nat} {S : Sto} {ms ns : List Str} {a0 : D} {a3 a4 a5 : SV}
theorem turnF {d : D} (h : isPairD d) : ∃ b3 b4, forF (Tb m) (.tp [3, 4]) bodyF d [.val a0, .val (.tup (wrd ms)), .val (.tup (wrd ns)), a3, a4, a5] S = if frees1 ms ns d = true then some (.rt (.bl true) S) else some (.nx [.val a0, .val (.tup (wrd ms)), .val (.tup (wrd ns)), b3, b4, a5] S) := by
  obtain ⟨p, hp, ts, ht, hl, hs, rfl⟩ := h
  refine ⟨.val (.str p), .val (.tup (wrd ts)), ?_⟩
  have lw : (wrd ts).length = ts.length := List.length_map ..
  have ec : ∀ ρ : Mi.Env, ρ = [.val a0, .val (.tup (wrd ms)), .val (.tup (wrd ns)), .val (.str p), .val (.tup (wrd ts)), a5] → compM (compF (Tb m) (.cmp .inn (.var 5) (.var 2)) (.nm 5) .nil ρ) (wrd ts) [] S = _ := fun ρ hρ =>
    compM_map (fun d => .bl (strIn ns d)) (wrd ts) (fun d hd => by
      obtain ⟨x, hx, rfl⟩ := List.mem_map.mp hd
      subst hρ
      unfold compF
      simp [evE_cst, evE_var, evE_pk, evE_fn, evE_gc, evE_tup, evE_lst, evE_bin, evE_cat, evE_neg, evE_cmp, evE_cmp2, evE_isN, evE_isB, evE_bool, evE_not, evE_ite, evE_idx, evE_slc, evE_rev, evE_call, evE_callK, evE_blt, evE_sset, evE_said, evE_isa, evE_cnt, evE_isaC, evE_fld, evE_dget, evE_dct, evBs_nil, evBs_cons, evT_val, evT_bool, evT_not, evB_nil, evB_cons, evTs_nil, evTs_cons, evEs_nil, evEs_cons, evO_no, evO_so, evI_ex, evI_enum, evS_asg, evS_asgO, evS_unp, evS_expr, evS_ifs, evS_ret, evS_retN, evS_retO, evS_whl, evS_app, evS_ext, evS_seti, evS_dput, evS_raise, evS_frz, evS_pass, evS_brk, evS_cont, evSs_nil, evSs_cons, evE_comp, evS_for, in_wrd, strIn]) (by omega)
  have ec := ec _ rfl
  have ea := any_bl (strIn ns) (wrd ts)
  rw [any_strIn] at ea
  rw [frees1_wrd]
  unfold forF bodyF
  generalize ((wrd ts).map fun d => D.bl (strIn ns d)) = W at ec ea
  generalize (ts.all fun x => !decide (x ∈ ns)) = z at ea
  by_cases hm : p ∈ ms
  · cases z <;> simp [evE_cst, evE_var, evE_pk, evE_fn, evE_gc, evE_tup, evE_lst, evE_bin, evE_cat, evE_neg, evE_cmp, evE_cmp2, evE_isN, evE_isB, evE_bool, evE_not, evE_ite, evE_idx, evE_slc, evE_rev, evE_call, evE_callK, evE_blt, evE_sset, evE_said, evE_isa, evE_cnt, evE_isaC, evE_fld, evE_dget, evE_dct, evBs_nil, evBs_cons, evT_val, evT_bool, evT_not, evB_nil, evB_cons, evTs_nil, evTs_cons, evEs_nil, evEs_cons, evO_no, evO_so, evI_ex, evI_enum, evS_asg, evS_asgO, evS_unp, evS_expr, evS_ifs, evS_ret, evS_retN, evS_retO, evS_whl, evS_app, evS_ext, evS_seti, evS_dput, evS_raise, evS_frz, evS_pass, evS_brk, evS_cont, evSs_nil, evSs_cons, evE_comp, evS_for, in_wrd, hm, ec, ea]
  · simp [evE_cst, evE_var, evE_pk, evE_fn, evE_gc, evE_tup, evE_lst, evE_bin, evE_cat, evE_neg, evE_cmp, evE_cmp2, evE_isN, evE_isB, evE_bool, evE_not, evE_ite, evE_idx, evE_slc, evE_rev, evE_call, evE_callK, evE_blt, evE_sset, evE_said, evE_isa, evE_cnt, evE_isaC, evE_fld, evE_dget, evE_dct, evBs_nil, evBs_cons, evT_val, evT_bool, evT_not, evB_nil, evB_cons, evTs_nil, evTs_cons, evEs_nil, evEs_cons, evO_no, evO_so, evI_ex, evI_enum, evS_asg, evS_asgO, evS_unp, evS_expr, evS_ifs, evS_ret, evS_retN, evS_retO, evS_whl, evS_app, evS_ext, evS_seti, evS_dput, evS_raise, evS_frz, evS_pass, evS_brk, evS_cont, evSs_nil, evSs_cons, evE_comp, evS_for, in_wrd, hm]
theorem turnG {d : D} (h : isPairD d) : ∃ b3 b4, forF (Tb m) (.tp [3, 4]) bodyG d [.val a0, .val (.tup (wrd ms)), .val (.tup (wrd ns)), a3, a4, a5] S = if frees1 ms ns d = true then some (.rt (.bl true) S) else some (.nx [.val a0, .val (.tup (wrd ms)), .val (.tup (wrd ns)), b3, b4, a5] S) := by
  obtain ⟨p, hp, ts, ht, hl, hs, rfl⟩ := h
  refine ⟨.val (.str p), .val (.tup (wrd ts)), ?_⟩
  have lw : (wrd ts).length = ts.length := List.length_map ..
  have ec : ∀ ρ : Mi.Env, ρ = [.val a0, .val (.tup (wrd ms)), .val (.tup (wrd ns)), .val (.str p), .val (.tup (wrd ts)), a5] → compM (compF (Tb m) (.var 5) (.nm 5) (.cons (.val (.cmp .inn (.var 5) (.var 2))) .nil) ρ) (wrd ts) [] S = _ := fun ρ hρ =>
    compM_fil (strIn ns) (wrd ts) (fun d hd => by
      obtain ⟨x, hx, rfl⟩ := List.mem_map.mp hd
      subst hρ
      unfold compF
      by_cases q : x ∈ ns
      · simp [evE_cst, evE_var, evE_pk, evE_fn, evE_gc, evE_tup, evE_lst, evE_bin, evE_cat, evE_neg, evE_cmp, evE_cmp2, evE_isN, evE_isB, evE_bool, evE_not, evE_ite, evE_idx, evE_slc, evE_rev, evE_call, evE_callK, evE_blt, evE_sset, evE_said, evE_isa, evE_cnt, evE_isaC, evE_fld, evE_dget, evE_dct, evBs_nil, evBs_cons, evT_val, evT_bool, evT_not, evB_nil, evB_cons, evTs_nil, evTs_cons, evEs_nil, evEs_cons, evO_no, evO_so, evI_ex, evI_enum, evS_asg, evS_asgO, evS_unp, evS_expr, evS_ifs, evS_ret, evS_retN, evS_retO, evS_whl, evS_app, evS_ext, evS_seti, evS_dput, evS_raise, evS_frz, evS_pass, evS_brk, evS_cont, evSs_nil, evSs_cons, evE_comp, evS_for, in_wrd, strIn, q]
      · simp [evE_cst, evE_var, evE_pk, evE_fn, evE_gc, evE_tup, evE_lst, evE_bin, evE_cat, evE_neg, evE_cmp, evE_cmp2, evE_isN, evE_isB, evE_bool, evE_not, evE_ite, evE_idx, evE_slc, evE_rev, evE_call, evE_callK, evE_blt, evE_sset, evE_said, evE_isa, evE_cnt, evE_isaC, evE_fld, evE_dget, evE_dct, evBs_nil, evBs_cons, evT_val, evT_bool, evT_not, evB_nil, evB_cons, evTs_nil, evTs_cons, evEs_nil, evEs_cons, evO_no, evO_so, evI_ex, evI_enum, evS_asg, evS_asgO, evS_unp, evS_expr, evS_ifs, evS_ret, evS_retN, evS_retO, evS_whl, evS_app, evS_ext, evS_seti, evS_dput, evS_raise, evS_frz, evS_pass, evS_brk, evS_cont, evSs_nil, evSs_cons, evE_comp, evS_for, in_wrd, strIn, q]) (by omega)
  have ec := ec _ rfl
  rw [fil_strIn] at ec
  have gt : ∀ x ∈ ts.filter (fun x => decide (x ∈ ns)), ∀ z ∈ x.cps.toList, z < 1114112 := fun x hx => needL_cps x (ht x (List.mem_filter.mp hx).1)
  have eq := eq_wrds (a := ts.filter fun x => decide (x ∈ ns)) (b := []) gt (fun x hx => (List.not_mem_nil hx).elim)
  have ez : decide (ts.filter (fun x => decide (x ∈ ns)) = []) = ts.all fun x => !decide (x ∈ ns) := by
    cases q : ts.all fun x => !decide (x ∈ ns) with
    | true =>
      refine decide_eq_true (List.filter_eq_nil_iff.mpr fun x hx => ?_)
      have := List.all_eq_true.mp q x hx
      simpa using this
    | false =>
      refine decide_eq_false fun e => ?_
      have : (ts.all fun x => !decide (x ∈ ns)) = true := List.all_eq_true.mpr fun x hx => by
        have := List.filter_eq_nil_iff.mp e x hx
        simpa using this
      rw [this] at q
      cases q
  rw [ez] at eq
  have eq : cop .eq (.lst (wrd (ts.filter fun x => decide (x ∈ ns)))) (.lst []) = some (ts.all fun x => !decide (x ∈ ns)) := eq
  rw [frees1_wrd]
  unfold forF bodyG
  generalize wrd (ts.filter fun x => decide (x ∈ ns)) = W at ec eq
  generalize (ts.all fun x => !decide (x ∈ ns)) = z at eq
  by_cases hm : p ∈ ms
  · cases z <;> simp [evE_cst, evE_var, evE_pk, evE_fn, evE_gc, evE_tup, evE_lst, evE_bin, evE_cat, evE_neg, evE_cmp, evE_cmp2, evE_isN, evE_isB, evE_bool, evE_not, evE_ite, evE_idx, evE_slc, evE_rev, evE_call, evE_callK, evE_blt, evE_sset, evE_said, evE_isa, evE_cnt, evE_isaC, evE_fld, evE_dget, evE_dct, evBs_nil, evBs_cons, evT_val, evT_bool, evT_not, evB_nil, evB_cons, evTs_nil, evTs_cons, evEs_nil, evEs_cons, evO_no, evO_so, evI_ex, evI_enum, evS_asg, evS_asgO, evS_unp, evS_expr, evS_ifs, evS_ret, evS_retN, evS_retO, evS_whl, evS_app, evS_ext, evS_seti, evS_dput, evS_raise, evS_frz, evS_pass, evS_brk, evS_cont, evSs_nil, evSs_cons, evE_comp, evS_for, in_wrd, hm, ec, eq, mkL_ok]
  · simp [evE_cst, evE_var, evE_pk, evE_fn, evE_gc, evE_tup, evE_lst, evE_bin, evE_cat, evE_neg, evE_cmp, evE_cmp2, evE_isN, evE_isB, evE_bool, evE_not, evE_ite, evE_idx, evE_slc, evE_rev, evE_call, evE_callK, evE_blt, evE_sset, evE_said, evE_isa, evE_cnt, evE_isaC, evE_fld, evE_dget, evE_dct, evBs_nil, evBs_cons, evT_val, evT_bool, evT_not, evB_nil, evB_cons, evTs_nil, evTs_cons, evEs_nil, evEs_cons, evO_no, evO_so, evI_ex, evI_enum, evS_asg, evS_asgO, evS_unp, evS_expr, evS_ifs, evS_ret, evS_retN, evS_retO, evS_whl, evS_app, evS_ext, evS_seti, evS_dput, evS_raise, evS_frz, evS_pass, evS_brk, evS_cont, evSs_nil, evSs_cons, evE_comp, evS_for, in_wrd, hm]
/-- a loop that ends with True at the first thing for which t holds -/
theorem any_loop {f : D → Mi.Env → Sto → Fo} {t : D → Bool} {I : Mi.Env → Prop} : ∀ (xs : List D) (ρ : Mi.Env), (∀ x ∈ xs, ∀ ρ, I ρ → ∃ ρ', I ρ' ∧ f x ρ S = if t x = true then some (.rt (.bl true) S) else some (.nx ρ' S)) → I ρ →
    (xs.any t = true ∧ Mi.forM f xs ρ S = some (.rt (.bl true) S)) ∨ (xs.any t = false ∧ ∃ ρ', I ρ' ∧ Mi.forM f xs ρ S = some (.nx ρ' S))
  | [], ρ, _, h => .inr ⟨rfl, ρ, h, rfl⟩
  | x :: xs, ρ, hf, h => by
    obtain ⟨ρ', h', e⟩ := hf x (by simp) ρ h
    unfold Mi.forM
    rw [List.any_cons, e]
    cases q : t x with
    | true => exact .inl ⟨rfl, by simp⟩
    | false =>
      rw [Bool.false_or]
      simp only [Bool.false_eq_true, if_false]
      exact any_loop xs ρ' (fun y hy => hf y (List.mem_cons_of_mem _ hy)) h'
end
theorem fires_at {m : Nat} (hm : 1 ≤ m) {ds : List D} (hd : ∀ d ∈ ds, isPairD d) {ms ns : List Str} {S : Sto} : (Tb m).f 8 [.tup ds, .tup (wrd ms), .tup (wrd ns)] S = some (.ok (.bl (ds.any (frees1 ms ns))) S) := by
  obtain ⟨n, rfl⟩ : ∃ n, m = n + 1 := ⟨m - 1, by omega⟩
  rw [tab_f (p := (6, b_8)) rfl, runF_eq]
  have ei : evI (Tb n) (.ex (.var 0)) [.val (.tup ds), .val (.tup (wrd ms)), .val (.tup (wrd ns)), .non, .non, .non] S = some (.ok ds S) := by simp [evE_cst, evE_var, evE_pk, evE_fn, evE_gc, evE_tup, evE_lst, evE_bin, evE_cat, evE_neg, evE_cmp, evE_cmp2, evE_isN, evE_isB, evE_bool, evE_not, evE_ite, evE_idx, evE_slc, evE_rev, evE_call, evE_callK, evE_blt, evE_sset, evE_said, evE_isa, evE_cnt, evE_isaC, evE_fld, evE_dget, evE_dct, evBs_nil, evBs_cons, evT_val, evT_bool, evT_not, evB_nil, evB_cons, evTs_nil, evTs_cons, evEs_nil, evEs_cons, evO_no, evO_so, evI_ex, evI_enum, evS_asg, evS_asgO, evS_unp, evS_expr, evS_ifs, evS_ret, evS_retN, evS_retO, evS_whl, evS_app, evS_ext, evS_seti, evS_dput, evS_raise, evS_frz, evS_pass, evS_brk, evS_cont, evSs_nil, evSs_cons, evE_comp, evS_for]
  show endF (evSs (Tb n) b_8 [.val (.tup ds), .val (.tup (wrd ms)), .val (.tup (wrd ns)), .non, .non, .non] S) = _
  rw [bF_eq, evSs_cons, for_eq ei]
  rcases any_loop (S := S) (t := frees1 ms ns) (I := fun ρ => ∃ a3 a4, ρ = [.val (.tup ds), .val (.tup (wrd ms)), .val (.tup (wrd ns)), a3, a4, .non]) ds [.val (.tup ds), .val (.tup (wrd ms)), .val (.tup (wrd ns)), .non, .non, .non] (fun x hx ρ ⟨a3, a4, hρ⟩ => by
    subst hρ
    obtain ⟨b3, b4, e⟩ := turnF (m := n) (S := S) (ms := ms) (ns := ns) (a0 := .tup ds) (a3 := a3) (a4 := a4) (a5 := .non) (hd x hx)
    exact ⟨_, ⟨b3, b4, rfl⟩, e⟩) ⟨_, _, rfl⟩ with ⟨h1, h2⟩ | ⟨h1, ρ', ⟨a3, a4, rfl⟩, h2⟩
  · rw [h1, h2, fb_rt1]; rfl
  · rw [h1, h2, fb_nx1]
    simp [evE_cst, evE_var, evE_pk, evE_fn, evE_gc, evE_tup, evE_lst, evE_bin, evE_cat, evE_neg, evE_cmp, evE_cmp2, evE_isN, evE_isB, evE_bool, evE_not, evE_ite, evE_idx, evE_slc, evE_rev, evE_call, evE_callK, evE_blt, evE_sset, evE_said, evE_isa, evE_cnt, evE_isaC, evE_fld, evE_dget, evE_dct, evBs_nil, evBs_cons, evT_val, evT_bool, evT_not, evB_nil, evB_cons, evTs_nil, evTs_cons, evEs_nil, evEs_cons, evO_no, evO_so, evI_ex, evI_enum, evS_asg, evS_asgO, evS_unp, evS_expr, evS_ifs, evS_ret, evS_retN, evS_retO, evS_whl, evS_app, evS_ext, evS_seti, evS_dput, evS_raise, evS_frz, evS_pass, evS_brk, evS_cont, evSs_nil, evSs_cons, evE_comp, evS_for, endF]
theorem frees_at {m : Nat} (hm : 1 ≤ m) {ds : List D} (hd : ∀ d ∈ ds, isPairD d) {ms ns : List Str} {S : Sto} : (Tb m).f 27 [.tup ds, .tup (wrd ms), .tup (wrd ns)] S = some (.ok (.bl (ds.any (frees1 ms ns))) S) := by
  obtain ⟨n, rfl⟩ : ∃ n, m = n + 1 := ⟨m - 1, by omega⟩
  rw [tab_f (p := (6, b_27)) rfl, runF_eq]
  have ei : evI (Tb n) (.ex (.var 0)) [.val (.tup ds), .val (.tup (wrd ms)), .val (.tup (wrd ns)), .non, .non, .non] S = some (.ok ds S) := by simp [evE_cst, evE_var, evE_pk, evE_fn, evE_gc, evE_tup, evE_lst, evE_bin, evE_cat, evE_neg, evE_cmp, evE_cmp2, evE_isN, evE_isB, evE_bool, evE_not, evE_ite, evE_idx, evE_slc, evE_rev, evE_call, evE_callK, evE_blt, evE_sset, evE_said, evE_isa, evE_cnt, evE_isaC, evE_fld, evE_dget, evE_dct, evBs_nil, evBs_cons, evT_val, evT_bool, evT_not, evB_nil, evB_cons, evTs_nil, evTs_cons, evEs_nil, evEs_cons, evO_no, evO_so, evI_ex, evI_enum, evS_asg, evS_asgO, evS_unp, evS_expr, evS_ifs, evS_ret, evS_retN, evS_retO, evS_whl, evS_app, evS_ext, evS_seti, evS_dput, evS_raise, evS_frz, evS_pass, evS_brk, evS_cont, evSs_nil, evSs_cons, evE_comp, evS_for]
  show endF (evSs (Tb n) b_27 [.val (.tup ds), .val (.tup (wrd ms)), .val (.tup (wrd ns)), .non, .non, .non] S) = _
  rw [bG_eq, evSs_cons, for_eq ei]
  rcases any_loop (S := S) (t := frees1 ms ns) (I := fun ρ => ∃ a3 a4, ρ = [.val (.tup ds), .val (.tup (wrd ms)), .val (.tup (wrd ns)), a3, a4, .non]) ds [.val (.tup ds), .val (.tup (wrd ms)), .val (.tup (wrd ns)), .non, .non, .non] (fun x hx ρ ⟨a3, a4, hρ⟩ => by
    subst hρ
    obtain ⟨b3, b4, e⟩ := turnG (m := n) (S := S) (ms := ms) (ns := ns) (a0 := .tup ds) (a3 := a3) (a4 := a4) (a5 := .non) (hd x hx)
    exact ⟨_, ⟨b3, b4, rfl⟩, e⟩) ⟨_, _, rfl⟩ with ⟨h1, h2⟩ | ⟨h1, ρ', ⟨a3, a4, rfl⟩, h2⟩
  · rw [h1, h2, fb_rt1]; rfl
  · rw [h1, h2, fb_nx1]
    simp [evE_cst, evE_var, evE_pk, evE_fn, evE_gc, evE_tup, evE_lst, evE_bin, evE_cat, evE_neg, evE_cmp, evE_cmp2, evE_isN, evE_isB, evE_bool, evE_not, evE_ite, evE_idx, evE_slc, evE_rev, evE_call, evE_callK, evE_blt, evE_sset, evE_said, evE_isa, evE_cnt, evE_isaC, evE_fld, evE_dget, evE_dct, evBs_nil, evBs_cons, evT_val, evT_bool, evT_not, evB_nil, evB_cons, evTs_nil, evTs_cons, evEs_nil, evEs_cons, evO_no, evO_so, evI_ex, evI_enum, evS_asg, evS_asgO, evS_unp, evS_expr, evS_ifs, evS_ret, evS_retN, evS_retO, evS_whl, evS_app, evS_ext, evS_seti, evS_dput, evS_raise, evS_frz, evS_pass, evS_brk, evS_cont, evSs_nil, evSs_cons, evE_comp, evS_for, endF]
end T07
end

section
set_option linter.all false
set_option maxRecDepth 100000
set_option Elab.async false
set_option maxHeartbeats 8000000
namespace T07
open PySem L2 Mi
/-! ### what is refused -/
theorem demand_t {m : Nat} (hm : 1 ≤ m) {w : Str} {S : Sto} : (Tb m).f 0 [.bl true, .str w] S = some (.ok .non S) := by
  obtain ⟨n, rfl⟩ : ∃ n, m = n + 1 := ⟨m - 1, by omega⟩
  rw [tab_f (p := (2, b_0)) rfl, runF_eq]
  unfold b_0
  simp [evE_cst, evE_var, evE_pk, evE_fn, evE_gc, evE_tup, evE_lst, evE_bin, evE_cat, evE_neg, evE_cmp, evE_cmp2, evE_isN, evE_isB, evE_bool, evE_not, evE_ite, evE_idx, evE_slc, evE_rev, evE_call, evE_callK, evE_blt, evE_sset, evE_said, evE_isa, evE_cnt, evE_isaC, evE_fld, evE_dget, evE_dct, evBs_nil, evBs_cons, evT_val, evT_bool, evT_not, evB_nil, evB_cons, evTs_nil, evTs_cons, evEs_nil, evEs_cons, evO_no, evO_so, evI_ex, evI_enum, evS_asg, evS_asgO, evS_unp, evS_expr, evS_ifs, evS_ret, evS_retN, evS_retO, evS_whl, evS_app, evS_ext, evS_seti, evS_dput, evS_raise, evS_frz, evS_pass, evS_brk, evS_cont, evSs_nil, evSs_cons, evE_comp, evS_for, D.truth]
theorem xf6 {m : Nat} : (Tb m).xf 6 = (["word", "at"] : List Str) := by rw [tab_xf]; rfl
theorem demand_f {m : Nat} (hm : 1 ≤ m) {w : Str} {S : Sto} : (Tb m).f 0 [.bl false, .str w] S = some (.ex ⟨6, [("at", .int (-1)), ("word", .str w)]⟩ S) := by
  obtain ⟨n, rfl⟩ : ∃ n, m = n + 1 := ⟨m - 1, by omega⟩
  rw [tab_f (p := (2, b_0)) rfl, runF_eq]
  unfold b_0
  simp [evE_cst, evE_var, evE_pk, evE_fn, evE_gc, evE_tup, evE_lst, evE_bin, evE_cat, evE_neg, evE_cmp, evE_cmp2, evE_isN, evE_isB, evE_bool, evE_not, evE_ite, evE_idx, evE_slc, evE_rev, evE_call, evE_callK, evE_blt, evE_sset, evE_said, evE_isa, evE_cnt, evE_isaC, evE_fld, evE_dget, evE_dct, evBs_nil, evBs_cons, evT_val, evT_bool, evT_not, evB_nil, evB_cons, evTs_nil, evTs_cons, evEs_nil, evEs_cons, evO_no, evO_so, evI_ex, evI_enum, evS_asg, evS_asgO, evS_unp, evS_expr, evS_ifs, evS_ret, evS_retN, evS_retO, evS_whl, evS_app, evS_ext, evS_seti, evS_dput, evS_raise, evS_frz, evS_pass, evS_brk, evS_cont, evSs_nil, evSs_cons, evE_comp, evS_for, D.truth, xf6]
theorem no_at {m : Nat} (hm : 1 ≤ m) {w : Str} {S : Sto} : (Tb m).f 26 [.str w] S = some (.ok (.tup [.str "NotUsable", .str w, .int (-1)]) S) := by
  obtain ⟨n, rfl⟩ : ∃ n, m = n + 1 := ⟨m - 1, by omega⟩
  rw [tab_f (p := (1, b_26)) rfl, runF_eq]
  unfold b_26
  simp [evE_cst, evE_var, evE_pk, evE_fn, evE_gc, evE_tup, evE_lst, evE_bin, evE_cat, evE_neg, evE_cmp, evE_cmp2, evE_isN, evE_isB, evE_bool, evE_not, evE_ite, evE_idx, evE_slc, evE_rev, evE_call, evE_callK, evE_blt, evE_sset, evE_said, evE_isa, evE_cnt, evE_isaC, evE_fld, evE_dget, evE_dct, evBs_nil, evBs_cons, evT_val, evT_bool, evT_not, evB_nil, evB_cons, evTs_nil, evTs_cons, evEs_nil, evEs_cons, evO_no, evO_so, evI_ex, evI_enum, evS_asg, evS_asgO, evS_unp, evS_expr, evS_ifs, evS_ret, evS_retN, evS_retO, evS_whl, evS_app, evS_ext, evS_seti, evS_dput, evS_raise, evS_frz, evS_pass, evS_brk, evS_cont, evSs_nil, evSs_cons, evE_comp, evS_for, mkT_ok]
theorem noE_ints : ∀ c : List Int, D.noEs (c.map .int) = true
  | [] => rfl
  | x :: c => by
    have ih := noE_ints c
    rw [List.map_cons]
    unfold D.noEs
    rw [ih]; rfl
theorem noES_feed {S : Sto} (h : FS S) : noES S = true ∧ isTab S 0 = true := by
  obtain ⟨c, s, l, t, rfl, _, _⟩ := h
  refine ⟨?_, rfl⟩
  have e := noE_ints c
  show (true && (((D.noEs (c.map .int)) && (true && (true && (true && true)))) && true)) = true
  rw [e]; rfl
section
variable {w : Str} {j : Int} {S : Sto}
abbrev Ge (w : Str) (j : Int) : Tab := Gx ⟨6, [("at", .int j), ("word", .str w)]⟩
theorem ge_c {i : Nat} {b : Bool} (hb : iscv 6 i = some b) : excC (Ge w j) i (.fn eN) = some (.bl b) := by
  show (if (decide (eN = eN)) = true then ((iscv 6 i).map D.bl) else none) = _
  rw [hb, if_pos (decide_eq_true rfl)]; rfl
theorem ge_w : excF (Ge w j) "word" (.fn eN) = some (.str w) := by
  show (if (decide (eN = eN)) = true then (List.lookup "word" [("at", D.int j), ("word", D.str w)]) else none) = _
  rw [if_pos (decide_eq_true rfl)]; kernel_rfl
theorem ge_a : excF (Ge w j) "at" (.fn eN) = some (.int j) := by
  show (if (decide (eN = eN)) = true then (List.lookup "at" [("at", D.int j), ("word", D.str w)]) else none) = _
  rw [if_pos (decide_eq_true rfl)]; kernel_rfl
theorem cn2 : cntD [.bl false, .bl true, .bl false, .bl false] (.bl true) = some (.int 1) := rfl
theorem run_ref : endF (evSs (Ge w j) b_24 [.val (.fn eN), .non] S) = some (.ok (.tup [.str "NotUsable", .str w, .int j]) S) := by
  unfold b_24
  simp [evE_cst, evE_var, evE_pk, evE_fn, evE_gc, evE_tup, evE_lst, evE_bin, evE_cat, evE_neg, evE_cmp, evE_cmp2, evE_isN, evE_isB, evE_bool, evE_not, evE_ite, evE_idx, evE_slc, evE_rev, evE_call, evE_callK, evE_blt, evE_sset, evE_said, evE_isa, evE_cnt, evE_isaC, evE_fld, evE_dget, evE_dct, evBs_nil, evBs_cons, evT_val, evT_bool, evT_not, evB_nil, evB_cons, evTs_nil, evTs_cons, evEs_nil, evEs_cons, evO_no, evO_so, evI_ex, evI_enum, evS_asg, evS_asgO, evS_unp, evS_expr, evS_ifs, evS_ret, evS_retN, evS_retO, evS_whl, evS_app, evS_ext, evS_seti, evS_dput, evS_raise, evS_frz, evS_pass, evS_brk, evS_cont, evSs_nil, evSs_cons, evE_comp, evS_for, ge_c (i := 1) (b := false) rfl, ge_c (i := 2) (b := true) rfl, ge_c (i := 3) (b := false) rfl, ge_c (i := 4) (b := false) rfl, ge_c (i := 5) (b := false) rfl, ge_c (i := 6) (b := true) rfl, ge_c (i := 900) (b := true) rfl, ge_w, ge_a, cn2, mkL_ok, mkT_ok, ownAt, atD, L2.atI, L2.ixN]
end
theorem rf_ok {S : Sto} (hS : FS S) {w : Str} {j : Int} : rfv ⟨6, [("at", .int j), ("word", .str w)]⟩ S = some (.ok (.tup [.str "NotUsable", .str w, .int j]) S) := by
  have hn := (noES_feed hS).1
  have run : runF (Ge w j) N_24.length b_24 [.fn eN] S = some (.ok (.tup [.str "NotUsable", .str w, .int j]) S) := by
    rw [runF_eq]
    exact run_ref
  have c1 : (decide ((6 : Nat) ∈ [6]) && (([("at", D.int j), ("word", D.str w)] : List (Str × D)).all fun kv => kv.2.noE) && noES S) = true := by rw [hn]; rfl
  have c2 : ((D.tup [.str "NotUsable", .str w, .int j]).noE && noES S) = true := by rw [hn]; rfl
  unfold rfv rfOf
  rw [if_pos c1, run]
  exact if_pos c2
theorem said_no {S : Sto} (hS : FS S) {w : Str} : saidM rfv (some (.ex ⟨6, [("at", .int (-1)), ("word", .str w)]⟩ S) : Mo D) = some (.ok (.tup [.str "NotUsable", .str w, .int (-1)]) S) := by
  have q : saidM rfv (some (.ex ⟨6, [("at", .int (-1)), ("word", .str w)]⟩ S) : Mo D) = (match rfv ⟨6, [("at", .int (-1)), ("word", .str w)]⟩ S with
    | some (.ok d S') => some (R.ok d S')
    | _ => none) := rfl
  rw [q, rf_ok hS]
theorem needsB_ex {z : D} (h : needsB z = true) : ∃ ns, z = .tup (wrd ns) ∧ ∀ x ∈ ns, x ∈ needL := by
  cases z with
  | tup es =>
    have h2 : (match strsOf es with
      | some ts => decide (pickW needL ts = ts)
      | none => false) = true := h
    cases e : strsOf es with
    | none => rw [e] at h2; cases h2
    | some ts =>
      rw [e] at h2
      have h2 : pickW needL ts = ts := of_decide_eq_true h2
      exact ⟨ts, by rw [strsOf_some e], fun x hx => by rw [← h2] at hx; exact (List.mem_filter.mp hx).1⟩
  | _ => cases h
theorem momsB_ex {z : D} (h : momsB z = true) : ∃ ms, z = .tup (wrd ms) ∧ ∀ x ∈ ms, x ∈ momL := by
  cases z with
  | tup es =>
    have h2 : (match strsOf es with
      | some ts => (ts.all fun x => decide (x ∈ momL)) && ascK (ts.map .text)
      | none => false) = true := h
    cases e : strsOf es with
    | none => rw [e] at h2; cases h2
    | some ts =>
      rw [e] at h2
      rw [Bool.and_eq_true] at h2
      exact ⟨ts, by rw [strsOf_some e], fun x hx => of_decide_eq_true (List.all_eq_true.mp h2.1 x hx)⟩
  | _ => cases h
theorem ruleB_ex {x : D} (h : ruleB x = true) : ∃ ds, x = .tup ds ∧ ∀ d ∈ ds, isPairD d := by
  cases x with
  | tup ds =>
    have h : (ds.all pairB && _) = true := h
    rw [Bool.and_eq_true] at h
    exact ⟨ds, rfl, fun d hd => pairB_iff.mp (List.all_eq_true.mp h.1 d hd)⟩
  | _ => cases h
/-- is_freed, asked -/
theorem freed_run {m c : Nat} (hm : 4 ≤ m) (hc : c ≤ 1000) {x y z : D} (hx : gd c x = true ∧ wt x ≤ 200000) (hy : gd c y = true ∧ wt y ≤ 200000) (hz : gd c z = true ∧ wt z ≤ 200000) {S : Sto} :
    (∃ w : Str, ((ruleB x = false ∧ w = "rule") ∨ (ruleB x = true ∧ momsB y = false ∧ w = "moments") ∨ (ruleB x = true ∧ momsB y = true ∧ needsB z = false ∧ w = "needs")) ∧ runF (Tb m) 3 b_9 [x, y, z] S = some (.ex ⟨6, [("at", .int (-1)), ("word", .str w)]⟩ S)) ∨
    (∃ (ds : List D) (ms ns : List Str), (ruleB x = true ∧ momsB y = true ∧ needsB z = true) ∧ (x = .tup ds ∧ ∀ d ∈ ds, isPairD d) ∧ y = .tup (wrd ms) ∧ z = .tup (wrd ns) ∧ runF (Tb m) 3 b_9 [x, y, z] S = some (.ok (.bl (ds.any (frees1 ms ns))) S)) := by
  have e1 := @rule_at m c hm hc x hx.1 hx.2 S
  have e2 := @moms_at m c (by omega) hc y hy.1 hy.2 S
  have e3 := @needs_at m c (by omega) hc z hz.1 hz.2 S
  rw [runF_eq]
  unfold b_9
  cases hr : ruleB x with
  | false =>
    rw [hr] at e1
    have d1 := demand_f (m := m) (by omega) (w := "rule") (S := S)
    refine .inl ⟨"rule", .inl ⟨rfl, rfl⟩, ?_⟩
    simp [evE_cst, evE_var, evE_pk, evE_fn, evE_gc, evE_tup, evE_lst, evE_bin, evE_cat, evE_neg, evE_cmp, evE_cmp2, evE_isN, evE_isB, evE_bool, evE_not, evE_ite, evE_idx, evE_slc, evE_rev, evE_call, evE_callK, evE_blt, evE_sset, evE_said, evE_isa, evE_cnt, evE_isaC, evE_fld, evE_dget, evE_dct, evBs_nil, evBs_cons, evT_val, evT_bool, evT_not, evB_nil, evB_cons, evTs_nil, evTs_cons, evEs_nil, evEs_cons, evO_no, evO_so, evI_ex, evI_enum, evS_asg, evS_asgO, evS_unp, evS_expr, evS_ifs, evS_ret, evS_retN, evS_retO, evS_whl, evS_app, evS_ext, evS_seti, evS_dput, evS_raise, evS_frz, evS_pass, evS_brk, evS_cont, evSs_nil, evSs_cons, evE_comp, evS_for, e1, d1, endF]
  | true =>
    rw [hr] at e1
    have d1 := demand_t (m := m) (by omega) (w := "rule") (S := S)
    cases hmo : momsB y with
    | false =>
      rw [hmo] at e2
      have d2 := demand_f (m := m) (by omega) (w := "moments") (S := S)
      refine .inl ⟨"moments", .inr (.inl ⟨rfl, rfl, rfl⟩), ?_⟩
      simp [evE_cst, evE_var, evE_pk, evE_fn, evE_gc, evE_tup, evE_lst, evE_bin, evE_cat, evE_neg, evE_cmp, evE_cmp2, evE_isN, evE_isB, evE_bool, evE_not, evE_ite, evE_idx, evE_slc, evE_rev, evE_call, evE_callK, evE_blt, evE_sset, evE_said, evE_isa, evE_cnt, evE_isaC, evE_fld, evE_dget, evE_dct, evBs_nil, evBs_cons, evT_val, evT_bool, evT_not, evB_nil, evB_cons, evTs_nil, evTs_cons, evEs_nil, evEs_cons, evO_no, evO_so, evI_ex, evI_enum, evS_asg, evS_asgO, evS_unp, evS_expr, evS_ifs, evS_ret, evS_retN, evS_retO, evS_whl, evS_app, evS_ext, evS_seti, evS_dput, evS_raise, evS_frz, evS_pass, evS_brk, evS_cont, evSs_nil, evSs_cons, evE_comp, evS_for, e1, d1, e2, d2, endF]
    | true =>
      rw [hmo] at e2
      have d2 := demand_t (m := m) (by omega) (w := "moments") (S := S)
      cases hn : needsB z with
      | false =>
        rw [hn] at e3
        have d3 := demand_f (m := m) (by omega) (w := "needs") (S := S)
        refine .inl ⟨"needs", .inr (.inr ⟨rfl, rfl, rfl, rfl⟩), ?_⟩
        simp [evE_cst, evE_var, evE_pk, evE_fn, evE_gc, evE_tup, evE_lst, evE_bin, evE_cat, evE_neg, evE_cmp, evE_cmp2, evE_isN, evE_isB, evE_bool, evE_not, evE_ite, evE_idx, evE_slc, evE_rev, evE_call, evE_callK, evE_blt, evE_sset, evE_said, evE_isa, evE_cnt, evE_isaC, evE_fld, evE_dget, evE_dct, evBs_nil, evBs_cons, evT_val, evT_bool, evT_not, evB_nil, evB_cons, evTs_nil, evTs_cons, evEs_nil, evEs_cons, evO_no, evO_so, evI_ex, evI_enum, evS_asg, evS_asgO, evS_unp, evS_expr, evS_ifs, evS_ret, evS_retN, evS_retO, evS_whl, evS_app, evS_ext, evS_seti, evS_dput, evS_raise, evS_frz, evS_pass, evS_brk, evS_cont, evSs_nil, evSs_cons, evE_comp, evS_for, e1, d1, e2, d2, e3, d3, endF]
      | true =>
        rw [hn] at e3
        have d3 := demand_t (m := m) (by omega) (w := "needs") (S := S)
        obtain ⟨ds, rfl, hds⟩ := ruleB_ex hr
        obtain ⟨ms, rfl, hms⟩ := momsB_ex hmo
        obtain ⟨ns, rfl, hns⟩ := needsB_ex hn
        have e4 := @fires_at m (by omega) ds hds ms ns S
        refine .inr ⟨ds, ms, ns, ⟨rfl, rfl, rfl⟩, ⟨rfl, hds⟩, rfl, rfl, ?_⟩
        simp [evE_cst, evE_var, evE_pk, evE_fn, evE_gc, evE_tup, evE_lst, evE_bin, evE_cat, evE_neg, evE_cmp, evE_cmp2, evE_isN, evE_isB, evE_bool, evE_not, evE_ite, evE_idx, evE_slc, evE_rev, evE_call, evE_callK, evE_blt, evE_sset, evE_said, evE_isa, evE_cnt, evE_isaC, evE_fld, evE_dget, evE_dct, evBs_nil, evBs_cons, evT_val, evT_bool, evT_not, evB_nil, evB_cons, evTs_nil, evTs_cons, evEs_nil, evEs_cons, evO_no, evO_so, evI_ex, evI_enum, evS_asg, evS_asgO, evS_unp, evS_expr, evS_ifs, evS_ret, evS_retN, evS_retO, evS_whl, evS_app, evS_ext, evS_seti, evS_dput, evS_raise, evS_frz, evS_pass, evS_brk, evS_cont, evSs_nil, evSs_cons, evE_comp, evS_for, e1, d1, e2, d2, e3, d3, e4, endF]
theorem due_at {m c : Nat} (hm : 5 ≤ m) (hc : c ≤ 1000) {x y z : D} (hx : gd c x = true ∧ wt x ≤ 200000 ∧ tl x < 64) (hy : gd c y = true ∧ wt y ≤ 200000 ∧ tl y < 64) (hz : gd c z = true ∧ wt z ≤ 200000) {S : Sto} :
    (ruleB x = false → (Tb m).f 32 [x, y, z] S = some (.ok (.tup [.str "NotUsable", .str "rule", .int (-1)]) S)) ∧
    (ruleB x = true → momsB y = false → (Tb m).f 32 [x, y, z] S = some (.ok (.tup [.str "NotUsable", .str "moments", .int (-1)]) S)) ∧
    (ruleB x = true → momsB y = true → needsB z = false → (Tb m).f 32 [x, y, z] S = some (.ok (.tup [.str "NotUsable", .str "needs", .int (-1)]) S)) ∧
    (ruleB x = true → momsB y = true → needsB z = true → ∀ (ds : List D) (ms ns : List Str), x = .tup ds → y = .tup (wrd ms) → z = .tup (wrd ns) → (Tb m).f 32 [x, y, z] S = some (.ok (.tup [.str "told", .bl (ds.any (frees1 ms ns))]) S)) := by
  obtain ⟨n, rfl⟩ : ∃ n, m = n + 1 := ⟨m - 1, by omega⟩
  have e1 := @plan2_at n c (by omega) hc x hx.1 hx.2.1 hx.2.2 S
  have e2 := @parts_at n c (by omega) hc y hy.1 hy.2.1 hy.2.2 S
  have e3 := @needs2_at n c (by omega) hc z hz.1 hz.2 S
  have q1 := no_at (m := n) (by omega) (w := "rule") (S := S)
  have q2 := no_at (m := n) (by omega) (w := "moments") (S := S)
  have q3 := no_at (m := n) (by omega) (w := "needs") (S := S)
  rw [tab_f (p := (3, b_32)) rfl, runF_eq]
  unfold b_32
  refine ⟨fun hr => ?_, fun hr hmo => ?_, fun hr hmo hn => ?_, fun hr hmo hn ds ms ns ex ey ez => ?_⟩
  · rw [hr] at e1
    simp [evE_cst, evE_var, evE_pk, evE_fn, evE_gc, evE_tup, evE_lst, evE_bin, evE_cat, evE_neg, evE_cmp, evE_cmp2, evE_isN, evE_isB, evE_bool, evE_not, evE_ite, evE_idx, evE_slc, evE_rev, evE_call, evE_callK, evE_blt, evE_sset, evE_said, evE_isa, evE_cnt, evE_isaC, evE_fld, evE_dget, evE_dct, evBs_nil, evBs_cons, evT_val, evT_bool, evT_not, evB_nil, evB_cons, evTs_nil, evTs_cons, evEs_nil, evEs_cons, evO_no, evO_so, evI_ex, evI_enum, evS_asg, evS_asgO, evS_unp, evS_expr, evS_ifs, evS_ret, evS_retN, evS_retO, evS_whl, evS_app, evS_ext, evS_seti, evS_dput, evS_raise, evS_frz, evS_pass, evS_brk, evS_cont, evSs_nil, evSs_cons, evE_comp, evS_for, e1, q1, endF]
  · rw [hr] at e1
    rw [hmo] at e2
    simp [evE_cst, evE_var, evE_pk, evE_fn, evE_gc, evE_tup, evE_lst, evE_bin, evE_cat, evE_neg, evE_cmp, evE_cmp2, evE_isN, evE_isB, evE_bool, evE_not, evE_ite, evE_idx, evE_slc, evE_rev, evE_call, evE_callK, evE_blt, evE_sset, evE_said, evE_isa, evE_cnt, evE_isaC, evE_fld, evE_dget, evE_dct, evBs_nil, evBs_cons, evT_val, evT_bool, evT_not, evB_nil, evB_cons, evTs_nil, evTs_cons, evEs_nil, evEs_cons, evO_no, evO_so, evI_ex, evI_enum, evS_asg, evS_asgO, evS_unp, evS_expr, evS_ifs, evS_ret, evS_retN, evS_retO, evS_whl, evS_app, evS_ext, evS_seti, evS_dput, evS_raise, evS_frz, evS_pass, evS_brk, evS_cont, evSs_nil, evSs_cons, evE_comp, evS_for, e1, e2, q2, endF]
  · rw [hr] at e1
    rw [hmo] at e2
    rw [hn] at e3
    simp [evE_cst, evE_var, evE_pk, evE_fn, evE_gc, evE_tup, evE_lst, evE_bin, evE_cat, evE_neg, evE_cmp, evE_cmp2, evE_isN, evE_isB, evE_bool, evE_not, evE_ite, evE_idx, evE_slc, evE_rev, evE_call, evE_callK, evE_blt, evE_sset, evE_said, evE_isa, evE_cnt, evE_isaC, evE_fld, evE_dget, evE_dct, evBs_nil, evBs_cons, evT_val, evT_bool, evT_not, evB_nil, evB_cons, evTs_nil, evTs_cons, evEs_nil, evEs_cons, evO_no, evO_so, evI_ex, evI_enum, evS_asg, evS_asgO, evS_unp, evS_expr, evS_ifs, evS_ret, evS_retN, evS_retO, evS_whl, evS_app, evS_ext, evS_seti, evS_dput, evS_raise, evS_frz, evS_pass, evS_brk, evS_cont, evSs_nil, evSs_cons, evE_comp, evS_for, e1, e2, e3, q3, endF]
  · rw [hr] at e1
    rw [hmo] at e2
    rw [hn] at e3
    obtain ⟨ds', ex', hds⟩ := ruleB_ex hr
    subst ey
    subst ez
    rw [ex] at ex'
    cases ex'
    have e4 := @frees_at n (by omega) ds hds ms ns S
    rw [← ex] at e4
    simp [evE_cst, evE_var, evE_pk, evE_fn, evE_gc, evE_tup, evE_lst, evE_bin, evE_cat, evE_neg, evE_cmp, evE_cmp2, evE_isN, evE_isB, evE_bool, evE_not, evE_ite, evE_idx, evE_slc, evE_rev, evE_call, evE_callK, evE_blt, evE_sset, evE_said, evE_isa, evE_cnt, evE_isaC, evE_fld, evE_dget, evE_dct, evBs_nil, evBs_cons, evT_val, evT_bool, evT_not, evB_nil, evB_cons, evTs_nil, evTs_cons, evEs_nil, evEs_cons, evO_no, evO_so, evI_ex, evI_enum, evS_asg, evS_asgO, evS_unp, evS_expr, evS_ifs, evS_ret, evS_retN, evS_retO, evS_whl, evS_app, evS_ext, evS_seti, evS_dput, evS_raise, evS_frz, evS_pass, evS_brk, evS_cont, evSs_nil, evSs_cons, evE_comp, evS_for, e1, e2, e3, e4, mkT_ok, endF]
/-- is_freed asked by the law, and what is due -/
theorem said_due {n c : Nat} (hm : 5 ≤ n) (hc : c ≤ 1000) {x y z : D} (hx : gd c x = true ∧ wt x ≤ 200000 ∧ tl x < 64) (hy : gd c y = true ∧ wt y ≤ 200000 ∧ tl y < 64) (hz : gd c z = true ∧ wt z ≤ 200000) {S : Sto} (hS : FS S) {ρ : Mi.Env} {e : CEs} (he : evEs (Tb (n + 3)).low e ρ S = some (.ok [x, y, z] S)) :
    ∃ d, evE (Tb (n + 3)) (.said 0 (.call 9 e)) ρ S = some (.ok d S) ∧ (Tb (n + 3)).f 32 [x, y, z] S = some (.ok d S) ∧ gd 0 d = true ∧ wt d ≤ 100 ∧ dp d ≤ 2 := by
  obtain ⟨d1, d2, d3, d4⟩ := @due_at (n + 3) c (by omega) hc x y z hx hy hz S
  rw [evE_said, if_pos (noES_feed hS).2, tab_rf, evE_call, he, rb_ok1, tab_f2 (p := (3, b_9)) rfl]
  rcases @freed_run n c (by omega) hc x y z ⟨hx.1, hx.2.1⟩ ⟨hy.1, hy.2.1⟩ hz S with ⟨w, hw, e1⟩ | ⟨ds, ms, ns, ⟨h1, h2, h3⟩, ⟨hxe, _⟩, hye, hze, e1⟩
  · rw [e1]
    refine ⟨.tup [.str "NotUsable", .str w, .int (-1)], said_no hS, ?_, ?_⟩
    · rcases hw with ⟨h1, rfl⟩ | ⟨h1, h2, rfl⟩ | ⟨h1, h2, h3, rfl⟩
      · exact d1 h1
      · exact d2 h1 h2
      · exact d3 h1 h2 h3
    · rcases hw with ⟨h1, rfl⟩ | ⟨h1, h2, rfl⟩ | ⟨h1, h2, h3, rfl⟩ <;> decide +kernel
  · rw [e1]
    refine ⟨.tup [.str "told", .bl (ds.any (frees1 ms ns))], rfl, d4 h1 h2 h3 ds ms ns hxe hye hze, ?_⟩
    generalize ds.any (frees1 ms ns) = b
    cases b <;> decide +kernel
end T07
end

section
set_option linter.all false
set_option maxRecDepth 100000
set_option Elab.async false
set_option maxHeartbeats 8000000
namespace T07
open PySem L2 Mi
def setsL : List (List Str) := [[], ["maker"], ["name"], ["maker", "name"], ["picture"], ["maker", "picture"], ["name", "picture"], ["maker", "name", "picture"], ["reader"], ["maker", "reader"], ["name", "reader"], ["maker", "name", "reader"], ["picture", "reader"], ["maker", "picture", "reader"], ["name", "picture", "reader"], ["maker", "name", "picture", "reader"]]
theorem momL_asc : ascK (momL.map .text) = true := by decide +kernel
theorem sub_moms {ms : List Str} (h : ms.Sublist momL) : momsB (.tup (wrd ms)) = true := by
  rw [momsB_wrd, Bool.and_eq_true]
  refine ⟨List.all_eq_true.mpr fun x hx => decide_eq_true (h.subset hx), ?_⟩
  exact pw_ascK ((asc_pwK momL_asc).sublist (h.map _))
theorem parts_draw {m : Nat} (hm : 2 ≤ m) {S : Sto} (h : FS S) : ∃ (ms : List Str) (S' : Sto), (Tb m).f 28 [.loc 1] S = some (.ok (.tup (wrd ms)) S') ∧ FS S' ∧ ms.Sublist momL := by
  obtain ⟨n, rfl⟩ : ∃ n, m = n + 1 := ⟨m - 1, by omega⟩
  obtain ⟨ds, S', e, hS, hs⟩ := compM_sub (J := FS) (f := compF (Tb n) (.var 2) (.nm 2) (.cons (.val (.cmp .eq (.call 11 (.cons (.var 0) (.cons (.cst (.int 3)) .nil))) (.cst (.int 0)))) .nil) [.val (.loc 1), .val (.lst (momL.map D.str)), .non]) (momL.map D.str) [] S (fun x hx S hS => by
    obtain ⟨r, S', e, hS', r0, r1⟩ := draw_at (m := n) (by omega) hS (b := 3) (by decide) (by decide)
    by_cases hr : r = 0
    · subst hr
      refine ⟨some x, S', ?_, hS', .inr rfl⟩
      simp [compF, evTs, evT, evE, evEs, e]
    · refine ⟨none, S', ?_, hS', .inl rfl⟩
      simp [compF, evTs, evT, evE, evEs, e, hr]) h (by decide)
  obtain ⟨ms, h1, rfl⟩ := List.sublist_map_iff.mp hs
  refine ⟨ms, S', ?_, hS, h1⟩
  have hl : (ms.map D.str).length ≤ 6 := hs.length_le
  rw [tab_f (p := (3, b_28)) rfl, runF_eq]
  unfold b_28
  unfold momL at e
  simp only [List.map, List.nil_append] at e
  unfold wrd
  simp [evE_cst, evE_var, evE_pk, evE_fn, evE_gc, evE_tup, evE_lst, evE_bin, evE_cat, evE_neg, evE_cmp, evE_cmp2, evE_isN, evE_isB, evE_bool, evE_not, evE_ite, evE_idx, evE_slc, evE_rev, evE_call, evE_callK, evE_blt, evE_sset, evE_said, evE_isa, evE_cnt, evE_isaC, evE_fld, evE_dget, evE_dct, evBs_nil, evBs_cons, evT_val, evT_bool, evT_not, evB_nil, evB_cons, evTs_nil, evTs_cons, evEs_nil, evEs_cons, evO_no, evO_so, evI_ex, evI_enum, evS_asg, evS_asgO, evS_unp, evS_expr, evS_ifs, evS_ret, evS_retN, evS_retO, evS_whl, evS_app, evS_ext, evS_seti, evS_dput, evS_raise, evS_frz, evS_pass, evS_brk, evS_cont, evSs_nil, evSs_cons, evE_comp, evS_for, mkL_ok, e, mkT_ok (show (ms.map D.str).length ≤ 16777216 by omega)]
theorem allN_at {m : Nat} (hm : 1 ≤ m) {S : Sto} : (Tb m).f 29 [] S = some (.ok (.lst (setsL.map fun ns => .tup (wrd ns))) S) := by
  obtain ⟨n, rfl⟩ : ∃ n, m = n + 1 := ⟨m - 1, by omega⟩
  rw [tab_f (p := (3, b_29)) rfl]
  kernel_rfl
/-! ### is_right -/
theorem setsL_ok : ∀ ns ∈ setsL, (∀ x ∈ ns, x ∈ needL) ∧ needsB (.tup (wrd ns)) = true := by decide +kernel
theorem frees_mono {ms ns ns' : List Str} (h : ∀ x ∈ ns', x ∈ ns) {d : D} (hd : isPairD d) (hf : frees1 ms ns d = true) : frees1 ms ns' d = true := by
  obtain ⟨p, hp, ts, ht, hl, hs, rfl⟩ := hd
  rw [frees1_wrd, Bool.and_eq_true] at hf ⊢
  refine ⟨hf.1, List.all_eq_true.mpr fun x hx => ?_⟩
  have := List.all_eq_true.mp hf.2 x hx
  rw [Bool.not_eq_true', decide_eq_false_iff_not] at this ⊢
  exact fun z => this (h x z)
theorem any_mono {ms ns ns' : List Str} (h : ∀ x ∈ ns', x ∈ ns) {ds : List D} (hd : ∀ d ∈ ds, isPairD d) (hf : ds.any (frees1 ms ns) = true) : ds.any (frees1 ms ns') = true := by
  obtain ⟨d, h1, h2⟩ := List.any_eq_true.mp hf
  exact List.any_eq_true.mpr ⟨d, h1, frees_mono h (hd d h1) h2⟩
theorem fil_strOut (ns : List Str) : ∀ ts : List Str, (wrd ts).filter (fun d => !strIn ns d) = wrd (ts.filter fun x => !decide (x ∈ ns))
  | [] => rfl
  | t :: ts => by
    have ih := fil_strOut ns ts
    show List.filter _ (D.str t :: wrd ts) = _
    rw [List.filter_cons, List.filter_cons, ih]
    have e1 : strIn ns (.str t) = decide (t ∈ ns) := rfl
    rw [e1]
    cases decide (t ∈ ns) <;> rfl
def duesL (ds : List D) (ms : List Str) : List D := setsL.map fun ns => .tup [.tup (wrd ns), .bl (ds.any (frees1 ms ns))]
def bodyA : CSs := (.cons (.ifs (.val (.cmp .ne (.blt .repr (.call 9 (.cons (.var 0) (.cons (.var 1) (.cons (.var 3) .nil))))) (.blt .repr (.var 4)))) (.cons (.ret (.cst (.bl false))) .nil) .nil) .nil)
def bodyB : CSs := (.cons (.ifs (.bool true (.cons (.val (.var 4)) (.cons (.not (.val (.var 6))) (.cons (.val (.cmp .eq (.comp (.var 7) (.nm 7) (.ex (.var 5)) (.cons (.val (.cmp .nin (.var 7) (.var 3))) .nil)) (.lst .nil))) .nil)))) (.cons (.ret (.cst (.bl false))) .nil) .nil) .nil)
def bodyC : CSs := (.cons (.for1 (.tp [5, 6]) (.ex (.var 2)) bodyB) .nil)
def s30 : CS := (.asg 2 (.comp (.tup (.cons (.var 3) (.cons (.call 27 (.cons (.var 0) (.cons (.var 1) (.cons (.var 3) .nil)))) .nil))) (.nm 3) (.ex (.call 29 .nil)) .nil))
theorem bR_eq : b_30 = .cons s30 (.cons (.for1 (.tp [3, 4]) (.ex (.var 2)) bodyA) (.cons (.for1 (.tp [3, 4]) (.ex (.var 2)) bodyC) (.cons (.ret (.cst (.bl true))) .nil))) := rfl
theorem repr_bl (b : Bool) : ∃ s, reprD (.bl b) = some (.str s) := repr_ok (c := 0) (by decide) rfl (Nat.zero_le _) (Nat.zero_le _)
section
variable {m : Nat} {S : Sto} {ds : List D} {ms : List Str} {a2 a3 a4 a5 a6 a7 : SV}
theorem s30_t (hm : 1 ≤ m) (hd : ∀ d ∈ ds, isPairD d) : evS (Tb m) s30 [.val (.tup ds), .val (.tup (wrd ms)), a2, a3, a4, a5, a6, a7] S = some (.nx [.val (.tup ds), .val (.tup (wrd ms)), .val (.lst (duesL ds ms)), a3, a4, a5, a6, a7] S) := by
  have ea := allN_at (m := m) hm (S := S)
  have ec : compM (compF (Tb m) (.tup (.cons (.var 3) (.cons (.call 27 (.cons (.var 0) (.cons (.var 1) (.cons (.var 3) .nil)))) .nil))) (.nm 3) .nil [.val (.tup ds), .val (.tup (wrd ms)), a2, a3, a4, a5, a6, a7]) (setsL.map fun ns => .tup (wrd ns)) [] S = some (.ok (duesL ds ms) S) := by
    have q := compM_pure (f := compF (Tb m) (.tup (.cons (.var 3) (.cons (.call 27 (.cons (.var 0) (.cons (.var 1) (.cons (.var 3) .nil)))) .nil))) (.nm 3) .nil [.val (.tup ds), .val (.tup (wrd ms)), a2, a3, a4, a5, a6, a7]) (S := S) (fun x => some (.tup [x, .bl (match x with | .tup es => (match strsOf es with | some ns => ds.any (frees1 ms ns) | none => false) | _ => false)])) (setsL.map fun ns => .tup (wrd ns)) [] (fun x hx => by
      obtain ⟨ns, hns, rfl⟩ := List.mem_map.mp hx
      have e := frees_at (m := m) hm hd (ms := ms) (ns := ns) (S := S)
      unfold compF
      simp only [strsOf_wrd]
      generalize ds.any (frees1 ms ns) = z at e
      simp [evE_cst, evE_var, evE_pk, evE_fn, evE_gc, evE_tup, evE_lst, evE_bin, evE_cat, evE_neg, evE_cmp, evE_cmp2, evE_isN, evE_isB, evE_bool, evE_not, evE_ite, evE_idx, evE_slc, evE_rev, evE_call, evE_callK, evE_blt, evE_sset, evE_said, evE_isa, evE_cnt, evE_isaC, evE_fld, evE_dget, evE_dct, evBs_nil, evBs_cons, evT_val, evT_bool, evT_not, evB_nil, evB_cons, evTs_nil, evTs_cons, evEs_nil, evEs_cons, evO_no, evO_so, evI_ex, evI_enum, evS_asg, evS_asgO, evS_unp, evS_expr, evS_ifs, evS_ret, evS_retN, evS_retO, evS_whl, evS_app, evS_ext, evS_seti, evS_dput, evS_raise, evS_frz, evS_pass, evS_brk, evS_cont, evSs_nil, evSs_cons, evE_comp, evS_for, e, mkT_ok]) (by decide)
    rw [q, List.nil_append, List.filterMap_eq_map', List.map_map]
    refine congrArg (fun l => some (R.ok l S)) (List.map_congr_left fun ns _ => ?_)
    show D.tup [.tup (wrd ns), .bl (match strsOf (wrd ns) with | some ns => ds.any (frees1 ms ns) | none => false)] = _
    rw [strsOf_wrd]
  unfold s30
  generalize (setsL.map fun ns => D.tup (wrd ns)) = W at ea ec
  simp [evE_cst, evE_var, evE_pk, evE_fn, evE_gc, evE_tup, evE_lst, evE_bin, evE_cat, evE_neg, evE_cmp, evE_cmp2, evE_isN, evE_isB, evE_bool, evE_not, evE_ite, evE_idx, evE_slc, evE_rev, evE_call, evE_callK, evE_blt, evE_sset, evE_said, evE_isa, evE_cnt, evE_isaC, evE_fld, evE_dget, evE_dct, evBs_nil, evBs_cons, evT_val, evT_bool, evT_not, evB_nil, evB_cons, evTs_nil, evTs_cons, evEs_nil, evEs_cons, evO_no, evO_so, evI_ex, evI_enum, evS_asg, evS_asgO, evS_unp, evS_expr, evS_ifs, evS_ret, evS_retN, evS_retO, evS_whl, evS_app, evS_ext, evS_seti, evS_dput, evS_raise, evS_frz, evS_pass, evS_brk, evS_cont, evSs_nil, evSs_cons, evE_comp, evS_for, ea, ec]
theorem turnA {c : Nat} (hm : 6 ≤ m) (hc : c ≤ 1000) (hd : ∀ d ∈ ds, isPairD d) (hr : ruleB (.tup ds) = true) (hx : gd c (.tup ds) = true ∧ wt (.tup ds) ≤ 200000) (hmo : momsB (.tup (wrd ms)) = true) (hy : gd c (.tup (wrd ms)) = true ∧ wt (.tup (wrd ms)) ≤ 200000) {x : D} (hxd : x ∈ duesL ds ms) :
    ∃ b3 b4, forF (Tb m) (.tp [3, 4]) bodyA x [.val (.tup ds), .val (.tup (wrd ms)), a2, a3, a4, a5, a6, a7] S = some (.nx [.val (.tup ds), .val (.tup (wrd ms)), a2, b3, b4, a5, a6, a7] S) := by
  obtain ⟨ns, hns, rfl⟩ := List.mem_map.mp hxd
  obtain ⟨h1, h2⟩ := setsL_ok ns hns
  refine ⟨.val (.tup (wrd ns)), .val (.bl (ds.any (frees1 ms ns))), ?_⟩
  have gz : gd c (.tup (wrd ns)) = true := gds_all.mpr fun d hd => by
    obtain ⟨x, hx, rfl⟩ := List.mem_map.mp hd
    exact gd_str.mpr (needL_cps x (h1 x hx))
  have wz : wt (.tup (wrd ns)) ≤ 200000 := by
    have : ∀ ns ∈ setsL, wt (.tup (wrd ns)) ≤ 200000 := by decide +kernel
    exact this ns hns
  obtain ⟨n, rfl⟩ : ∃ n, m = n + 1 := ⟨m - 1, by omega⟩
  have ef : (Tb (n + 1)).f 9 [.tup ds, .tup (wrd ms), .tup (wrd ns)] S = some (.ok (.bl (ds.any (frees1 ms ns))) S) := by
    rw [tab_f (p := (3, b_9)) rfl]
    rcases @freed_run n c (by omega) hc (.tup ds) (.tup (wrd ms)) (.tup (wrd ns)) hx hy ⟨gz, wz⟩ S with ⟨w, hw, e1⟩ | ⟨ds', ms', ns', _, ⟨hxe, _⟩, hye, hze, e1⟩
    · rcases hw with ⟨q, _⟩ | ⟨_, q, _⟩ | ⟨_, _, q, _⟩
      · rw [hr] at q; cases q
      · rw [hmo] at q; cases q
      · rw [h2] at q; cases q
    · cases hxe
      have em : ms' = ms := by
        have q := strsOf_wrd ms'
        injection hye with hye
        rw [← hye, strsOf_wrd] at q
        exact (Option.some.inj q).symm
      have en : ns' = ns := by
        have q := strsOf_wrd ns'
        injection hze with hze
        rw [← hze, strsOf_wrd] at q
        exact (Option.some.inj q).symm
      rw [em, en] at e1
      exact e1
  obtain ⟨s, hs⟩ := repr_bl (ds.any (frees1 ms ns))
  unfold forF bodyA
  generalize ds.any (frees1 ms ns) = z at ef hs
  simp [evE_cst, evE_var, evE_pk, evE_fn, evE_gc, evE_tup, evE_lst, evE_bin, evE_cat, evE_neg, evE_cmp, evE_cmp2, evE_isN, evE_isB, evE_bool, evE_not, evE_ite, evE_idx, evE_slc, evE_rev, evE_call, evE_callK, evE_blt, evE_sset, evE_said, evE_isa, evE_cnt, evE_isaC, evE_fld, evE_dget, evE_dct, evBs_nil, evBs_cons, evT_val, evT_bool, evT_not, evB_nil, evB_cons, evTs_nil, evTs_cons, evEs_nil, evEs_cons, evO_no, evO_so, evI_ex, evI_enum, evS_asg, evS_asgO, evS_unp, evS_expr, evS_ifs, evS_ret, evS_retN, evS_retO, evS_whl, evS_app, evS_ext, evS_seti, evS_dput, evS_raise, evS_frz, evS_pass, evS_brk, evS_cont, evSs_nil, evSs_cons, evE_comp, evS_for, ef, hs]
theorem turnB (hd : ∀ d ∈ ds, isPairD d) {ns : List Str} (hns : ns ∈ setsL) {x : D} (hxd : x ∈ duesL ds ms) :
    ∃ b5 b6, forF (Tb m) (.tp [5, 6]) bodyB x [.val (.tup ds), .val (.tup (wrd ms)), a2, .val (.tup (wrd ns)), .val (.bl (ds.any (frees1 ms ns))), a5, a6, a7] S = some (.nx [.val (.tup ds), .val (.tup (wrd ms)), a2, .val (.tup (wrd ns)), .val (.bl (ds.any (frees1 ms ns))), b5, b6, a7] S) := by
  obtain ⟨ns', hns', rfl⟩ := List.mem_map.mp hxd
  obtain ⟨h1, _⟩ := setsL_ok ns' hns'
  refine ⟨.val (.tup (wrd ns')), .val (.bl (ds.any (frees1 ms ns'))), ?_⟩
  have lw : (wrd ns').length ≤ 16777216 := by
    have : ∀ ns ∈ setsL, (wrd ns).length ≤ 16777216 := by decide +kernel
    exact this ns' hns'
  have ec : ∀ ρ : Mi.Env, ρ = [.val (.tup ds), .val (.tup (wrd ms)), a2, .val (.tup (wrd ns)), .val (.bl (ds.any (frees1 ms ns))), .val (.tup (wrd ns')), .val (.bl (ds.any (frees1 ms ns'))), a7] → compM (compF (Tb m) (.var 7) (.nm 7) (.cons (.val (.cmp .nin (.var 7) (.var 3))) .nil) ρ) (wrd ns') [] S = _ := fun ρ hρ =>
    compM_fil (fun d => !strIn ns d) (wrd ns') (fun d hd => by
      obtain ⟨x, hx, rfl⟩ := List.mem_map.mp hd
      subst hρ
      have ei : cop .nin (.str x) (.tup (wrd ns)) = some (!decide (x ∈ ns)) := by
        show (inD (.str x) (wrd ns)).map (!·) = _
        rw [in_wrd]; rfl
      unfold compF
      by_cases q : x ∈ ns
      · simp [evE_cst, evE_var, evE_pk, evE_fn, evE_gc, evE_tup, evE_lst, evE_bin, evE_cat, evE_neg, evE_cmp, evE_cmp2, evE_isN, evE_isB, evE_bool, evE_not, evE_ite, evE_idx, evE_slc, evE_rev, evE_call, evE_callK, evE_blt, evE_sset, evE_said, evE_isa, evE_cnt, evE_isaC, evE_fld, evE_dget, evE_dct, evBs_nil, evBs_cons, evT_val, evT_bool, evT_not, evB_nil, evB_cons, evTs_nil, evTs_cons, evEs_nil, evEs_cons, evO_no, evO_so, evI_ex, evI_enum, evS_asg, evS_asgO, evS_unp, evS_expr, evS_ifs, evS_ret, evS_retN, evS_retO, evS_whl, evS_app, evS_ext, evS_seti, evS_dput, evS_raise, evS_frz, evS_pass, evS_brk, evS_cont, evSs_nil, evSs_cons, evE_comp, evS_for, ei, strIn, q]
      · simp [evE_cst, evE_var, evE_pk, evE_fn, evE_gc, evE_tup, evE_lst, evE_bin, evE_cat, evE_neg, evE_cmp, evE_cmp2, evE_isN, evE_isB, evE_bool, evE_not, evE_ite, evE_idx, evE_slc, evE_rev, evE_call, evE_callK, evE_blt, evE_sset, evE_said, evE_isa, evE_cnt, evE_isaC, evE_fld, evE_dget, evE_dct, evBs_nil, evBs_cons, evT_val, evT_bool, evT_not, evB_nil, evB_cons, evTs_nil, evTs_cons, evEs_nil, evEs_cons, evO_no, evO_so, evI_ex, evI_enum, evS_asg, evS_asgO, evS_unp, evS_expr, evS_ifs, evS_ret, evS_retN, evS_retO, evS_whl, evS_app, evS_ext, evS_seti, evS_dput, evS_raise, evS_frz, evS_pass, evS_brk, evS_cont, evSs_nil, evSs_cons, evE_comp, evS_for, ei, strIn, q]) lw
  have ec := ec _ rfl
  have fil := fil_strOut ns ns'
  rw [fil] at ec
  have gt : ∀ x ∈ ns'.filter (fun x => !decide (x ∈ ns)), ∀ z ∈ x.cps.toList, z < 1114112 := fun x hx => needL_cps x (h1 x (List.mem_filter.mp hx).1)
  have eq := eq_wrds (a := ns'.filter fun x => !decide (x ∈ ns)) (b := []) gt (fun x hx => (List.not_mem_nil hx).elim)
  have eq : cop .eq (.lst (wrd (ns'.filter fun x => !decide (x ∈ ns)))) (.lst []) = some (decide (ns'.filter (fun x => !decide (x ∈ ns)) = [])) := eq
  have mono : ns'.filter (fun x => !decide (x ∈ ns)) = [] → ds.any (frees1 ms ns) = true → ds.any (frees1 ms ns') = true := fun e => any_mono (fun x hx => by
    have := List.filter_eq_nil_iff.mp e x hx
    simpa using this) hd
  unfold forF bodyB
  by_cases q : ns'.filter (fun x => !decide (x ∈ ns)) = []
  · have mono := mono q
    rw [decide_eq_true q] at eq
    generalize wrd (ns'.filter fun x => !decide (x ∈ ns)) = W at ec eq
    generalize ds.any (frees1 ms ns) = u at mono ec
    generalize ds.any (frees1 ms ns') = v at mono ec
    cases u
    · simp [evE_cst, evE_var, evE_pk, evE_fn, evE_gc, evE_tup, evE_lst, evE_bin, evE_cat, evE_neg, evE_cmp, evE_cmp2, evE_isN, evE_isB, evE_bool, evE_not, evE_ite, evE_idx, evE_slc, evE_rev, evE_call, evE_callK, evE_blt, evE_sset, evE_said, evE_isa, evE_cnt, evE_isaC, evE_fld, evE_dget, evE_dct, evBs_nil, evBs_cons, evT_val, evT_bool, evT_not, evB_nil, evB_cons, evTs_nil, evTs_cons, evEs_nil, evEs_cons, evO_no, evO_so, evI_ex, evI_enum, evS_asg, evS_asgO, evS_unp, evS_expr, evS_ifs, evS_ret, evS_retN, evS_retO, evS_whl, evS_app, evS_ext, evS_seti, evS_dput, evS_raise, evS_frz, evS_pass, evS_brk, evS_cont, evSs_nil, evSs_cons, evE_comp, evS_for, D.truth]
    · have mono := mono rfl
      subst mono
      simp [evE_cst, evE_var, evE_pk, evE_fn, evE_gc, evE_tup, evE_lst, evE_bin, evE_cat, evE_neg, evE_cmp, evE_cmp2, evE_isN, evE_isB, evE_bool, evE_not, evE_ite, evE_idx, evE_slc, evE_rev, evE_call, evE_callK, evE_blt, evE_sset, evE_said, evE_isa, evE_cnt, evE_isaC, evE_fld, evE_dget, evE_dct, evBs_nil, evBs_cons, evT_val, evT_bool, evT_not, evB_nil, evB_cons, evTs_nil, evTs_cons, evEs_nil, evEs_cons, evO_no, evO_so, evI_ex, evI_enum, evS_asg, evS_asgO, evS_unp, evS_expr, evS_ifs, evS_ret, evS_retN, evS_retO, evS_whl, evS_app, evS_ext, evS_seti, evS_dput, evS_raise, evS_frz, evS_pass, evS_brk, evS_cont, evSs_nil, evSs_cons, evE_comp, evS_for, D.truth]
  · rw [decide_eq_false q] at eq
    generalize wrd (ns'.filter fun x => !decide (x ∈ ns)) = W at ec eq
    generalize ds.any (frees1 ms ns) = u at ec
    generalize ds.any (frees1 ms ns') = v at ec
    cases u <;> cases v <;> simp [evE_cst, evE_var, evE_pk, evE_fn, evE_gc, evE_tup, evE_lst, evE_bin, evE_cat, evE_neg, evE_cmp, evE_cmp2, evE_isN, evE_isB, evE_bool, evE_not, evE_ite, evE_idx, evE_slc, evE_rev, evE_call, evE_callK, evE_blt, evE_sset, evE_said, evE_isa, evE_cnt, evE_isaC, evE_fld, evE_dget, evE_dct, evBs_nil, evBs_cons, evT_val, evT_bool, evT_not, evB_nil, evB_cons, evTs_nil, evTs_cons, evEs_nil, evEs_cons, evO_no, evO_so, evI_ex, evI_enum, evS_asg, evS_asgO, evS_unp, evS_expr, evS_ifs, evS_ret, evS_retN, evS_retO, evS_whl, evS_app, evS_ext, evS_seti, evS_dput, evS_raise, evS_frz, evS_pass, evS_brk, evS_cont, evSs_nil, evSs_cons, evE_comp, evS_for, D.truth, ec, eq, mkL_ok]
theorem turnC (hd : ∀ d ∈ ds, isPairD d) {x : D} (hxd : x ∈ duesL ds ms) :
    ∃ b3 b4 b5 b6, forF (Tb m) (.tp [3, 4]) bodyC x [.val (.tup ds), .val (.tup (wrd ms)), .val (.lst (duesL ds ms)), a3, a4, a5, a6, a7] S = some (.nx [.val (.tup ds), .val (.tup (wrd ms)), .val (.lst (duesL ds ms)), b3, b4, b5, b6, a7] S) := by
  obtain ⟨ns, hns, rfl⟩ := List.mem_map.mp hxd
  obtain ⟨ρ', S', e, b5, b6, rfl, rfl⟩ := forM_inv (xs0 := duesL ds ms) (body := forF (Tb m) (.tp [5, 6]) bodyB) (fun ρ S' => ∃ b5 b6, ρ = [.val (.tup ds), .val (.tup (wrd ms)), .val (.lst (duesL ds ms)), .val (.tup (wrd ns)), .val (.bl (ds.any (frees1 ms ns))), b5, b6, a7] ∧ S' = S) (fun x hx ρ S' ⟨b5, b6, h1, h2⟩ => by
    subst h1
    subst h2
    obtain ⟨c5, c6, e⟩ := turnB (m := m) (S := S') (a2 := .val (.lst (duesL ds ms))) (a5 := b5) (a6 := b6) (a7 := a7) hd hns hx
    exact ⟨_, _, e, c5, c6, rfl, rfl⟩) (duesL ds ms) [.val (.tup ds), .val (.tup (wrd ms)), .val (.lst (duesL ds ms)), .val (.tup (wrd ns)), .val (.bl (ds.any (frees1 ms ns))), a5, a6, a7] S (fun _ h => h) ⟨a5, a6, rfl, rfl⟩
  refine ⟨.val (.tup (wrd ns)), .val (.bl (ds.any (frees1 ms ns))), b5, b6, ?_⟩
  · have ei : evI (Tb m) (.ex (.var 2)) [.val (.tup ds), .val (.tup (wrd ms)), .val (.lst (duesL ds ms)), .val (.tup (wrd ns)), .val (.bl (ds.any (frees1 ms ns))), a5, a6, a7] S' = some (.ok (duesL ds ms) S') := by simp [evE_cst, evE_var, evE_pk, evE_fn, evE_gc, evE_tup, evE_lst, evE_bin, evE_cat, evE_neg, evE_cmp, evE_cmp2, evE_isN, evE_isB, evE_bool, evE_not, evE_ite, evE_idx, evE_slc, evE_rev, evE_call, evE_callK, evE_blt, evE_sset, evE_said, evE_isa, evE_cnt, evE_isaC, evE_fld, evE_dget, evE_dct, evBs_nil, evBs_cons, evT_val, evT_bool, evT_not, evB_nil, evB_cons, evTs_nil, evTs_cons, evEs_nil, evEs_cons, evO_no, evO_so, evI_ex, evI_enum, evS_asg, evS_asgO, evS_unp, evS_expr, evS_ifs, evS_ret, evS_retN, evS_retO, evS_whl, evS_app, evS_ext, evS_seti, evS_dput, evS_raise, evS_frz, evS_pass, evS_brk, evS_cont, evSs_nil, evSs_cons, evE_comp, evS_for]
    have bt : bindT (.tp [3, 4]) (.tup [.tup (wrd ns), .bl (ds.any (frees1 ms ns))]) [.val (.tup ds), .val (.tup (wrd ms)), .val (.lst (duesL ds ms)), a3, a4, a5, a6, a7] = some [.val (.tup ds), .val (.tup (wrd ms)), .val (.lst (duesL ds ms)), .val (.tup (wrd ns)), .val (.bl (ds.any (frees1 ms ns))), a5, a6, a7] := rfl
    unfold forF bodyC
    rw [bt]
    show evSs _ _ _ _ = _
    rw [evSs_cons, for_eq ei, e, fb_nx1, evSs_nil]
end
theorem right_at {m c : Nat} (hm : 7 ≤ m) (hc : c ≤ 1000) {ds : List D} {ms : List Str} (hd : ∀ d ∈ ds, isPairD d) (hr : ruleB (.tup ds) = true) (hx : gd c (.tup ds) = true ∧ wt (.tup ds) ≤ 200000) (hmo : momsB (.tup (wrd ms)) = true) (hy : gd c (.tup (wrd ms)) = true ∧ wt (.tup (wrd ms)) ≤ 200000) {S : Sto} :
    (Tb m).f 30 [.tup ds, .tup (wrd ms)] S = some (.ok (.bl true) S) := by
  obtain ⟨n, rfl⟩ : ∃ n, m = n + 1 := ⟨m - 1, by omega⟩
  rw [tab_f (p := (8, b_30)) rfl, runF_eq]
  show endF (evSs (Tb n) b_30 [.val (.tup ds), .val (.tup (wrd ms)), .non, .non, .non, .non, .non, .non] S) = _
  rw [bR_eq, evSs_cons, s30_t (by omega) hd, fb_nx1]
  have ei : ∀ a3 a4 a5 a6 a7, evI (Tb n) (.ex (.var 2)) [.val (.tup ds), .val (.tup (wrd ms)), .val (.lst (duesL ds ms)), a3, a4, a5, a6, a7] S = some (.ok (duesL ds ms) S) := fun _ _ _ _ _ => by simp [evE_cst, evE_var, evE_pk, evE_fn, evE_gc, evE_tup, evE_lst, evE_bin, evE_cat, evE_neg, evE_cmp, evE_cmp2, evE_isN, evE_isB, evE_bool, evE_not, evE_ite, evE_idx, evE_slc, evE_rev, evE_call, evE_callK, evE_blt, evE_sset, evE_said, evE_isa, evE_cnt, evE_isaC, evE_fld, evE_dget, evE_dct, evBs_nil, evBs_cons, evT_val, evT_bool, evT_not, evB_nil, evB_cons, evTs_nil, evTs_cons, evEs_nil, evEs_cons, evO_no, evO_so, evI_ex, evI_enum, evS_asg, evS_asgO, evS_unp, evS_expr, evS_ifs, evS_ret, evS_retN, evS_retO, evS_whl, evS_app, evS_ext, evS_seti, evS_dput, evS_raise, evS_frz, evS_pass, evS_brk, evS_cont, evSs_nil, evSs_cons, evE_comp, evS_for]
  obtain ⟨ρ1, S1, e1, b3, b4, rfl, rfl⟩ := forM_inv (xs0 := duesL ds ms) (body := forF (Tb n) (.tp [3, 4]) bodyA) (fun ρ S' => ∃ b3 b4, ρ = [.val (.tup ds), .val (.tup (wrd ms)), .val (.lst (duesL ds ms)), b3, b4, .non, .non, .non] ∧ S' = S) (fun x hx' ρ S' ⟨b3, b4, h1, h2⟩ => by
    subst h1
    subst h2
    obtain ⟨c3, c4, e⟩ := turnA (m := n) (S := S') (a2 := .val (.lst (duesL ds ms))) (a3 := b3) (a4 := b4) (a5 := .non) (a6 := .non) (a7 := .non) (by omega) hc hd hr hx hmo hy hx'
    exact ⟨_, _, e, c3, c4, rfl, rfl⟩) (duesL ds ms) [.val (.tup ds), .val (.tup (wrd ms)), .val (.lst (duesL ds ms)), .non, .non, .non, .non, .non] S (fun _ h => h) ⟨_, _, rfl, rfl⟩
  rw [evSs_cons, for_eq (ei _ _ _ _ _), e1, fb_nx1]
  obtain ⟨ρ2, S2, e2, c3, c4, c5, c6, rfl, rfl⟩ := forM_inv (xs0 := duesL ds ms) (body := forF (Tb n) (.tp [3, 4]) bodyC) (fun ρ S' => ∃ b3 b4 b5 b6, ρ = [.val (.tup ds), .val (.tup (wrd ms)), .val (.lst (duesL ds ms)), b3, b4, b5, b6, .non] ∧ S' = S1) (fun x hx' ρ S' ⟨b3, b4, b5, b6, h1, h2⟩ => by
    subst h1
    subst h2
    obtain ⟨c3, c4, c5, c6, e⟩ := turnC (m := n) (S := S') (a3 := b3) (a4 := b4) (a5 := b5) (a6 := b6) (a7 := .non) hd hx'
    exact ⟨_, _, e, c3, c4, c5, c6, rfl, rfl⟩) (duesL ds ms) [.val (.tup ds), .val (.tup (wrd ms)), .val (.lst (duesL ds ms)), b3, b4, .non, .non, .non] S1 (fun _ h => h) ⟨_, _, _, _, rfl, rfl⟩
  rw [evSs_cons, for_eq (ei _ _ _ _ _), e2, fb_nx1]
  simp [evE_cst, evE_var, evE_pk, evE_fn, evE_gc, evE_tup, evE_lst, evE_bin, evE_cat, evE_neg, evE_cmp, evE_cmp2, evE_isN, evE_isB, evE_bool, evE_not, evE_ite, evE_idx, evE_slc, evE_rev, evE_call, evE_callK, evE_blt, evE_sset, evE_said, evE_isa, evE_cnt, evE_isaC, evE_fld, evE_dget, evE_dct, evBs_nil, evBs_cons, evT_val, evT_bool, evT_not, evB_nil, evB_cons, evTs_nil, evTs_cons, evEs_nil, evEs_cons, evO_no, evO_so, evI_ex, evI_enum, evS_asg, evS_asgO, evS_unp, evS_expr, evS_ifs, evS_ret, evS_retN, evS_retO, evS_whl, evS_app, evS_ext, evS_seti, evS_dput, evS_raise, evS_frz, evS_pass, evS_brk, evS_cont, evSs_nil, evSs_cons, evE_comp, evS_for, endF]
end T07
end

section
set_option linter.all false
set_option maxRecDepth 100000
set_option Elab.async false
set_option maxHeartbeats 8000000
namespace T07
open PySem L2 Mi
/-- the feed at the start -/
theorem feed_at {m : Nat} (hm : 1 ≤ m) {ns : List Int} (hl : ns.length ≤ 63) : (Tb m).f 10 [.lst (ns.map .int)] [.tab 0] = some (.ok (.loc 1) (feedS ns 0 0 0)) := by
  obtain ⟨n, rfl⟩ : ∃ n, m = n + 1 := ⟨m - 1, by omega⟩
  rw [tab_f (p := (2, b_10)) rfl, runF_eq]
  have ec : compM (compF (Tb n) (.blt .int (.var 1)) (.nm 1) .nil [.val (.lst (ns.map .int)), .non]) (ns.map .int) [] [.tab 0] = _ :=
    compM_map (fun d => d) (ns.map .int) (fun x hx => by
      obtain ⟨i, _, rfl⟩ := List.mem_map.mp hx
      unfold compF
      simp [evE_cst, evE_var, evE_pk, evE_fn, evE_gc, evE_tup, evE_lst, evE_bin, evE_cat, evE_neg, evE_cmp, evE_cmp2, evE_isN, evE_isB, evE_bool, evE_not, evE_ite, evE_idx, evE_slc, evE_rev, evE_call, evE_callK, evE_blt, evE_sset, evE_said, evE_isa, evE_cnt, evE_isaC, evE_fld, evE_dget, evE_dct, evBs_nil, evBs_cons, evT_val, evT_bool, evT_not, evB_nil, evB_cons, evTs_nil, evTs_cons, evEs_nil, evEs_cons, evO_no, evO_so, evI_ex, evI_enum, evS_asg, evS_asgO, evS_unp, evS_expr, evS_ifs, evS_ret, evS_retN, evS_retO, evS_whl, evS_app, evS_ext, evS_seti, evS_dput, evS_raise, evS_frz, evS_pass, evS_brk, evS_cont, evSs_nil, evSs_cons, evE_comp, evS_for]) (by rw [List.length_map]; omega)
  rw [List.map_id'] at ec
  have ek : cutG (ns.map D.int) none (some 63) = ns.map D.int := by
    have := cut_to (ns.map D.int) 63
    rw [List.take_of_length_le (by rw [List.length_map]; omega)] at this
    exact this
  have em : mkDct ["cells", "spot", "left", "turns"] [.lst (ns.map .int), .int 0, .int 0, .int 0] [.tab 0] = some (.ok (.loc 1) (feedS ns 0 0 0)) := by kernel_rfl
  unfold b_10
  generalize hX : ns.map D.int = X at ec ek em
  simp [evE_cst, evE_var, evE_pk, evE_fn, evE_gc, evE_tup, evE_lst, evE_bin, evE_cat, evE_neg, evE_cmp, evE_cmp2, evE_isN, evE_isB, evE_bool, evE_not, evE_ite, evE_idx, evE_slc, evE_rev, evE_call, evE_callK, evE_blt, evE_sset, evE_said, evE_isa, evE_cnt, evE_isaC, evE_fld, evE_dget, evE_dct, evBs_nil, evBs_cons, evT_val, evT_bool, evT_not, evB_nil, evB_cons, evTs_nil, evTs_cons, evEs_nil, evEs_cons, evO_no, evO_so, evI_ex, evI_enum, evS_asg, evS_asgO, evS_unp, evS_expr, evS_ifs, evS_ret, evS_retN, evS_retO, evS_whl, evS_app, evS_ext, evS_seti, evS_dput, evS_raise, evS_frz, evS_pass, evS_brk, evS_cont, evSs_nil, evSs_cons, evE_comp, evS_for, ek, ec, em]
theorem feed_FS {ns : List Int} : FS (feedS ns 0 0 0) := ⟨ns, 0, 0, 0, rfl, by omega, by omega⟩
/-! ### how large plans are -/
theorem wts_wrd : ∀ {ts : List Str}, (∀ x ∈ ts, x.length ≤ 7) → wts (wrd ts) ≤ 8 * ts.length
  | [], _ => Nat.le_refl _
  | t :: ts, h => by
    have ih := wts_wrd fun x hx => h x (List.mem_cons_of_mem _ hx)
    have ht := h t (by simp)
    show t.length + 1 + wts (wrd ts) ≤ 8 * (ts.length + 1)
    omega
theorem needL_len : ∀ x ∈ needL, x.length ≤ 7 := by decide +kernel
theorem momL_len : ∀ x ∈ momL, x.length ≤ 6 := by decide +kernel
theorem momL_cps : ∀ x ∈ momL, ∀ z ∈ x.cps.toList, z < 1114112 := by decide +kernel
theorem dps_wrd : ∀ ts : List Str, dps (wrd ts) = 0
  | [] => rfl
  | t :: ts => by
    have ih := dps_wrd ts
    show max 0 (dps (wrd ts)) = 0
    rw [ih]; rfl
theorem gds_wrd {c : Nat} {ts : List Str} (h : ∀ x ∈ ts, x ∈ needL) : gds c (wrd ts) = true := gds_all.mpr fun d hd => by
  obtain ⟨x, hx, rfl⟩ := List.mem_map.mp hd
  exact gd_str.mpr (needL_cps x (h x hx))
theorem pair_good {d : D} (h : isPairD d) : gd 0 d = true ∧ wt d ≤ 40 ∧ dp d ≤ 2 := by
  obtain ⟨m, hm, ts, ht, hl, hs, rfl⟩ := h
  have w := wts_wrd fun x hx => needL_len x (ht x hx)
  have l := momL_len m hm
  refine ⟨gds_all.mpr fun d hd => ?_, ?_, ?_⟩
  · rcases List.mem_cons.mp hd with q | q
    · rw [q]; exact gd_str.mpr (momL_cps m hm)
    · rw [List.mem_singleton.mp q]; exact gds_wrd ht
  · show m.length + 1 + (wts (wrd ts) + 1 + 0) ≤ 40
    omega
  · show max 0 (max (dps (wrd ts) + 1) 0) + 1 ≤ 2
    rw [dps_wrd]; decide
theorem wts_le {n : Nat} : ∀ {ds : List D}, (∀ d ∈ ds, wt d ≤ n) → wts ds ≤ (n + 1) * ds.length
  | [], _ => Nat.le_refl _
  | d :: ds, h => by
    have ih := wts_le fun x hx => h x (List.mem_cons_of_mem _ hx)
    have hd := h d (by simp)
    show wt d + 1 + wts ds ≤ (n + 1) * (ds.length + 1)
    rw [Nat.mul_add]
    omega
end T07
end

section
set_option linter.all false
set_option maxRecDepth 100000
set_option Elab.async false
set_option maxHeartbeats 8000000
namespace T07
open PySem L2 Mi
/-! ### the law -/
structure Pk (ds : List D) : Prop where
  pr : ∀ d ∈ ds, isPairD d
  rl : ruleB (.tup ds) = true
  ln : ds.length ≤ 6
def everyL : List D := momL.map fun m => .tup [.str m, .tup []]
theorem every_ok : Pk everyL := by
  refine ⟨fun d hd => ?_, by decide +kernel, by decide +kernel⟩
  obtain ⟨m, hm, rfl⟩ := List.mem_map.mp hd
  exact ⟨m, hm, [], fun _ h => (List.not_mem_nil h).elim, by decide, List.nil_sublist _, rfl⟩
theorem nil_ok : Pk [] := ⟨fun _ h => (List.not_mem_nil h).elim, by decide +kernel, by decide⟩
theorem plan_pk {m : Nat} (hm : 4 ≤ m) {S : Sto} (h : FS S) {c : Int} (h0 : 0 ≤ c) (h1 : c ≤ 6) : ∃ ps S', (Tb m).f 15 [.loc 1, .int c] S = some (.ok (.tup ps) S') ∧ FS S' ∧ Pk ps := by
  obtain ⟨ps, S', e, hS, h2, h3, ks, rfl, h4, h5⟩ := plan_at hm h h0 (by omega)
  exact ⟨_, S', e, hS, h2, by rw [ruleB_of h4]; exact h5, by omega⟩
/-- a thing that may be bent -/
def Gk (c W P T : Nat) (x : D) : Prop := gd c x = true ∧ wt x ≤ W ∧ dp x ≤ P ∧ tl x ≤ T
theorem pk_good {ds : List D} (h : Pk ds) : Gk 0 250 3 6 (.tup ds) := by
  have w := wts_le fun d hd => (pair_good (h.pr d hd)).2.1
  have hl := h.ln
  refine ⟨gds_all.mpr fun d hd => (pair_good (h.pr d hd)).1, ?_, ?_, hl⟩
  · show wts ds ≤ 250
    omega
  · have : dps ds ≤ 2 := dps_le.mpr fun d hd => (pair_good (h.pr d hd)).2.2
    show dps ds + 1 ≤ 3
    omega
theorem wrd_app (a b : List Str) : wrd a ++ wrd b = wrd (a ++ b) := (List.map_append ..).symm
theorem wrd_rev (a : List Str) : (wrd a).reverse = wrd a.reverse := (List.map_reverse ..).symm
theorem moms_good {ms : List Str} (h : ∀ x ∈ ms, x ∈ momL) (hl : ms.length ≤ 12) : Gk 0 250 3 12 (.tup (wrd ms)) := by
  have lw : (wrd ms).length = ms.length := List.length_map ..
  have w := wts_wrd (ts := ms) fun x hx => Nat.le_succ_of_le (momL_len x (h x hx))
  refine ⟨gds_all.mpr fun d hd => ?_, ?_, ?_, ?_⟩
  · obtain ⟨x, hx, rfl⟩ := List.mem_map.mp hd
    exact gd_str.mpr (momL_cps x (h x hx))
  · show wts (wrd ms) ≤ 250
    omega
  · show dps (wrd ms) + 1 ≤ 3
    rw [dps_wrd]; decide
  · show (wrd ms).length ≤ 12
    omega
theorem needs_good {ns : List Str} (h : ns.Sublist needL) : Gk 0 250 3 6 (.tup (wrd ns)) := by
  have hl : ns.length ≤ 4 := h.length_le
  have lw : (wrd ns).length = ns.length := List.length_map ..
  have w := wts_wrd (ts := ns) fun x hx => needL_len x (h.subset hx)
  refine ⟨gds_wrd fun x hx => h.subset hx, ?_, ?_, ?_⟩
  · show wts (wrd ns) ≤ 250
    omega
  · show dps (wrd ns) + 1 ≤ 3
    rw [dps_wrd]; decide
  · show (wrd ns).length ≤ 6
    omega
theorem Gk.mono {c W P T c' W' P' T' : Nat} {x : D} (h : Gk c W P T x) (h1 : c ≤ c') (h2 : W ≤ W') (h3 : P ≤ P') (h4 : T ≤ T') : Gk c' W' P' T' x := ⟨gd_mono h1 _ h.1, Nat.le_trans h.2.1 h2, Nat.le_trans h.2.2.1 h3, Nat.le_trans h.2.2.2 h4⟩
def bodyK : CSs := (.cons (.ifs (.val (.cmp .eq (.call 11 (.cons (.var 1) (.cons (.cst (.int 3)) .nil))) (.cst (.int 0)))) (.cons (.asg 11 (.lst (.cons (.call 23 (.cons (.var 1) (.cons (.idx (.pk 7) (.var 8)) .nil))) (.cons (.call 22 (.cons (.var 1) .nil)) (.cons (.bin .add (.var 6) (.var 6)) (.cons (.rev (.var 6)) .nil)))))) (.cons (.seti 7 (.var 8) (.call 12 (.cons (.var 1) (.cons (.var 11) .nil)))) .nil)) .nil) .nil)
section
variable {m : Nat} {a0 a2 a3 a4 a5 a7 a8 a9 a10 a11 : SV}
theorem turnK {c W P T : Nat} (hm : P + 5 ≤ m) (hc : c ≤ 1000) (hW : 215 ≤ W ∧ W ≤ 100000) (hP : 3 ≤ P) (hT : 12 ≤ T) {ms : List Str} (hms : ms.Sublist momL) {xs : List D} (hl : xs.length = 3) (hx : ∀ x ∈ xs, Gk c W P T x) {j : Nat} (hj : j < 3) {S : Sto} (hS : FS S) :
    ∃ xs' a11' S', forF (Tb m) (.nm 8) bodyK (.int j) [a0, .val (.loc 1), a2, a3, a4, a5, .val (.tup (wrd ms)), .own xs, a8, a9, a10, a11] S = some (.nx [a0, .val (.loc 1), a2, a3, a4, a5, .val (.tup (wrd ms)), .own xs', .val (.int j), a9, a10, a11'] S') ∧ FS S' ∧ xs'.length = 3 ∧ ∀ x ∈ xs', Gk (c + 1) (3 * W + 216) (P + 3) (T + 1) x := by
  have up : ∀ x, Gk c W P T x → Gk (c + 1) (3 * W + 216) (P + 3) (T + 1) x := fun x h => h.mono (by omega) (by omega) (by omega) (by omega)
  obtain ⟨r, S1, e1, hS1, r0, r1⟩ := draw_at (m := m) (by omega) hS (b := 3) (by decide) (by decide)
  by_cases hr : r = 0
  · subst hr
    have hjl : j < xs.length := by omega
    have ei : atD xs (j : Int) = some xs[j] := by
      show L2.atI xs _ = _
      rw [at_ok (by omega) (by omega), Int.toNat_natCast, List.getElem?_eq_getElem hjl]
    have gx := hx xs[j] (List.getElem_mem hjl)
    obtain ⟨u, S2, e2, hS2, B⟩ := bent_ok P m c xs[j] S1 gx.2.2.1 (by omega) gx.1 (by have := gx.2.1; omega) hc hS1
    obtain ⟨s, S3, e3, hS3, s1, s2, s3⟩ := strange_at (m := m) (by omega) hS2
    have lm : ms.length ≤ 6 := hms.length_le
    have lw : (wrd ms).length = ms.length := List.length_map ..
    have two : mkT (wrd ms ++ wrd ms) = some (.tup (wrd (ms ++ ms))) := by rw [mkT_ok (by rw [List.length_append]; omega), wrd_app]
    obtain ⟨d, S4, e4, hS4, hd⟩ := pick_at (m := m) (by omega) hS3 (xs := [u, s, .tup (wrd (ms ++ ms)), .tup (wrd ms.reverse)]) (by simp) (by simp)
    have gd' : Gk (c + 1) (3 * W + 216) (P + 3) (T + 1) d := by
      simp only [List.mem_cons, List.not_mem_nil, or_false] at hd
      rcases hd with q | q | q | q
      · rw [q]
        obtain ⟨b1, b2, b3, b4⟩ := B
        have := gx.2.1; have := gx.2.2.1; have := gx.2.2.2
        exact ⟨b1, by omega, by omega, by omega⟩
      · rw [q]
        exact ⟨gd_mono (by omega) _ s1, by omega, by omega, by omega⟩
      · rw [q]
        exact (moms_good (ms := ms ++ ms) (fun x hx => by rcases List.mem_append.mp hx with z | z <;> exact hms.subset z) (by rw [List.length_append]; omega)).mono (by omega) (by omega) (by omega) (by omega)
      · rw [q]
        exact (moms_good (ms := ms.reverse) (fun x hx => hms.subset (List.mem_reverse.mp hx)) (by rw [List.length_reverse]; omega)).mono (by omega) (by omega) (by omega) (by omega)
    refine ⟨xs.set j d, .val (.lst [u, s, .tup (wrd (ms ++ ms)), .tup (wrd ms.reverse)]), S4, ?_, hS4, by rw [List.length_set]; exact hl, fun x hx' => ?_⟩
    · unfold forF bodyK
      have hj2 : (j : Int) < xs.length := by omega
      have hrv : (wrd ms).reverse = wrd ms.reverse := wrd_rev ms
      simp [evE_cst, evE_var, evE_pk, evE_fn, evE_gc, evE_tup, evE_lst, evE_bin, evE_cat, evE_neg, evE_cmp, evE_cmp2, evE_isN, evE_isB, evE_bool, evE_not, evE_ite, evE_idx, evE_slc, evE_rev, evE_call, evE_callK, evE_blt, evE_sset, evE_said, evE_isa, evE_cnt, evE_isaC, evE_fld, evE_dget, evE_dct, evBs_nil, evBs_cons, evT_val, evT_bool, evT_not, evB_nil, evB_cons, evTs_nil, evTs_cons, evEs_nil, evEs_cons, evO_no, evO_so, evI_ex, evI_enum, evS_asg, evS_asgO, evS_unp, evS_expr, evS_ifs, evS_ret, evS_retN, evS_retO, evS_whl, evS_app, evS_ext, evS_seti, evS_dput, evS_raise, evS_frz, evS_pass, evS_brk, evS_cont, evSs_nil, evSs_cons, evE_comp, evS_for, e1, e2, e3, e4, ei, two, hrv, mkL_ok, ownAt, hj2, hjl]
    · rcases List.mem_or_eq_of_mem_set hx' with z | z
      · exact up x (hx x z)
      · rw [z]; exact gd'
  · refine ⟨xs, a11, S1, ?_, hS1, hl, fun x hx' => up x (hx x hx')⟩
    unfold forF bodyK
    simp [evE_cst, evE_var, evE_pk, evE_fn, evE_gc, evE_tup, evE_lst, evE_bin, evE_cat, evE_neg, evE_cmp, evE_cmp2, evE_isN, evE_isB, evE_bool, evE_not, evE_ite, evE_idx, evE_slc, evE_rev, evE_call, evE_callK, evE_blt, evE_sset, evE_said, evE_isa, evE_cnt, evE_isaC, evE_fld, evE_dget, evE_dct, evBs_nil, evBs_cons, evT_val, evT_bool, evT_not, evB_nil, evB_cons, evTs_nil, evTs_cons, evEs_nil, evEs_cons, evO_no, evO_so, evI_ex, evI_enum, evS_asg, evS_asgO, evS_unp, evS_expr, evS_ifs, evS_ret, evS_retN, evS_retO, evS_whl, evS_app, evS_ext, evS_seti, evS_dput, evS_raise, evS_frz, evS_pass, evS_brk, evS_cont, evSs_nil, evSs_cons, evE_comp, evS_for, e1, hr]
end
def bodyT : CSs := (.cons (.asgO 7 (.lst (.cons (.var 5) (.cons (.call 28 (.cons (.var 1) .nil)) (.cons (.call 13 (.cons (.var 1) .nil)) .nil))))) (.cons (.for1 (.nm 8) (.rng (.cst (.int 3))) bodyK) (.cons (.asg 9 (.said 0 (.call 9 (.cons (.idx (.pk 7) (.cst (.int 0))) (.cons (.idx (.pk 7) (.cst (.int 1))) (.cons (.idx (.pk 7) (.cst (.int 2))) .nil)))))) (.cons (.ifs (.val (.cmp .ne (.blt .repr (.var 9)) (.blt .repr (.call 32 (.cons (.idx (.pk 7) (.cst (.int 0))) (.cons (.idx (.pk 7) (.cst (.int 1))) (.cons (.idx (.pk 7) (.cst (.int 2))) .nil))))))) (.cons (.ret (.cst (.bl false))) .nil) .nil) (.cons (.frz 7) .nil)))))
def bodyP : CSs := (.cons (.unp (.tp [5, 6]) (.tup (.cons (.call 12 (.cons (.var 1) (.cons (.lst (.cons (.call 15 (.cons (.var 1) (.cons (.cst (.int 6)) .nil))) (.cons (.call 15 (.cons (.var 1) (.cons (.cst (.int 2)) .nil))) (.cons (.tup .nil) (.cons (.var 2) .nil))))) .nil))) (.cons (.call 28 (.cons (.var 1) .nil)) .nil)))) (.cons (.ifs (.bool false (.cons (.not (.val (.call 30 (.cons (.var 5) (.cons (.var 6) .nil))))) (.cons (.not (.val (.call 30 (.cons (.call 15 (.cons (.var 1) (.cons (.cst (.int 4)) .nil))) (.cons (.call 28 (.cons (.var 1) .nil)) .nil))))) .nil))) (.cons (.ret (.cst (.bl false))) .nil) .nil) (.cons (.for1 (.nm 4) (.rng (.cst (.int 8))) bodyT) .nil)))
def sL2 : CS := (.asg 2 (.blt .tuple (.comp (.tup (.cons (.var 10) (.cons (.tup .nil) .nil))) (.nm 10) (.ex (.lst (.cons (.cst (.str "gone")) (.cons (.cst (.str "left")) (.cons (.cst (.str "made")) (.cons (.cst (.str "read")) (.cons (.cst (.str "right")) (.cons (.cst (.str "turned")) .nil)))))))) .nil)))
def sL4 : CS := (.ret (.isB true (.callK 9 ["needs", "moments", "rule"] [2, 1, 0] (.cons (.tup (.cons (.cst (.str "maker")) .nil)) (.cons (.tup (.cons (.cst (.str "gone")) .nil)) (.cons (.tup (.cons (.tup (.cons (.cst (.str "gone")) (.cons (.tup (.cons (.cst (.str "name")) .nil)) .nil))) .nil)) .nil))))))
theorem bL_eq : b_33 = .cons (.asg 1 (.call 10 (.cons (.var 0) .nil))) (.cons sL2 (.cons (.for1 (.nm 3) (.rng (.cst (.int 2))) bodyP) (.cons sL4 .nil))) := rfl
section
variable {a0 a2 a3 a4 a5 a6 a7 a8 a9 a10 a11 : SV}
theorem rng_cst {m k : Nat} {ρ : Mi.Env} {S : Sto} (hk : k < 1000) : evI (Tb m) (.rng (.cst (.int k))) ρ S = some (.ok ((List.range k).map fun (k : Nat) => D.int k) S) := evI_rng_ok (n := k) (S' := S) (by simp [evE_cst, evE_var, evE_pk, evE_fn, evE_gc, evE_tup, evE_lst, evE_bin, evE_cat, evE_neg, evE_cmp, evE_cmp2, evE_isN, evE_isB, evE_bool, evE_not, evE_ite, evE_idx, evE_slc, evE_rev, evE_call, evE_callK, evE_blt, evE_sset, evE_said, evE_isa, evE_cnt, evE_isaC, evE_fld, evE_dget, evE_dct, evBs_nil, evBs_cons, evT_val, evT_bool, evT_not, evB_nil, evB_cons, evTs_nil, evTs_cons, evEs_nil, evEs_cons, evO_no, evO_so, evI_ex, evI_enum, evS_asg, evS_asgO, evS_unp, evS_expr, evS_ifs, evS_ret, evS_retN, evS_retO, evS_whl, evS_app, evS_ext, evS_seti, evS_dput, evS_raise, evS_frz, evS_pass, evS_brk, evS_cont, evSs_nil, evSs_cons, evE_comp, evS_for]) (by omega)
theorem rng_3 (ρ : Mi.Env) (S : Sto) : evI (Tb 40) (.rng (.cst (.int 3))) ρ S = some (.ok ((List.range 3).map fun (k : Nat) => D.int k) S) := rng_cst (k := 3) (by omega)
theorem rng_8 (ρ : Mi.Env) (S : Sto) : evI (Tb 40) (.rng (.cst (.int 8))) ρ S = some (.ok ((List.range 8).map fun (k : Nat) => D.int k) S) := rng_cst (k := 8) (by omega)
theorem rng_2 (ρ : Mi.Env) (S : Sto) : evI (Tb 40) (.rng (.cst (.int 2))) ρ S = some (.ok ((List.range 2).map fun (k : Nat) => D.int k) S) := rng_cst (k := 2) (by omega)
theorem loopK {ms : List Str} (hms : ms.Sublist momL) {xs : List D} (hl : xs.length = 3) (hx : ∀ x ∈ xs, Gk 0 250 3 12 x) {S : Sto} (hS : FS S) :
    ∃ x y z b8 b11 S', Mi.forM (forF (Tb 40) (.nm 8) bodyK) ((List.range 3).map fun (k : Nat) => D.int k) [a0, .val (.loc 1), a2, a3, a4, a5, .val (.tup (wrd ms)), .own xs, a8, a9, a10, a11] S = some (.nx [a0, .val (.loc 1), a2, a3, a4, a5, .val (.tup (wrd ms)), .own [x, y, z], b8, a9, a10, b11] S') ∧ FS S' ∧
      (gd 3 x = true ∧ wt x ≤ 200000 ∧ tl x < 64) ∧ (gd 3 y = true ∧ wt y ≤ 200000 ∧ tl y < 64) ∧ (gd 3 z = true ∧ wt z ≤ 200000) := by
  obtain ⟨x1, c1, S1, e1, h1, l1, g1⟩ := turnK (m := 40) (a0 := a0) (a2 := a2) (a3 := a3) (a4 := a4) (a5 := a5) (a8 := a8) (a9 := a9) (a10 := a10) (a11 := a11) (c := 0) (W := 250) (P := 3) (T := 12) (by omega) (by omega) (by omega) (by omega) (by omega) hms hl hx (j := 0) (by omega) hS
  obtain ⟨x2, c2, S2, e2, h2, l2, g2⟩ := turnK (m := 40) (a0 := a0) (a2 := a2) (a3 := a3) (a4 := a4) (a5 := a5) (a8 := .val (.int (0 : Nat))) (a9 := a9) (a10 := a10) (a11 := c1) (c := 1) (W := 966) (P := 6) (T := 13) (by omega) (by omega) (by omega) (by omega) (by omega) hms l1 g1 (j := 1) (by omega) h1
  obtain ⟨x3, c3, S3, e3, h3, l3, g3⟩ := turnK (m := 40) (a0 := a0) (a2 := a2) (a3 := a3) (a4 := a4) (a5 := a5) (a8 := .val (.int (1 : Nat))) (a9 := a9) (a10 := a10) (a11 := c2) (c := 2) (W := 3114) (P := 9) (T := 14) (by omega) (by omega) (by omega) (by omega) (by omega) hms l2 g2 (j := 2) (by omega) h2
  obtain ⟨x, y, z, rfl⟩ : ∃ x y z, x3 = [x, y, z] := by
    match x3, l3 with
    | [x, y, z], _ => exact ⟨x, y, z, rfl⟩
  have big : ∀ w ∈ [x, y, z], gd 3 w = true ∧ wt w ≤ 200000 ∧ tl w < 64 := fun w hw => by
    have := g3 w hw
    exact ⟨this.1, by have := this.2.1; omega, by have := this.2.2.2; omega⟩
  refine ⟨x, y, z, .val (.int (2 : Nat)), c3, S3, ?_, h3, big x (by simp), big y (by simp), ⟨(big z (by simp)).1, (big z (by simp)).2.1⟩⟩
  have er : ((List.range 3).map fun (k : Nat) => D.int k) = [.int (0 : Nat), .int (1 : Nat), .int (2 : Nat)] := rfl
  rw [er]
  unfold Mi.forM
  rw [e1]
  show Mi.forM _ _ _ _ = _
  unfold Mi.forM
  rw [e2]
  show Mi.forM _ _ _ _ = _
  unfold Mi.forM
  rw [e3]
  rfl
theorem turnT {ds : List D} (hds : Pk ds) {ms : List Str} (hms : ms.Sublist momL) {t : D} {S : Sto} (hS : FS S) :
    ∃ b7 b8 b9 b11 S', forF (Tb 40) (.nm 4) bodyT t [a0, .val (.loc 1), a2, a3, a4, .val (.tup ds), .val (.tup (wrd ms)), a7, a8, a9, a10, a11] S = some (.nx [a0, .val (.loc 1), a2, a3, .val t, .val (.tup ds), .val (.tup (wrd ms)), b7, b8, b9, a10, b11] S') ∧ FS S' := by
  obtain ⟨ps, S1, e1, h1, hp⟩ := parts_draw (m := 40) (by omega) hS
  obtain ⟨us, S2, e2, h2, hu⟩ := needs_draw (m := 40) (by omega) h1
  have gl : ∀ x ∈ [D.tup ds, .tup (wrd ps), .tup (us.map D.str)], Gk 0 250 3 12 x := fun x hx => by
    simp only [List.mem_cons, List.not_mem_nil, or_false] at hx
    rcases hx with q | q | q
    · rw [q]; exact (pk_good hds).mono (by omega) (by omega) (by omega) (by omega)
    · rw [q]; exact moms_good (fun x hx => hp.subset hx) (by have : ps.length ≤ 6 := hp.length_le; omega)
    · rw [q]; exact (needs_good hu).mono (by omega) (by omega) (by omega) (by omega)
  obtain ⟨x, y, z, b8, b11, S3, e3, h3, gx, gy, gz⟩ := loopK (a0 := a0) (a2 := a2) (a3 := a3) (a4 := .val t) (a5 := .val (.tup ds)) (a8 := a8) (a9 := a9) (a10 := a10) (a11 := a11) hms (xs := [D.tup ds, .tup (wrd ps), .tup (us.map D.str)]) rfl gl h2
  obtain ⟨d, e4, e5, gd0, wd, dd⟩ := said_due (n := 37) (c := 3) (by omega) (by omega) gx gy gz h3 (ρ := [a0, .val (.loc 1), a2, a3, .val t, .val (.tup ds), .val (.tup (wrd ms)), .own [x, y, z], b8, a9, a10, b11]) (e := (.cons (.idx (.pk 7) (.cst (.int 0))) (.cons (.idx (.pk 7) (.cst (.int 1))) (.cons (.idx (.pk 7) (.cst (.int 2))) .nil)))) (by
    simp [evE_cst, evE_var, evE_pk, evE_fn, evE_gc, evE_tup, evE_lst, evE_bin, evE_cat, evE_neg, evE_cmp, evE_cmp2, evE_isN, evE_isB, evE_bool, evE_not, evE_ite, evE_idx, evE_slc, evE_rev, evE_call, evE_callK, evE_blt, evE_sset, evE_said, evE_isa, evE_cnt, evE_isaC, evE_fld, evE_dget, evE_dct, evBs_nil, evBs_cons, evT_val, evT_bool, evT_not, evB_nil, evB_cons, evTs_nil, evTs_cons, evEs_nil, evEs_cons, evO_no, evO_so, evI_ex, evI_enum, evS_asg, evS_asgO, evS_unp, evS_expr, evS_ifs, evS_ret, evS_retN, evS_retO, evS_whl, evS_app, evS_ext, evS_seti, evS_dput, evS_raise, evS_frz, evS_pass, evS_brk, evS_cont, evSs_nil, evSs_cons, evE_comp, evS_for, atD, L2.atI, L2.ixN])
  obtain ⟨s, hs⟩ := repr_ok (c := 0) (by decide) gd0 (by omega) (by omega)
  refine ⟨.val (.lst [x, y, z]), b8, .val d, b11, S3, ?_, h3⟩
  have bt : bindT (.nm 4) t [a0, .val (.loc 1), a2, a3, a4, .val (.tup ds), .val (.tup (wrd ms)), a7, a8, a9, a10, a11] = some [a0, .val (.loc 1), a2, a3, .val t, .val (.tup ds), .val (.tup (wrd ms)), a7, a8, a9, a10, a11] := rfl
  have q1 : evS (Tb 40) (.asgO 7 (.lst (.cons (.var 5) (.cons (.call 28 (.cons (.var 1) .nil)) (.cons (.call 13 (.cons (.var 1) .nil)) .nil))))) [a0, .val (.loc 1), a2, a3, .val t, .val (.tup ds), .val (.tup (wrd ms)), a7, a8, a9, a10, a11] S = some (.nx [a0, .val (.loc 1), a2, a3, .val t, .val (.tup ds), .val (.tup (wrd ms)), .own [D.tup ds, .tup (wrd ps), .tup (us.map D.str)], a8, a9, a10, a11] S2) := by
    simp [evE_cst, evE_var, evE_pk, evE_fn, evE_gc, evE_tup, evE_lst, evE_bin, evE_cat, evE_neg, evE_cmp, evE_cmp2, evE_isN, evE_isB, evE_bool, evE_not, evE_ite, evE_idx, evE_slc, evE_rev, evE_call, evE_callK, evE_blt, evE_sset, evE_said, evE_isa, evE_cnt, evE_isaC, evE_fld, evE_dget, evE_dct, evBs_nil, evBs_cons, evT_val, evT_bool, evT_not, evB_nil, evB_cons, evTs_nil, evTs_cons, evEs_nil, evEs_cons, evO_no, evO_so, evI_ex, evI_enum, evS_asg, evS_asgO, evS_unp, evS_expr, evS_ifs, evS_ret, evS_retN, evS_retO, evS_whl, evS_app, evS_ext, evS_seti, evS_dput, evS_raise, evS_frz, evS_pass, evS_brk, evS_cont, evSs_nil, evSs_cons, evE_comp, evS_for, e1, e2, mkL_ok]
  have q3 : evS (Tb 40) (.asg 9 (.said 0 (.call 9 (.cons (.idx (.pk 7) (.cst (.int 0))) (.cons (.idx (.pk 7) (.cst (.int 1))) (.cons (.idx (.pk 7) (.cst (.int 2))) .nil)))))) [a0, .val (.loc 1), a2, a3, .val t, .val (.tup ds), .val (.tup (wrd ms)), .own [x, y, z], b8, a9, a10, b11] S3 = some (.nx [a0, .val (.loc 1), a2, a3, .val t, .val (.tup ds), .val (.tup (wrd ms)), .own [x, y, z], b8, .val d, a10, b11] S3) := by
    rw [evS_asg, e4, vb_ok1]; rfl
  have q4 : evS (Tb 40) (.ifs (.val (.cmp .ne (.blt .repr (.var 9)) (.blt .repr (.call 32 (.cons (.idx (.pk 7) (.cst (.int 0))) (.cons (.idx (.pk 7) (.cst (.int 1))) (.cons (.idx (.pk 7) (.cst (.int 2))) .nil))))))) (.cons (.ret (.cst (.bl false))) .nil) .nil) [a0, .val (.loc 1), a2, a3, .val t, .val (.tup ds), .val (.tup (wrd ms)), .own [x, y, z], b8, .val d, a10, b11] S3 = some (.nx [a0, .val (.loc 1), a2, a3, .val t, .val (.tup ds), .val (.tup (wrd ms)), .own [x, y, z], b8, .val d, a10, b11] S3) := by
    simp [evE_cst, evE_var, evE_pk, evE_fn, evE_gc, evE_tup, evE_lst, evE_bin, evE_cat, evE_neg, evE_cmp, evE_cmp2, evE_isN, evE_isB, evE_bool, evE_not, evE_ite, evE_idx, evE_slc, evE_rev, evE_call, evE_callK, evE_blt, evE_sset, evE_said, evE_isa, evE_cnt, evE_isaC, evE_fld, evE_dget, evE_dct, evBs_nil, evBs_cons, evT_val, evT_bool, evT_not, evB_nil, evB_cons, evTs_nil, evTs_cons, evEs_nil, evEs_cons, evO_no, evO_so, evI_ex, evI_enum, evS_asg, evS_asgO, evS_unp, evS_expr, evS_ifs, evS_ret, evS_retN, evS_retO, evS_whl, evS_app, evS_ext, evS_seti, evS_dput, evS_raise, evS_frz, evS_pass, evS_brk, evS_cont, evSs_nil, evSs_cons, evE_comp, evS_for, e5, hs, atD, L2.atI, L2.ixN]
  have q5 : evS (Tb 40) (.frz 7) [a0, .val (.loc 1), a2, a3, .val t, .val (.tup ds), .val (.tup (wrd ms)), .own [x, y, z], b8, .val d, a10, b11] S3 = some (.nx [a0, .val (.loc 1), a2, a3, .val t, .val (.tup ds), .val (.tup (wrd ms)), .val (.lst [x, y, z]), b8, .val d, a10, b11] S3) := by
    simp [evE_cst, evE_var, evE_pk, evE_fn, evE_gc, evE_tup, evE_lst, evE_bin, evE_cat, evE_neg, evE_cmp, evE_cmp2, evE_isN, evE_isB, evE_bool, evE_not, evE_ite, evE_idx, evE_slc, evE_rev, evE_call, evE_callK, evE_blt, evE_sset, evE_said, evE_isa, evE_cnt, evE_isaC, evE_fld, evE_dget, evE_dct, evBs_nil, evBs_cons, evT_val, evT_bool, evT_not, evB_nil, evB_cons, evTs_nil, evTs_cons, evEs_nil, evEs_cons, evO_no, evO_so, evI_ex, evI_enum, evS_asg, evS_asgO, evS_unp, evS_expr, evS_ifs, evS_ret, evS_retN, evS_retO, evS_whl, evS_app, evS_ext, evS_seti, evS_dput, evS_raise, evS_frz, evS_pass, evS_brk, evS_cont, evSs_nil, evSs_cons, evE_comp, evS_for, ownAt]
  unfold forF
  rw [bt]
  show evSs (Tb 40) bodyT _ _ = _
  unfold bodyT
  rw [evSs_cons, q1, fb_nx1, evSs_cons, for_eq (rng_3 _ _), e3, fb_nx1, evSs_cons, q3, fb_nx1, evSs_cons, q4, fb_nx1, evSs_cons, q5, fb_nx1, evSs_nil]
theorem turnP {x : D} {S : Sto} (hS : FS S) :
    ∃ b4 b5 b6 b7 b8 b9 b11 S', forF (Tb 40) (.nm 3) bodyP x [a0, .val (.loc 1), .val (.tup everyL), a3, a4, a5, a6, a7, a8, a9, a10, a11] S = some (.nx [a0, .val (.loc 1), .val (.tup everyL), .val x, b4, b5, b6, b7, b8, b9, a10, b11] S') ∧ FS S' := by
  obtain ⟨p1, S1, e1, h1, k1⟩ := plan_pk (m := 40) (by omega) hS (c := 6) (by omega) (by omega)
  obtain ⟨p2, S2, e2, h2, k2⟩ := plan_pk (m := 40) (by omega) h1 (c := 2) (by omega) (by omega)
  obtain ⟨d, S3, e3, h3, hd⟩ := pick_at (m := 40) (by omega) h2 (xs := [.tup p1, .tup p2, .tup [], .tup everyL]) (by simp) (by simp)
  obtain ⟨ds, rfl, kd⟩ : ∃ ds, d = .tup ds ∧ Pk ds := by
    simp only [List.mem_cons, List.not_mem_nil, or_false] at hd
    rcases hd with q | q | q | q
    · exact ⟨_, q, k1⟩
    · exact ⟨_, q, k2⟩
    · exact ⟨_, q, nil_ok⟩
    · exact ⟨_, q, every_ok⟩
  obtain ⟨ms, S4, e4, h4, hms⟩ := parts_draw (m := 40) (by omega) h3
  obtain ⟨p5, S5, e5, h5, k5⟩ := plan_pk (m := 40) (by omega) h4 (c := 4) (by omega) (by omega)
  obtain ⟨ms6, S6, e6, h6, hms6⟩ := parts_draw (m := 40) (by omega) h5
  have gm : ∀ {qs : List Str}, qs.Sublist momL → gd 0 (.tup (wrd qs)) = true ∧ wt (.tup (wrd qs)) ≤ 200000 := fun {qs} hq => by
    have := moms_good (ms := qs) (fun x hx => hq.subset hx) (by have : qs.length ≤ 6 := hq.length_le; omega)
    exact ⟨this.1, by have := this.2.1; omega⟩
  have gp : ∀ {qs : List D}, Pk qs → gd 0 (.tup qs) = true ∧ wt (.tup qs) ≤ 200000 := fun {qs} hq => by
    have := pk_good hq
    exact ⟨this.1, by have := this.2.1; omega⟩
  have r1 := right_at (m := 40) (c := 0) (by omega) (by omega) (ds := ds) (ms := ms) kd.pr kd.rl (gp kd) (sub_moms hms) (gm hms) (S := S4)
  have r2 := right_at (m := 40) (c := 0) (by omega) (by omega) (ds := p5) (ms := ms6) k5.pr k5.rl (gp k5) (sub_moms hms6) (gm hms6) (S := S6)
  have bt : bindT (.nm 3) x [a0, .val (.loc 1), .val (.tup everyL), a3, a4, a5, a6, a7, a8, a9, a10, a11] = some [a0, .val (.loc 1), .val (.tup everyL), .val x, a4, a5, a6, a7, a8, a9, a10, a11] := rfl
  have q1 : evS (Tb 40) (.unp (.tp [5, 6]) (.tup (.cons (.call 12 (.cons (.var 1) (.cons (.lst (.cons (.call 15 (.cons (.var 1) (.cons (.cst (.int 6)) .nil))) (.cons (.call 15 (.cons (.var 1) (.cons (.cst (.int 2)) .nil))) (.cons (.tup .nil) (.cons (.var 2) .nil))))) .nil))) (.cons (.call 28 (.cons (.var 1) .nil)) .nil)))) [a0, .val (.loc 1), .val (.tup everyL), .val x, a4, a5, a6, a7, a8, a9, a10, a11] S = some (.nx [a0, .val (.loc 1), .val (.tup everyL), .val x, a4, .val (.tup ds), .val (.tup (wrd ms)), a7, a8, a9, a10, a11] S4) := by
    generalize everyL = W at e3
    simp [evE_cst, evE_var, evE_pk, evE_fn, evE_gc, evE_tup, evE_lst, evE_bin, evE_cat, evE_neg, evE_cmp, evE_cmp2, evE_isN, evE_isB, evE_bool, evE_not, evE_ite, evE_idx, evE_slc, evE_rev, evE_call, evE_callK, evE_blt, evE_sset, evE_said, evE_isa, evE_cnt, evE_isaC, evE_fld, evE_dget, evE_dct, evBs_nil, evBs_cons, evT_val, evT_bool, evT_not, evB_nil, evB_cons, evTs_nil, evTs_cons, evEs_nil, evEs_cons, evO_no, evO_so, evI_ex, evI_enum, evS_asg, evS_asgO, evS_unp, evS_expr, evS_ifs, evS_ret, evS_retN, evS_retO, evS_whl, evS_app, evS_ext, evS_seti, evS_dput, evS_raise, evS_frz, evS_pass, evS_brk, evS_cont, evSs_nil, evSs_cons, evE_comp, evS_for, e1, e2, e3, e4, mkL_ok, mkT_ok]
  have q2 : evS (Tb 40) (.ifs (.bool false (.cons (.not (.val (.call 30 (.cons (.var 5) (.cons (.var 6) .nil))))) (.cons (.not (.val (.call 30 (.cons (.call 15 (.cons (.var 1) (.cons (.cst (.int 4)) .nil))) (.cons (.call 28 (.cons (.var 1) .nil)) .nil))))) .nil))) (.cons (.ret (.cst (.bl false))) .nil) .nil) [a0, .val (.loc 1), .val (.tup everyL), .val x, a4, .val (.tup ds), .val (.tup (wrd ms)), a7, a8, a9, a10, a11] S4 = some (.nx [a0, .val (.loc 1), .val (.tup everyL), .val x, a4, .val (.tup ds), .val (.tup (wrd ms)), a7, a8, a9, a10, a11] S6) := by
    simp [evE_cst, evE_var, evE_pk, evE_fn, evE_gc, evE_tup, evE_lst, evE_bin, evE_cat, evE_neg, evE_cmp, evE_cmp2, evE_isN, evE_isB, evE_bool, evE_not, evE_ite, evE_idx, evE_slc, evE_rev, evE_call, evE_callK, evE_blt, evE_sset, evE_said, evE_isa, evE_cnt, evE_isaC, evE_fld, evE_dget, evE_dct, evBs_nil, evBs_cons, evT_val, evT_bool, evT_not, evB_nil, evB_cons, evTs_nil, evTs_cons, evEs_nil, evEs_cons, evO_no, evO_so, evI_ex, evI_enum, evS_asg, evS_asgO, evS_unp, evS_expr, evS_ifs, evS_ret, evS_retN, evS_retO, evS_whl, evS_app, evS_ext, evS_seti, evS_dput, evS_raise, evS_frz, evS_pass, evS_brk, evS_cont, evSs_nil, evSs_cons, evE_comp, evS_for, r1, r2, e5, e6, D.truth]
  obtain ⟨ρ', S', e7, b4, b7, b8, b9, b11, rfl, h7⟩ := forM_inv (xs0 := (List.range 8).map fun (k : Nat) => D.int k) (body := forF (Tb 40) (.nm 4) bodyT) (fun ρ S' => ∃ b4 b7 b8 b9 b11, ρ = [a0, .val (.loc 1), .val (.tup everyL), .val x, b4, .val (.tup ds), .val (.tup (wrd ms)), b7, b8, b9, a10, b11] ∧ FS S') (fun t ht ρ S' ⟨b4, b7, b8, b9, b11, hρ, hS'⟩ => by
    subst hρ
    obtain ⟨c7, c8, c9, c11, S'', e, h⟩ := turnT (a0 := a0) (a2 := .val (.tup everyL)) (a3 := .val x) (a4 := b4) (a7 := b7) (a8 := b8) (a9 := b9) (a10 := a10) (a11 := b11) kd hms (t := t) hS'
    exact ⟨_, _, e, _, _, _, _, _, rfl, h⟩) ((List.range 8).map fun (k : Nat) => D.int k) [a0, .val (.loc 1), .val (.tup everyL), .val x, a4, .val (.tup ds), .val (.tup (wrd ms)), a7, a8, a9, a10, a11] S6 (fun _ h => h) ⟨_, _, _, _, _, rfl, h6⟩
  refine ⟨b4, .val (.tup ds), .val (.tup (wrd ms)), b7, b8, b9, b11, S', ?_, h7⟩
  unfold forF
  rw [bt]
  show evSs (Tb 40) bodyP _ _ = _
  unfold bodyP
  rw [evSs_cons, q1, fb_nx1, evSs_cons, q2, fb_nx1, evSs_cons, for_eq (rng_8 _ _), e7, fb_nx1, evSs_nil]
end
theorem last_at {S : Sto} : (Tb 40).f 9 [.tup [.tup [.str "gone", .tup [.str "name"]]], .tup [.str "gone"], .tup [.str "maker"]] S = some (.ok (.bl true) S) := by
  rw [tab_f (n := 39) (p := (3, b_9)) rfl]
  rcases @freed_run 39 0 (by omega) (by omega) (.tup [.tup [.str "gone", .tup [.str "name"]]]) (.tup [.str "gone"]) (.tup [.str "maker"]) (by decide +kernel) (by decide +kernel) (by decide +kernel) S with ⟨w, hw, _⟩ | ⟨ds, ms, ns, _, ⟨hxe, _⟩, hye, hze, e1⟩
  · have h1 : ruleB (.tup [.tup [.str "gone", .tup [.str "name"]]]) = true := by decide +kernel
    have h2 : momsB (.tup [.str "gone"]) = true := by decide +kernel
    have h3 : needsB (.tup [.str "maker"]) = true := by decide +kernel
    rw [h1, h2, h3] at hw
    rcases hw with ⟨q, _⟩ | ⟨_, q, _⟩ | ⟨_, _, q, _⟩ <;> cases q
  · cases hxe
    have em : ms = ([("gone" : Str)] : List Str) := by
      have q := strsOf_wrd ms
      injection hye with hye
      rw [← hye] at q
      exact (Option.some.inj q).symm
    have en : ns = ([("maker" : Str)] : List Str) := by
      have q := strsOf_wrd ns
      injection hze with hze
      rw [← hze] at q
      exact (Option.some.inj q).symm
    subst em
    subst en
    have z : ([.tup [.str "gone", .tup [.str "name"]]] : List D).any (frees1 ([("gone" : Str)] : List Str) ([("maker" : Str)] : List Str)) = true := by decide +kernel
    rw [e1, z]
theorem sL2_t {m : Nat} {S : Sto} {a0 a1 a2 a3 a4 a5 a6 a7 a8 a9 a10 a11 : SV} : evS (Tb m) sL2 [a0, a1, a2, a3, a4, a5, a6, a7, a8, a9, a10, a11] S = some (.nx [a0, a1, .val (.tup everyL), a3, a4, a5, a6, a7, a8, a9, a10, a11] S) := by
  have ec : compM (compF (Tb m) (.tup (.cons (.var 10) (.cons (.tup .nil) .nil))) (.nm 10) .nil [a0, a1, a2, a3, a4, a5, a6, a7, a8, a9, a10, a11]) (momL.map D.str) [] S = _ :=
    compM_map (fun d => .tup [d, .tup []]) (momL.map D.str) (fun d hd => by
      unfold compF
      simp [evE_cst, evE_var, evE_pk, evE_fn, evE_gc, evE_tup, evE_lst, evE_bin, evE_cat, evE_neg, evE_cmp, evE_cmp2, evE_isN, evE_isB, evE_bool, evE_not, evE_ite, evE_idx, evE_slc, evE_rev, evE_call, evE_callK, evE_blt, evE_sset, evE_said, evE_isa, evE_cnt, evE_isaC, evE_fld, evE_dget, evE_dct, evBs_nil, evBs_cons, evT_val, evT_bool, evT_not, evB_nil, evB_cons, evTs_nil, evTs_cons, evEs_nil, evEs_cons, evO_no, evO_so, evI_ex, evI_enum, evS_asg, evS_asgO, evS_unp, evS_expr, evS_ifs, evS_ret, evS_retN, evS_retO, evS_whl, evS_app, evS_ext, evS_seti, evS_dput, evS_raise, evS_frz, evS_pass, evS_brk, evS_cont, evSs_nil, evSs_cons, evE_comp, evS_for, mkT_ok]) (by decide)
  have em : (momL.map D.str).map (fun d => D.tup [d, .tup []]) = everyL := by rw [List.map_map]; rfl
  rw [em] at ec
  have et : mkT everyL = some (.tup everyL) := mkT_ok (by decide +kernel)
  unfold sL2
  unfold momL at ec
  simp only [List.map] at ec
  generalize everyL = W at ec et
  simp [evE_cst, evE_var, evE_pk, evE_fn, evE_gc, evE_tup, evE_lst, evE_bin, evE_cat, evE_neg, evE_cmp, evE_cmp2, evE_isN, evE_isB, evE_bool, evE_not, evE_ite, evE_idx, evE_slc, evE_rev, evE_call, evE_callK, evE_blt, evE_sset, evE_said, evE_isa, evE_cnt, evE_isaC, evE_fld, evE_dget, evE_dct, evBs_nil, evBs_cons, evT_val, evT_bool, evT_not, evB_nil, evB_cons, evTs_nil, evTs_cons, evEs_nil, evEs_cons, evO_no, evO_so, evI_ex, evI_enum, evS_asg, evS_asgO, evS_unp, evS_expr, evS_ifs, evS_ret, evS_retN, evS_retO, evS_whl, evS_app, evS_ext, evS_seti, evS_dput, evS_raise, evS_frz, evS_pass, evS_brk, evS_cont, evSs_nil, evSs_cons, evE_comp, evS_for, mkL_ok, ec, et]
theorem hm (ns : List Int) (hl : ns.length ≤ 63) : ∃ S', runF (Tb 40) N_33.length b_33 [.lst (ns.map .int)] [.tab 0] = some (.ok (.bl true) S') := by
  have e0 := feed_at (m := 40) (by omega) hl
  have q1 : evS (Tb 40) (.asg 1 (.call 10 (.cons (.var 0) .nil))) [.val (.lst (ns.map .int)), .non, .non, .non, .non, .non, .non, .non, .non, .non, .non, .non] [.tab 0] = some (.nx [.val (.lst (ns.map .int)), .val (.loc 1), .non, .non, .non, .non, .non, .non, .non, .non, .non, .non] (feedS ns 0 0 0)) := by
    generalize ns.map D.int = X at e0
    simp [evE_cst, evE_var, evE_pk, evE_fn, evE_gc, evE_tup, evE_lst, evE_bin, evE_cat, evE_neg, evE_cmp, evE_cmp2, evE_isN, evE_isB, evE_bool, evE_not, evE_ite, evE_idx, evE_slc, evE_rev, evE_call, evE_callK, evE_blt, evE_sset, evE_said, evE_isa, evE_cnt, evE_isaC, evE_fld, evE_dget, evE_dct, evBs_nil, evBs_cons, evT_val, evT_bool, evT_not, evB_nil, evB_cons, evTs_nil, evTs_cons, evEs_nil, evEs_cons, evO_no, evO_so, evI_ex, evI_enum, evS_asg, evS_asgO, evS_unp, evS_expr, evS_ifs, evS_ret, evS_retN, evS_retO, evS_whl, evS_app, evS_ext, evS_seti, evS_dput, evS_raise, evS_frz, evS_pass, evS_brk, evS_cont, evSs_nil, evSs_cons, evE_comp, evS_for, e0]
  obtain ⟨ρ', S', e7, b3, b4, b5, b6, b7, b8, b9, b11, rfl, h7⟩ := forM_inv (xs0 := (List.range 2).map fun (k : Nat) => D.int k) (body := forF (Tb 40) (.nm 3) bodyP) (fun ρ S' => ∃ b3 b4 b5 b6 b7 b8 b9 b11, ρ = [.val (.lst (ns.map .int)), .val (.loc 1), .val (.tup everyL), b3, b4, b5, b6, b7, b8, b9, .non, b11] ∧ FS S') (fun t ht ρ S' ⟨b3, b4, b5, b6, b7, b8, b9, b11, hρ, hS'⟩ => by
    subst hρ
    obtain ⟨c4, c5, c6, c7, c8, c9, c11, S'', e, h⟩ := turnP (a0 := .val (.lst (ns.map .int))) (a3 := b3) (a4 := b4) (a5 := b5) (a6 := b6) (a7 := b7) (a8 := b8) (a9 := b9) (a10 := .non) (a11 := b11) (x := t) hS'
    exact ⟨_, _, e, _, _, _, _, _, _, _, _, rfl, h⟩) ((List.range 2).map fun (k : Nat) => D.int k) [.val (.lst (ns.map .int)), .val (.loc 1), .val (.tup everyL), .non, .non, .non, .non, .non, .non, .non, .non, .non] (feedS ns 0 0 0) (fun _ h => h) ⟨_, _, _, _, _, _, _, _, rfl, feed_FS⟩
  refine ⟨S', ?_⟩
  have el := last_at (S := S')
  have q4 : ∀ ρ : Mi.Env, evS (Tb 40) sL4 ρ S' = some (.rt (.bl true) S') := fun ρ => by
    unfold sL4
    simp [evE_cst, evE_var, evE_pk, evE_fn, evE_gc, evE_tup, evE_lst, evE_bin, evE_cat, evE_neg, evE_cmp, evE_cmp2, evE_isN, evE_isB, evE_bool, evE_not, evE_ite, evE_idx, evE_slc, evE_rev, evE_call, evE_callK, evE_blt, evE_sset, evE_said, evE_isa, evE_cnt, evE_isaC, evE_fld, evE_dget, evE_dct, evBs_nil, evBs_cons, evT_val, evT_bool, evT_not, evB_nil, evB_cons, evTs_nil, evTs_cons, evEs_nil, evEs_cons, evO_no, evO_so, evI_ex, evI_enum, evS_asg, evS_asgO, evS_unp, evS_expr, evS_ifs, evS_ret, evS_retN, evS_retO, evS_whl, evS_app, evS_ext, evS_seti, evS_dput, evS_raise, evS_frz, evS_pass, evS_brk, evS_cont, evSs_nil, evSs_cons, evE_comp, evS_for, mkT_ok, permO, el, blD]
  rw [runF_eq]
  show endF (evSs (Tb 40) b_33 [.val (.lst (ns.map .int)), .non, .non, .non, .non, .non, .non, .non, .non, .non, .non, .non] [.tab 0]) = _
  rw [bL_eq, evSs_cons, q1, fb_nx1, evSs_cons, sL2_t, fb_nx1, evSs_cons, for_eq (rng_2 _ _), e7, fb_nx1, evSs_cons, q4, fb_rt1]
  rfl
end T07
end

section
set_option linter.all false
set_option maxRecDepth 100000
set_option Elab.async false
set_option maxHeartbeats 8000000
/-! the claim over what is known -/
namespace T07
open PySem L2 Mi
section
variable {K : PySem.W.Frag} {h : Heap} {mg : Str → Option Value} {f0 f1 f2 f3 f4 f5 f6 f7 f8 f9 f10 f11 f12 f13 f14 f15 f16 f18 f19 f20 f21 f22 f23 f24 f25 f26 f27 f28 f29 f30 f31 f32 f33 A0 A1 A2 A3 A4 A5 A6 A7 c P : Addr} {ec : Value} {dc : Option Addr} {vs : Array Value} {sl : Array (Option Value)}
theorem law_mk {l : PySem.W.OpenLaw} {w : World} {fa : Addr} (X : K.In h) (G : h.Ns mainGlobals mg) (hfa : mg "law" = some (.ref fa)) (tab : LawTab K fa h)
    (d0 : DefAt K "demand" (topS 10) f0)
    (d1 : DefAt K "is_ascending" (topS 14) f1)
    (d2 : DefAt K "is_need" (topS 15) f2)
    (d3 : DefAt K "is_moment" (topS 16) f3)
    (d4 : DefAt K "is_needs" (topS 17) f4)
    (d5 : DefAt K "is_moments" (topS 18) f5)
    (d6 : DefAt K "is_clause" (topS 19) f6)
    (d7 : DefAt K "is_rule" (topS 20) f7)
    (d8 : DefAt K "fires" (topS 22) f8)
    (d9 : DefAt K "is_freed" (topS 23) f9)
    (d10 : DefAt K "_law_feed" (topS 25) f10)
    (d11 : DefAt K "_law_draw" (topS 26) f11)
    (d12 : DefAt K "_law_pick" (topS 27) f12)
    (d13 : DefAt K "_law_needs" (topS 28) f13)
    (d14 : DefAt K "_law_pair" (topS 29) f14)
    (d15 : DefAt K "_law_plan" (topS 30) f15)
    (d16 : DefAt K "_law_is_number" (topS 31) f16)
    (d18 : DefAt K "_law_is_needs" (topS 33) f18)
    (d19 : DefAt K "_law_is_moment" (topS 34) f19)
    (d20 : DefAt K "_law_is_pair" (topS 35) f20)
    (d21 : DefAt K "_law_is_plan" (topS 36) f21)
    (d22 : DefAt K "_law_strange" (topS 37) f22)
    (d23 : DefAt K "_law_bent" (topS 38) f23)
    (d24 : DefAt K "_law_refusal" (topS 39) f24)
    (d25 : DefAt K "_law_said" (topS 40) f25)
    (d26 : DefAt K "_law_no" (topS 41) f26)
    (d27 : DefAt K "_law_frees" (topS 42) f27)
    (d28 : DefAt K "_law_parts" (topS 43) f28)
    (d29 : DefAt K "_law_all_needs" (topS 44) f29)
    (d30 : DefAt K "_law_is_right" (topS 45) f30)
    (d31 : DefAt K "_law_is_parts" (topS 46) f31)
    (d32 : DefAt K "_law_due" (topS 47) f32)
    (d33 : DefAt K "law" (topS 48) f33)
    (n0 : PySem.W.nsIn K mainGlobals "len" = some none)
    (n1 : PySem.W.nsIn K mainGlobals "tuple" = some none)
    (n2 : PySem.W.nsIn K mainGlobals "list" = some none)
    (n3 : PySem.W.nsIn K mainGlobals "sorted" = some none)
    (n4 : PySem.W.nsIn K mainGlobals "set" = some none)
    (n5 : PySem.W.nsIn K mainGlobals "all" = some none)
    (n6 : PySem.W.nsIn K mainGlobals "any" = some none)
    (n7 : PySem.W.nsIn K mainGlobals "int" = some none)
    (n8 : PySem.W.nsIn K mainGlobals "repr" = some none)
    (n9 : PySem.W.nsIn K mainGlobals "str" = some none)
    (n10 : PySem.W.nsIn K mainGlobals "isinstance" = some none)
    (n11 : PySem.W.nsIn K mainGlobals "range" = some none)
    (n12 : PySem.W.nsIn K mainGlobals "enumerate" = some none)
    (n13 : PySem.W.nsIn K mainGlobals "bool" = some none)
    (nv : PySem.W.nsIn K mainGlobals "ValueError" = some none)
    (gq0 : ∃ u v, PySem.W.nsIn K mainGlobals "NEEDS" = some (some u) ∧ RelV v u ∧ ∀ d, gcv 0 = some d → ∀ (Γ : Wd) μ F, Γ.K = K → Rep Γ μ F v d)
    (gq1 : ∃ u v, PySem.W.nsIn K mainGlobals "MOMENTS" = some (some u) ∧ RelV v u ∧ ∀ d, gcv 1 = some d → ∀ (Γ : Wd) μ F, Γ.K = K → Rep Γ μ F v d)
    (c0 : PySem.W.nsIn K mainGlobals "RoomError" = some (some (.ref A0)))
    (c1 : PySem.W.nsIn K mainGlobals "PaperError" = some (some (.ref A1)))
    (c2 : PySem.W.nsIn K mainGlobals "UseError" = some (some (.ref A2)))
    (c3 : PySem.W.nsIn K mainGlobals "BenchError" = some (some (.ref A3)))
    (c4 : PySem.W.nsIn K mainGlobals "TextError" = some (some (.ref A4)))
    (c5 : PySem.W.nsIn K mainGlobals "InvalidPaper" = some (some (.ref A5)))
    (c6 : PySem.W.nsIn K mainGlobals "NotUsable" = some (some (.ref A6)))
    (c7 : PySem.W.nsIn K mainGlobals "InvalidText" = some (some (.ref A7)))
    (x6 : ∀ (P : Program) (w : World) (base : Heap) (Γ : Wd), Γ.ca 6 = A6 → ExcOk P w K mg base Γ 1 6 "word" "at")
    (e6 : ExcC K A6)
    (z6 : XfC K A6)
    (w6word : PySem.W.findIn K (.ref A6) "word" = some none)
    (w6at : PySem.W.findIn K (.ref A6) "at" = some none)
    (w6line : PySem.W.findIn K (.ref A6) "line" = some none)
    (w6column : PySem.W.findIn K (.ref A6) "column" = some none)
    (k6_0 : PySem.W.kitOne K (.ref A6) (.ref A0) = some true)
    (k6_1 : PySem.W.kitOne K (.ref A6) (.ref A1) = some false)
    (k6_2 : PySem.W.kitOne K (.ref A6) (.ref A2) = some true)
    (k6_3 : PySem.W.kitOne K (.ref A6) (.ref A3) = some false)
    (k6_4 : PySem.W.kitOne K (.ref A6) (.ref A4) = some false)
    (k6_5 : PySem.W.kitOne K (.ref A6) (.ref A5) = some false)
    (k6_6 : PySem.W.kitOne K (.ref A6) (.ref A6) = some true)
    (k6_7 : PySem.W.kitOne K (.ref A6) (.ref A7) = some false)
    (k6_v : PySem.W.kitOne K (.ref A6) (.type "ValueError") = some true)
    (m6 : PySem.W.exmOne K (.ref A6) (.ref A0) = some true)
    (lc : K.lookup c = some ⟨ec, dc, .fields vs, sl⟩)
    (lv : vs[11]? = some (.ref P))
    (lp : K.lookup P = none)
    (hcode : ∀ fd, (∃ o, K.lookup f33 = some o ∧ o.data = .func fd) → fd.code = .ref c)
    : LawG l w K 43 63 "_law_script" mg fa h := by
  have e0 := hfa.symm.trans (PySem.W.mg_of X G d33.1)
  cases e0
  obtain ⟨fdl, Fl⟩ := d33.fn
  have blt : ∀ x ∈ bltNames, mg x = none := fmc (PySem.W.ns_none_of X G n0) (fmc (PySem.W.ns_none_of X G n1) (fmc (PySem.W.ns_none_of X G n2) (fmc (PySem.W.ns_none_of X G n3) (fmc (PySem.W.ns_none_of X G n4) (fmc (PySem.W.ns_none_of X G n5) (fmc (PySem.W.ns_none_of X G n6) (fmc (PySem.W.ns_none_of X G n7) (fmc (PySem.W.ns_none_of X G n8) (fmc (PySem.W.ns_none_of X G n9) (fmc (PySem.W.ns_none_of X G n10) (fmc (PySem.W.ns_none_of X G n11) (fmc (PySem.W.ns_none_of X G n12) (fmc (PySem.W.ns_none_of X G n13) (fmn))))))))))))))
  have O : ∀ (Pr : Program) (base : Heap), Okb Pr w K mg base (G0 K [f0, f1, f2, f3, f4, f5, f6, f7, f8, f9, f10, f11, f12, f13, f14, f15, f16, 0, f18, f19, f20, f21, f22, f23, f24, f25, f26, f27, f28, f29, f30, f31, f32, f33] [0, 0, 0, 0, 0, 0, A6, 0] P) gt gcv xfv dfv := fun Pr base => by
    have F : ∀ p ∈ gt.fns, DefOk K mg gt dfv p.1 p.2.1 p.2.2 ((G0 K [f0, f1, f2, f3, f4, f5, f6, f7, f8, f9, f10, f11, f12, f13, f14, f15, f16, 0, f18, f19, f20, f21, f22, f23, f24, f25, f26, f27, f28, f29, f30, f31, f32, f33] [0, 0, 0, 0, 0, 0, A6, 0] P).fa p.2.1) := fmc (defOk_mk X G d0 sc_0 rfl ar_0 rfl c_0) (fmc (defOk_mk X G d1 sc_1 rfl ar_1 rfl c_1) (fmc (defOk_mk X G d2 sc_2 rfl ar_2 rfl c_2) (fmc (defOk_mk X G d3 sc_3 rfl ar_3 rfl c_3) (fmc (defOk_mk X G d4 sc_4 rfl ar_4 rfl c_4) (fmc (defOk_mk X G d5 sc_5 rfl ar_5 rfl c_5) (fmc (defOk_mk X G d6 sc_6 rfl ar_6 rfl c_6) (fmc (defOk_mk X G d7 sc_7 rfl ar_7 rfl c_7) (fmc (defOk_mk X G d8 sc_8 rfl ar_8 rfl c_8) (fmc (defOk_mk X G d9 sc_9 rfl ar_9 rfl c_9) (fmc (defOk_mk X G d10 sc_10 rfl ar_10 rfl c_10) (fmc (defOk_mk X G d11 sc_11 rfl ar_11 rfl c_11) (fmc (defOk_mk X G d12 sc_12 rfl ar_12 rfl c_12) (fmc (defOk_mk X G d13 sc_13 rfl ar_13 rfl c_13) (fmc (defOk_mk X G d14 sc_14 rfl ar_14 rfl c_14) (fmc (defOk_mk X G d15 sc_15 rfl ar_15 rfl c_15) (fmc (defOk_mk X G d16 sc_16 rfl ar_16 rfl c_16) (fmc (defOk_mk X G d18 sc_18 rfl ar_18 rfl c_18) (fmc (defOk_mk X G d19 sc_19 rfl ar_19 rfl c_19) (fmc (defOk_mk X G d20 sc_20 rfl ar_20 rfl c_20) (fmc (defOk_mk X G d21 sc_21 rfl ar_21 rfl c_21) (fmc (defOk_mk X G d22 sc_22 rfl ar_22 rfl c_22) (fmc (defOk_mk X G d23 sc_23 rfl ar_23 rfl c_23) (fmc (defOk_mk X G d26 sc_26 rfl ar_26 rfl c_26) (fmc (defOk_mk X G d27 sc_27 rfl ar_27 rfl c_27) (fmc (defOk_mk X G d28 sc_28 rfl ar_28 rfl c_28) (fmc (defOk_mk X G d29 sc_29 rfl ar_29 rfl c_29) (fmc (defOk_mk X G d31 sc_31 rfl ar_31 rfl c_31) (fmc (defOk_mk X G d32 sc_32 rfl ar_32 rfl c_32) (fmn)))))))))))))))))))))))))))))
    have GC : ∀ p ∈ gt.gcs, ∃ u v, mg p.1 = some u ∧ RelV v u ∧ ∀ d, gcv p.2 = some d → ∀ μ F, Rep (G0 K [f0, f1, f2, f3, f4, f5, f6, f7, f8, f9, f10, f11, f12, f13, f14, f15, f16, 0, f18, f19, f20, f21, f22, f23, f24, f25, f26, f27, f28, f29, f30, f31, f32, f33] [0, 0, 0, 0, 0, 0, A6, 0] P) μ F v d := fmc (let ⟨u, v, q1, q2, q3⟩ := gq0; ⟨u, v, PySem.W.mg_of X G q1, q2, fun d hd μ F => q3 d hd _ μ F rfl⟩) (fmc (let ⟨u, v, q1, q2, q3⟩ := gq1; ⟨u, v, PySem.W.mg_of X G q1, q2, fun d hd μ F => q3 d hd _ μ F rfl⟩) (fmn))
    have EX : ∀ p ∈ gt.exs, mg p.1 = some (.ref ((G0 K [f0, f1, f2, f3, f4, f5, f6, f7, f8, f9, f10, f11, f12, f13, f14, f15, f16, 0, f18, f19, f20, f21, f22, f23, f24, f25, f26, f27, f28, f29, f30, f31, f32, f33] [0, 0, 0, 0, 0, 0, A6, 0] P).ca p.2.1)) ∧ ExcOk Pr w K mg base (G0 K [f0, f1, f2, f3, f4, f5, f6, f7, f8, f9, f10, f11, f12, f13, f14, f15, f16, 0, f18, f19, f20, f21, f22, f23, f24, f25, f26, f27, f28, f29, f30, f31, f32, f33] [0, 0, 0, 0, 0, 0, A6, 0] P) 1 p.2.1 p.2.2.1 p.2.2.2 ∧ xfv p.2.1 = [p.2.2.1, p.2.2.2] := fmc ⟨PySem.W.mg_of X G c6, x6 Pr w base _ rfl, rfl⟩ (fmn)
    have KW : ∀ p ∈ gt.kws, DefKw K mg gt dfv p.1 p.2.1 p.2.2.1 p.2.2.2 ((G0 K [f0, f1, f2, f3, f4, f5, f6, f7, f8, f9, f10, f11, f12, f13, f14, f15, f16, 0, f18, f19, f20, f21, f22, f23, f24, f25, f26, f27, f28, f29, f30, f31, f32, f33] [0, 0, 0, 0, 0, 0, A6, 0] P).fa p.2.1) := fmc (defKw_mk X G d9 sc_9 rfl kw_0 rfl c_9) (fmn)
    exact ⟨rfl, rfl, rfl, rfl, rfl, blt, fun x f n h => F (x, f, n) h, fun x n h => GC (x, n) h, fun x c f1 f2 h => EX (x, c, f1, f2) h, fun x f ks is h => KW (x, f, ks, is) h⟩
  have R : ∀ (Pr : Program) (base : Heap), Okr Pr w K mg base (G0 K [f0, f1, f2, f3, f4, f5, f6, f7, f8, f9, f10, f11, f12, f13, f14, f15, f16, 0, f18, f19, f20, f21, f22, f23, f24, f25, f26, f27, f28, f29, f30, f31, f32, f33] [0, 0, 0, 0, 0, 0, A6, 0] P) gt gr dfv := fun Pr base => by
    have F : ∀ p ∈ gr.rfns, DefOk K mg gr dfv p.1 p.2.1 p.2.2 ((G0 K [f0, f1, f2, f3, f4, f5, f6, f7, f8, f9, f10, f11, f12, f13, f14, f15, f16, 0, f18, f19, f20, f21, f22, f23, f24, f25, f26, f27, f28, f29, f30, f31, f32, f33] [0, 0, 0, 0, 0, 0, A6, 0] P).fa p.2.1) := fmc (defOk_mk X G d30 sc_30 rfl ar_30 rfl c_30) (fmn)
    exact ⟨rfl, rfl, rfl, rfl, rfl, rfl, rfl, rfl, fun x f n h => F (x, f, n) h⟩
  have CL : ∀ ad : Addr, ∀ p ∈ gh.cls, ∃ (v : V) (cv : Value), ((mg p.1 = some cv) ∨ (mg p.1 = none ∧ bootBuiltins p.1 = some cv ∧ p.1 ≠ "__name__")) ∧ RelV v cv ∧ (∀ u, RelV v u → u = cv) ∧ ∀ c b, iscv c p.2 = some b → PySem.W.kitOne K (.ref (((G0 K [f0, f1, f2, f3, f4, f5, f6, f7, f8, f9, f10, f11, f12, f13, f14, f15, f16, 0, f18, f19, f20, f21, f22, f23, f24, f25, f26, f27, f28, f29, f30, f31, f32, f33] [0, 0, 0, 0, 0, 0, A6, 0] P).atE ad).ca c)) cv = some b := fun ad =>
    fmc ⟨.ref A0, .ref A0, .inl (PySem.W.mg_of X G c0), rfl, fun u hu => hu, fun c b hb => isc_at (j := 0) k6_0 c b hb⟩ (fmc ⟨.ref A1, .ref A1, .inl (PySem.W.mg_of X G c1), rfl, fun u hu => hu, fun c b hb => isc_at (j := 1) k6_1 c b hb⟩ (fmc ⟨.ref A2, .ref A2, .inl (PySem.W.mg_of X G c2), rfl, fun u hu => hu, fun c b hb => isc_at (j := 2) k6_2 c b hb⟩ (fmc ⟨.ref A3, .ref A3, .inl (PySem.W.mg_of X G c3), rfl, fun u hu => hu, fun c b hb => isc_at (j := 3) k6_3 c b hb⟩ (fmc ⟨.ref A4, .ref A4, .inl (PySem.W.mg_of X G c4), rfl, fun u hu => hu, fun c b hb => isc_at (j := 4) k6_4 c b hb⟩ (fmc ⟨.ref A5, .ref A5, .inl (PySem.W.mg_of X G c5), rfl, fun u hu => hu, fun c b hb => isc_at (j := 5) k6_5 c b hb⟩ (fmc ⟨.ref A6, .ref A6, .inl (PySem.W.mg_of X G c6), rfl, fun u hu => hu, fun c b hb => isc_at (j := 6) k6_6 c b hb⟩ (fmc ⟨.ref A7, .ref A7, .inl (PySem.W.mg_of X G c7), rfl, fun u hu => hu, fun c b hb => isc_at (j := 7) k6_7 c b hb⟩ (fmc ⟨.ty "ValueError", .type "ValueError", .inr ⟨PySem.W.ns_none_of X G nv, rfl, by decide⟩, rfl, fun u hu => hu, fun c b hb => isc_at (j := 900) k6_v c b hb⟩ (fmn)))))))))
  have A : ∀ (Pr : Program) (base : Heap) (y : Exc) (ad : Addr), y.c ∈ [6] → AskOk Pr w K mg base gh ((G0 K [f0, f1, f2, f3, f4, f5, f6, f7, f8, f9, f10, f11, f12, f13, f14, f15, f16, 0, f18, f19, f20, f21, f22, f23, f24, f25, f26, f27, f28, f29, f30, f31, f32, f33] [0, 0, 0, 0, 0, 0, A6, 0] P).atE ad) (Gx y) := fun Pr base y ad hy =>
    ⟨rfl, ⟨Nat.le_refl 2, blt, fun _ _ _ h => (List.not_mem_nil h).elim, fun _ _ h => (List.not_mem_nil h).elim, fun _ _ _ _ h => (List.not_mem_nil h).elim, fun _ _ _ _ h => (List.not_mem_nil h).elim, fun x k h => CL ad (x, k) h, fun z => absurd z (by decide)⟩, fun c fs hc => by
      cases hc
      have e : y.c = 6 := by simpa using hy
      rw [e]
      exact ⟨e6, z6, fun f hf => (fmc (p := fun f => PySem.W.findIn K (.ref A6) f = some none) w6word (fmc w6at (fmc w6line (fmc w6column fmn)))) f hf⟩⟩
  have S : ∀ (Pr : Program) (base : Heap), SaidOk Pr w K mg base (G0 K [f0, f1, f2, f3, f4, f5, f6, f7, f8, f9, f10, f11, f12, f13, f14, f15, f16, 0, f18, f19, f20, f21, f22, f23, f24, f25, f26, f27, f28, f29, f30, f31, f32, f33] [0, 0, 0, 0, 0, 0, A6, 0] P) rfv "_law_said" := fun Pr base =>
    saidOk_mk X G d25 ⟨_, _, _, _, _, _, _, _, _, _, _, _, _, _, _, _, _, _, _, _, _, _, _, _, rfl⟩ sc_25 ar_25 rfl rfl rfl rfl rfl c0 d24 sc_24 ar_24 c_24 rfl rfl rfl (fun _ => rfl) (A Pr base) (fmc m6 (fmn)) (by decide +kernel)
  refine lawG_of (Γ := (G0 K [f0, f1, f2, f3, f4, f5, f6, f7, f8, f9, f10, f11, f12, f13, f14, f15, f16, 0, f18, f19, f20, f21, f22, f23, f24, f25, f26, f27, f28, f29, f30, f31, f32, f33] [0, 0, 0, 0, 0, 0, A6, 0] P)) (G := Tb 40) (gl := gl) (N := N_33) (b := b_33) tab Fl sc_33 (fun s u => ?hb) (hcode fdl ?ho) lc lv lp rfl rfl (show ("law" : Str) ++ ".<locals>." ++ "<lambda>" = "law.<locals>.<lambda>" by decide +kernel) rfl rfl rfl (by show 4 ≤ 2 + (39 + 1); decide) rfl (fun base _ _ => ⟨okg_gl (g := gr) rfl rfl rfl rfl rfl (fun _ => ⟨rfl, rfl⟩) (okg_all2 (rf := rfv) (Nat.le_refl 2) (O l.prog base) (R l.prog base) 40), okg_gl (g := gt) rfl rfl rfl rfl rfl (fun z => absurd z (by decide)) (okg_low (m := 38) (okg_all (rf := rfv) (Nat.le_refl 2) (O l.prog base) 38) rfl), S l.prog base⟩) c_33 hm
  case hb =>
    obtain ⟨oc, od, kV, doc, pm, an, cdv, ct, osl, rfl, lk, hcd⟩ := Fl.ex
    exact .of_eq rfl
  case ho =>
    obtain ⟨oc, od, kV, doc, pm, an, cdv, ct, osl, rfl, lk, hcd⟩ := Fl.ex
    exact ⟨_, lk, rfl⟩
end
end T07
end

section
set_option linter.all false
set_option maxRecDepth 100000
set_option Elab.async false
set_option maxHeartbeats 8000000
open PySem PySem.W PyProof.Rows
theorem PySem.Challenge.cw_roomsback_k07_whole_freed_holds : PySem.Challenge.rw_roomsback_k07_whole_freed.Holds := by
  w_on; o_law; k_head; (case hw => w_witness2)
  k_fill
  refine Mi.walk_ofG2 (l := PySem.Challenge.rw_roomsback_k07_whole_freed) (n := 63) (k := 43) (x := "_law_script") rfl (by decide) rfl ⟨rfl, by decide, by decide⟩ ?rec (fun w h Y => PySem.W.km_in_of Y) ?F
  case rec => rfl
  case F =>
    intro w mg fa h Y X G hmg tab
    refine' T07.law_mk X G hmg tab ?d0 ?d1 ?d2 ?d3 ?d4 ?d5 ?d6 ?d7 ?d8 ?d9 ?d10 ?d11 ?d12 ?d13 ?d14 ?d15 ?d16 ?d18 ?d19 ?d20 ?d21 ?d22 ?d23 ?d24 ?d25 ?d26 ?d27 ?d28 ?d29 ?d30 ?d31 ?d32 ?d33 ?n0 ?n1 ?n2 ?n3 ?n4 ?n5 ?n6 ?n7 ?n8 ?n9 ?n10 ?n11 ?n12 ?n13 ?nv ?gq0 ?gq1 ?c0 ?c1 ?c2 ?c3 ?c4 ?c5 ?c6 ?c7 ?x6 ?e6 ?z6 ?w6word ?w6at ?w6line ?w6column ?k6_0 ?k6_1 ?k6_2 ?k6_3 ?k6_4 ?k6_5 ?k6_6 ?k6_7 ?k6_v ?m6 ?lc ?lv ?lp ?hcode
    case d0 =>
      refine' Mi.defAt_mk ?a ?l ?c ?k
      case a => k_is
      case l => k_is
      case c => k_is
      case k => k_is
    case d1 =>
      refine' Mi.defAt_mk ?a ?l ?c ?k
      case a => k_is
      case l => k_is
      case c => k_is
      case k => k_is
    case d2 =>
      refine' Mi.defAt_mk ?a ?l ?c ?k
      case a => k_is
      case l => k_is
      case c => k_is
      case k => k_is
    case d3 =>
      refine' Mi.defAt_mk ?a ?l ?c ?k
      case a => k_is
      case l => k_is
      case c => k_is
      case k => k_is
    case d4 =>
      refine' Mi.defAt_mk ?a ?l ?c ?k
      case a => k_is
      case l => k_is
      case c => k_is
      case k => k_is
    case d5 =>
      refine' Mi.defAt_mk ?a ?l ?c ?k
      case a => k_is
      case l => k_is
      case c => k_is
      case k => k_is
    case d6 =>
      refine' Mi.defAt_mk ?a ?l ?c ?k
      case a => k_is
      case l => k_is
      case c => k_is
      case k => k_is
    case d7 =>
      refine' Mi.defAt_mk ?a ?l ?c ?k
      case a => k_is
      case l => k_is
      case c => k_is
      case k => k_is
    case d8 =>
      refine' Mi.defAt_mk ?a ?l ?c ?k
      case a => k_is
      case l => k_is
      case c => k_is
      case k => k_is
    case d9 =>
      refine' Mi.defAt_mk ?a ?l ?c ?k
      case a => k_is
      case l => k_is
      case c => k_is
      case k => k_is
    case d10 =>
      refine' Mi.defAt_mk ?a ?l ?c ?k
      case a => k_is
      case l => k_is
      case c => k_is
      case k => k_is
    case d11 =>
      refine' Mi.defAt_mk ?a ?l ?c ?k
      case a => k_is
      case l => k_is
      case c => k_is
      case k => k_is
    case d12 =>
      refine' Mi.defAt_mk ?a ?l ?c ?k
      case a => k_is
      case l => k_is
      case c => k_is
      case k => k_is
    case d13 =>
      refine' Mi.defAt_mk ?a ?l ?c ?k
      case a => k_is
      case l => k_is
      case c => k_is
      case k => k_is
    case d14 =>
      refine' Mi.defAt_mk ?a ?l ?c ?k
      case a => k_is
      case l => k_is
      case c => k_is
      case k => k_is
    case d15 =>
      refine' Mi.defAt_mk ?a ?l ?c ?k
      case a => k_is
      case l => k_is
      case c => k_is
      case k => k_is
    case d16 =>
      refine' Mi.defAt_mk ?a ?l ?c ?k
      case a => k_is
      case l => k_is
      case c => k_is
      case k => k_is
    case d18 =>
      refine' Mi.defAt_mk ?a ?l ?c ?k
      case a => k_is
      case l => k_is
      case c => k_is
      case k => k_is
    case d19 =>
      refine' Mi.defAt_mk ?a ?l ?c ?k
      case a => k_is
      case l => k_is
      case c => k_is
      case k => k_is
    case d20 =>
      refine' Mi.defAt_mk ?a ?l ?c ?k
      case a => k_is
      case l => k_is
      case c => k_is
      case k => k_is
    case d21 =>
      refine' Mi.defAt_mk ?a ?l ?c ?k
      case a => k_is
      case l => k_is
      case c => k_is
      case k => k_is
    case d22 =>
      refine' Mi.defAt_mk ?a ?l ?c ?k
      case a => k_is
      case l => k_is
      case c => k_is
      case k => k_is
    case d23 =>
      refine' Mi.defAt_mk ?a ?l ?c ?k
      case a => k_is
      case l => k_is
      case c => k_is
      case k => k_is
    case d24 =>
      refine' Mi.defAt_mk ?a ?l ?c ?k
      case a => k_is
      case l => k_is
      case c => k_is
      case k => k_is
    case d25 =>
      refine' Mi.defAt_mk ?a ?l ?c ?k
      case a => k_is
      case l => k_is
      case c => k_is
      case k => k_is
    case d26 =>
      refine' Mi.defAt_mk ?a ?l ?c ?k
      case a => k_is
      case l => k_is
      case c => k_is
      case k => k_is
    case d27 =>
      refine' Mi.defAt_mk ?a ?l ?c ?k
      case a => k_is
      case l => k_is
      case c => k_is
      case k => k_is
    case d28 =>
      refine' Mi.defAt_mk ?a ?l ?c ?k
      case a => k_is
      case l => k_is
      case c => k_is
      case k => k_is
    case d29 =>
      refine' Mi.defAt_mk ?a ?l ?c ?k
      case a => k_is
      case l => k_is
      case c => k_is
      case k => k_is
    case d30 =>
      refine' Mi.defAt_mk ?a ?l ?c ?k
      case a => k_is
      case l => k_is
      case c => k_is
      case k => k_is
    case d31 =>
      refine' Mi.defAt_mk ?a ?l ?c ?k
      case a => k_is
      case l => k_is
      case c => k_is
      case k => k_is
    case d32 =>
      refine' Mi.defAt_mk ?a ?l ?c ?k
      case a => k_is
      case l => k_is
      case c => k_is
      case k => k_is
    case d33 =>
      refine' Mi.defAt_mk ?a ?l ?c ?k
      case a => k_is
      case l => k_is
      case c => k_is
      case k => k_is
    case n0 => k_is
    case n1 => k_is
    case n2 => k_is
    case n3 => k_is
    case n4 => k_is
    case n5 => k_is
    case n6 => k_is
    case n7 => k_is
    case n8 => k_is
    case n9 => k_is
    case n10 => k_is
    case n11 => k_is
    case n12 => k_is
    case n13 => k_is
    case nv => k_is
    case gq0 =>
      refine' Mi.gq_mk ["maker", "name", "picture", "reader"] ?a ?l ?s ?v rfl
      case a => k_is
      case l => k_is
      case s => rfl
      case v => decide +kernel
    case gq1 =>
      refine' Mi.gq_mk ["gone", "left", "made", "read", "right", "turned"] ?a ?l ?s ?v rfl
      case a => k_is
      case l => k_is
      case s => rfl
      case v => decide +kernel
    case c0 => k_is
    case c1 => k_is
    case c2 => k_is
    case c3 => k_is
    case c4 => k_is
    case c5 => k_is
    case c6 => k_is
    case c7 => k_is
    case x6 =>
      intro Pr w' base Γ hc
      refine' Mi.excOk_mk (nm := "") (q := "NotUsable.__init__") (st := L2.inClass (T07.topS 7) 0) (sn := "self") (x1 := "word") (x2 := "at") hc (Mi.oexC_mk ?xL ?xe ?xr ?sa ?eC ?tC ?kC) ?a1 ?t1 ?l1 ?c1 ?k1 rfl (fun _ _ _ _ _ _ us hl => match us, hl with | [_, _, _], _ => rfl) ⟨rfl, rfl, rfl, by decide +kernel, rfl, by decide +kernel, by decide +kernel⟩ (by decide) ?h1 ?h2 (by decide +kernel) ⟨rfl, rfl, rfl⟩
      case xL => k_is
      case xe => rfl
      case xr => decide +kernel
      case sa => k_is
      case eC => k_is
      case tC => k_is
      case kC => k_is
      case a1 => k_is
      case t1 => k_is
      case l1 => k_is
      case c1 => k_is
      case k1 => k_is
      case h1 => k_is
      case h2 => k_is
    case e6 => exact ⟨by k_is, by k_is, by k_is, by k_is, by k_is, by k_is, by k_is, by k_is⟩
    case z6 => exact ⟨by k_is, by k_is, by k_is, by k_is⟩
    case w6word => k_is
    case w6at => k_is
    case w6line => k_is
    case w6column => k_is
    case k6_0 => first | rfl | k_is | kit_is
    case k6_1 => first | rfl | k_is | kit_is
    case k6_2 => first | rfl | k_is | kit_is
    case k6_3 => first | rfl | k_is | kit_is
    case k6_4 => first | rfl | k_is | kit_is
    case k6_5 => first | rfl | k_is | kit_is
    case k6_6 => first | rfl | k_is | kit_is
    case k6_7 => first | rfl | k_is | kit_is
    case k6_v => first | rfl | k_is | kit_is
    case m6 => first | rfl | k_is
    case hcode =>
      refine' Mi.hcode_mk ?l ?d ?e
      case l => k_is
      case d => rfl
      case e => rfl
    case lc => k_is
    case lv => first | rfl | k_is
    case lp => rfl
end
