import PyProof.Rows.All
import Wide.All
import OpenK.AllK
import Wide.FinOn
import HandS.ForMost
import HandS.DictComp
import HandS.ListItems
import HandS.Conv
import HandS.IsInst
import HandS.Wide
import HandS.Flow
import HandS.Lambda
import HandS.Defaults
import HandS.Codes
import HandS.CallLocal
import HandS.Style
import PyProof.Rows.TupMore
import KE.KRevSl
import KE.KMinKey
import KE.KEqSeq
import KE.KStateDown
import Lean
import HandS.Base
import HandS.Call
import HandS.Ends
import HandS.More
import HandS.Words
import HandS.WordsExc
import HandS.Head0
import HandS.Head1
import HandS.Head2
import HandS.HeadEnd
import HandS.HeadHook1
import HandS.HeadHook2
import HandS.HeadHook3
import HandS.HeadHook4
import HandS.HeadWalk
import HandS.NestedK
import KE.KNestM
import PySem.Challenge.RW_hearths_k06_whole_what_holds_of_all
set_option Elab.async false
set_option Elab.async false
set_option linter.all false
set_option maxRecDepth 100000
set_option maxHeartbeats 4000000
/-! A layer of data over HandS: what values denote (D), steps that keep what stood, slots of a frame, and runs from slots to slots. -/
namespace Z
open PySem PySem.Spec PyProof.Rows L2

/-! ### data -/
inductive D where
  | non | bl (b : Bool) | int (i : Int) | str (x : Str) | stm | adr (a : Addr)
  | lst (xs : List D) | tup (xs : List D) | dic (kvs : List (Key × D)) | ins (fs : List (Str × D))

/-- the part of the heap that may change elsewhere: the spring of draws (the list at s; the numbers not yet drawn at cl), the tables of lambdas -/
structure Wd (K : PySem.W.Frag) (C : Addr) (Ω : List (Addr × Str)) where
  s : Addr
  cl : Addr
  ne : s ≠ cl
  out : ∀ p, p ∈ Ω → p.1 ≠ s ∧ p.1 ≠ cl
section
variable {K : PySem.W.Frag} {C : Addr} {Ω : List (Addr × Str)}
def Wd.S (W : Wd K C Ω) (a : Addr) : Prop := a = W.s ∨ a = W.cl ∨ ∃ p, p ∈ Ω ∧ p.1 = a
/-- the spring holds: numbers left, digits left, draws so far, the mixed number -/
structure Sprg (W : Wd K C Ω) (H : Hp) (cells : List Int) (a b c : Int) : Prop where
  top : H W.s = some (.lst [.ref W.cl, .int a, .int b, .int c])
  low : H W.cl = some (.lst (cells.map V.int))
  few : cells.length ≤ 63
  a0 : 0 ≤ a
  b0 : 0 ≤ b
  c0 : 0 ≤ c
  c1 : c < 2147483647
def Wd.I (W : Wd K C Ω) (H : Hp) : Prop := (∃ cells a b c, Sprg W H cells a b c) ∧ LamX.Tabs Ω H
def cntOf : Option HO → Nat
  | some (.lst [_, _, .int b, _]) => b.toNat
  | _ => 0
def Wd.cnt (W : Wd K C Ω) (H : Hp) : Nat := cntOf (H W.s)
/-- what the spring's part asks to be kept -/
def Wd.Kp (W : Wd K C Ω) (H H' : Hp) : Prop := ∀ a o, (W.S a ∨ ∃ φ, o = .ext φ) → H a = some o → H' a = some o
theorem Wd.inn (W : Wd K C Ω) : ∀ H a, W.I H → W.S a → H a ≠ none := fun H a ⟨⟨cells, x, y, z, g⟩, t⟩ h q => by
  rcases h with rfl | rfl | ⟨p, hp, rfl⟩
  · rw [g.top] at q
    cases q
  · rw [g.low] at q
    cases q
  · obtain ⟨ps, h1, _⟩ := t p hp
    rw [h1] at q
    cases q
theorem Wd.loc (W : Wd K C Ω) : ∀ H H', W.Kp H H' → W.I H → W.I H' := fun H H' k ⟨⟨cells, x, y, z, g⟩, t⟩ => by
  refine ⟨⟨cells, x, y, z, k _ _ (.inl (.inl rfl)) g.top, k _ _ (.inl (.inr (.inl rfl))) g.low, g.few, g.a0, g.b0, g.c0, g.c1⟩, fun p hp => ?_⟩
  obtain ⟨ps, h1, h2, h3⟩ := t p hp
  refine ⟨ps, k _ _ (.inl (.inr (.inr ⟨p, hp, rfl⟩))) h1, h2, fun pos cv e => ?_⟩
  obtain ⟨d, e1, e2⟩ := h3 pos cv e
  exact ⟨d, e1, k _ _ (.inr ⟨_, rfl⟩) e2⟩
theorem Wd.cloc (W : Wd K C Ω) : ∀ H H', W.Kp H H' → W.I H → W.cnt H' = W.cnt H := fun H H' k ⟨⟨cells, x, y, z, g⟩, t⟩ => by
  unfold Wd.cnt
  rw [g.top, k _ _ (.inl (.inl rfl)) g.top]
theorem Wd.tS (W : Wd K C Ω) : ∀ p, p ∈ Ω → W.S p.1 := fun p hp => .inr (.inr ⟨p, hp, rfl⟩)
theorem Wd.tab (W : Wd K C Ω) : ∀ H, W.I H → LamX.Tabs Ω H := fun _ h => h.2
theorem Wd.tloc (W : Wd K C Ω) : ∀ H H' P, (∃ q, (P, q) ∈ Ω) → (∀ b o, H b = some o → b ≠ P → H' b = some o) → LamX.Tabs Ω H' → W.I H → W.I H' := fun H H' P ⟨q, hq⟩ k t ⟨⟨cells, x, y, z, g⟩, _⟩ =>
  ⟨⟨cells, x, y, z, k _ _ g.top (fun e => (W.out _ hq).1 e.symm), k _ _ g.low (fun e => (W.out _ hq).2 e.symm), g.few, g.a0, g.b0, g.c0, g.c1⟩, t⟩
theorem Wd.tcnt (W : Wd K C Ω) : ∀ H H' P, (∃ q, (P, q) ∈ Ω) → (∀ b o, H b = some o → b ≠ P → H' b = some o) → LamX.Tabs Ω H' → W.I H → W.cnt H' = W.cnt H := fun H H' P ⟨q, hq⟩ k t ⟨⟨cells, x, y, z, g⟩, _⟩ => by
  unfold Wd.cnt
  rw [g.top, k _ _ g.top (fun e => (W.out _ hq).1 e.symm)]
end
/-- more draws than this are never asked -/
def most : Nat := 2 ^ 40

variable {K : PySem.W.Frag} {C : Addr} {Ω : List (Addr × Str)}
mutual
inductive Den (W : Wd K C Ω) (G : Hp) : D → V → Prop
  | non : Den W G .non .non
  | bl (b : Bool) : Den W G (.bl b) (.bl b)
  | int (i : Int) : Den W G (.int i) (.int i)
  | str (x : Str) : Den W G (.str x) (.str x)
  | stm : Den W G .stm (.ref W.s)
  | adr (a : Addr) : Den W G (.adr a) (.ref a)
  | lst {a : Addr} {vs : List V} {xs : List D} : G a = some (.lst vs) → Dens W G xs vs → Den W G (.lst xs) (.ref a)
  | tup {a : Addr} {vs : List V} {xs : List D} : SqT K G a vs → Dens W G xs vs → Den W G (.tup xs) (.ref a)
  | dic {a : Addr} {kvs : List (Key × V)} {ds : List (Key × D)} : Rd G a (.dK kvs) → DenK W G ds kvs → Den W G (.dic ds) (.ref a)
  | ins {a dx : Addr} {fvs : List (Str × V)} {fs : List (Str × D)} : G a = some (.ins C dx fvs) → DenF W G fs fvs → Den W G (.ins fs) (.ref a)
inductive Dens (W : Wd K C Ω) (G : Hp) : List D → List V → Prop
  | nil : Dens W G [] []
  | cons {d : D} {v : V} {ds : List D} {vs : List V} : Den W G d v → Dens W G ds vs → Dens W G (d :: ds) (v :: vs)
inductive DenK (W : Wd K C Ω) (G : Hp) : List (Key × D) → List (Key × V) → Prop
  | nil : DenK W G [] []
  | cons {k : Key} {d : D} {v : V} {ds : List (Key × D)} {vs : List (Key × V)} : Den W G d v → DenK W G ds vs → DenK W G ((k, d) :: ds) ((k, v) :: vs)
inductive DenF (W : Wd K C Ω) (G : Hp) : List (Str × D) → List (Str × V) → Prop
  | nil : DenF W G [] []
  | cons {k : Str} {d : D} {v : V} {ds : List (Str × D)} {vs : List (Str × V)} : Den W G d v → DenF W G ds vs → DenF W G ((k, d) :: ds) ((k, v) :: vs)
end

/-- what may be read so before may be read so behind -/
structure Gr (G G' : Hp) : Prop where
  l : ∀ a xs, G a = some (.lst xs) → G' a = some (.lst xs)
  t : ∀ a xs, Rd G a (.tup xs) → Rd G' a (.tup xs)
  d : ∀ a kvs, Rd G a (.dK kvs) → Rd G' a (.dK kvs)
  i : ∀ a C dx fs, G a = some (.ins C dx fs) → G' a = some (.ins C dx fs)

theorem same_rd {G G' : Hp} (e : Same G G') {a : Addr} {u : HO} (h : Rd G a u) : Rd G' a u := by
  rcases h with h | ⟨o, h⟩
  · exact .inl (e a _ h)
  · exact .inr ⟨o, e a _ h⟩
theorem Gr.of {G G' : Hp} (e : Same G G') : Gr G G' := ⟨fun _ _ h => e _ _ h, fun _ _ h => same_rd e h, fun _ _ h => same_rd e h, fun _ _ _ _ h => e _ _ h⟩
theorem Gr.st {G G' : Hp} (e : Gr G G') {a : Addr} {vs : List V} (h : SqT K G a vs) : SqT K G' a vs := by
  rcases h with h | h
  · exact .inl (e.t _ _ h)
  · exact .inr h

mutual
theorem Den.gr {W : Wd K C Ω} {G G' : Hp} (e : Gr G G') : ∀ {d : D} {v : V}, Den W G d v → Den W G' d v
  | _, _, .non => .non
  | _, _, .bl b => .bl b
  | _, _, .int i => .int i
  | _, _, .str x => .str x
  | _, _, .stm => .stm
  | _, _, .adr a => .adr a
  | _, _, .lst h1 h2 => .lst (e.l _ _ h1) (Dens.gr e h2)
  | _, _, .tup h1 h2 => .tup (e.st h1) (Dens.gr e h2)
  | _, _, .dic h1 h2 => .dic (e.d _ _ h1) (DenK.gr e h2)
  | _, _, .ins h1 h2 => .ins (e.i _ _ _ _ h1) (DenF.gr e h2)
theorem Dens.gr {W : Wd K C Ω} {G G' : Hp} (e : Gr G G') : ∀ {ds : List D} {vs : List V}, Dens W G ds vs → Dens W G' ds vs
  | _, _, .nil => .nil
  | _, _, .cons h1 h2 => .cons (Den.gr e h1) (Dens.gr e h2)
theorem DenK.gr {W : Wd K C Ω} {G G' : Hp} (e : Gr G G') : ∀ {ds : List (Key × D)} {vs : List (Key × V)}, DenK W G ds vs → DenK W G' ds vs
  | _, _, .nil => .nil
  | _, _, .cons h1 h2 => .cons (Den.gr e h1) (DenK.gr e h2)
theorem DenF.gr {W : Wd K C Ω} {G G' : Hp} (e : Gr G G') : ∀ {ds : List (Str × D)} {vs : List (Str × V)}, DenF W G ds vs → DenF W G' ds vs
  | _, _, .nil => .nil
  | _, _, .cons h1 h2 => .cons (Den.gr e h1) (DenF.gr e h2)
end
section
variable {W : Wd K C Ω} {G G' H H' : Hp} {d : D} {v : V} {ds : List D} {vs : List V}
theorem Den.mono (h : Den W G d v) (e : Same G G') : Den W G' d v := Den.gr (Gr.of e) h
theorem Dens.mono (h : Dens W G ds vs) (e : Same G G') : Dens W G' ds vs := Dens.gr (Gr.of e) h
theorem DenK.mono {ds : List (Key × D)} {vs : List (Key × V)} (h : DenK W G ds vs) (e : Same G G') : DenK W G' ds vs := DenK.gr (Gr.of e) h
theorem DenF.mono {ds : List (Str × D)} {vs : List (Str × V)} (h : DenF W G ds vs) (e : Same G G') : DenF W G' ds vs := DenF.gr (Gr.of e) h
theorem Dens.len : ∀ {ds : List D} {vs : List V}, Dens W G ds vs → ds.length = vs.length
  | _, _, .nil => rfl
  | _, _, .cons _ h => congrArg (· + 1) (Dens.len h)
theorem DenK.len : ∀ {ds : List (Key × D)} {vs : List (Key × V)}, DenK W G ds vs → ds.length = vs.length
  | _, _, .nil => rfl
  | _, _, .cons _ h => congrArg (· + 1) (DenK.len h)
theorem Dens.get : ∀ {ds : List D} {vs : List V} {i : Nat} {d : D}, Dens W G ds vs → ds[i]? = some d → ∃ v, vs[i]? = some v ∧ Den W G d v
  | _, _, _, _, .nil, e => by simp at e
  | _, _, 0, _, .cons h _, e => by
    simp at e
    subst e
    exact ⟨_, rfl, h⟩
  | _, _, i + 1, _, .cons _ h, e => by
    obtain ⟨v, h1, h2⟩ := Dens.get (i := i) h (by simpa using e)
    exact ⟨v, by simpa using h1, h2⟩
theorem Dens.getV : ∀ {ds : List D} {vs : List V} {i : Nat} {v : V}, Dens W G ds vs → vs[i]? = some v → ∃ d, ds[i]? = some d ∧ Den W G d v
  | _, _, _, _, .nil, e => by simp at e
  | _, _, 0, _, .cons h _, e => by
    simp at e
    subst e
    exact ⟨_, rfl, h⟩
  | _, _, i + 1, _, .cons _ h, e => by
    obtain ⟨v, h1, h2⟩ := Dens.getV (i := i) h (by simpa using e)
    exact ⟨v, by simpa using h1, h2⟩
theorem Dens.app : ∀ {ds es : List D} {vs us : List V}, Dens W G ds vs → Dens W G es us → Dens W G (ds ++ es) (vs ++ us)
  | _, _, _, _, .nil, h => h
  | _, _, _, _, .cons a b, h => .cons a (Dens.app b h)
theorem Dens.snoc (h : Dens W G ds vs) (h1 : Den W G d v) : Dens W G (ds ++ [d]) (vs ++ [v]) := h.app (.cons h1 .nil)
theorem Dens.take : ∀ (n : Nat) {ds : List D} {vs : List V}, Dens W G ds vs → Dens W G (ds.take n) (vs.take n)
  | 0, _, _, _ => .nil
  | _ + 1, _, _, .nil => .nil
  | n + 1, _, _, .cons a b => .cons a (Dens.take n b)
theorem Dens.drop : ∀ (n : Nat) {ds : List D} {vs : List V}, Dens W G ds vs → Dens W G (ds.drop n) (vs.drop n)
  | 0, _, _, h => h
  | _ + 1, _, _, .nil => .nil
  | n + 1, _, _, .cons _ b => Dens.drop n b
theorem Dens.erase : ∀ (n : Nat) {ds : List D} {vs : List V}, Dens W G ds vs → Dens W G (ds.eraseIdx n) (vs.eraseIdx n)
  | _, _, _, .nil => .nil
  | 0, _, _, .cons _ b => b
  | n + 1, _, _, .cons a b => .cons a (Dens.erase n b)
theorem Dens.dropLast : ∀ {ds : List D} {vs : List V}, Dens W G ds vs → Dens W G ds.dropLast vs.dropLast
  | _, _, .nil => .nil
  | _, _, .cons _ .nil => .nil
  | _, _, .cons a (.cons b c) => .cons a (Dens.dropLast (.cons b c))
theorem Dens.ints : ∀ {ns : List Int} {vs : List V}, Dens W G (ns.map D.int) vs → vs = ns.map V.int
  | [], _, h => by
    cases h
    rfl
  | n :: r, _, h => by
    cases h with
    | cons a b =>
      cases a
      rw [Dens.ints b]
      rfl
theorem Dens.strs : ∀ {ns : List Str} {vs : List V}, Dens W G (ns.map D.str) vs → vs = ns.map V.str
  | [], _, h => by
    cases h
    rfl
  | n :: r, _, h => by
    cases h with
    | cons a b =>
      cases a
      rw [Dens.strs b]
      rfl
theorem Dens.bls : ∀ {ns : List Bool} {vs : List V}, Dens W G (ns.map D.bl) vs → vs = ns.map V.bl
  | [], _, h => by
    cases h
    rfl
  | n :: r, _, h => by
    cases h with
    | cons a b =>
      cases a
      rw [Dens.bls b]
      rfl
theorem dens_ints : ∀ (ns : List Int), Dens W G (ns.map D.int) (ns.map V.int)
  | [] => .nil
  | n :: r => .cons (.int n) (dens_ints r)
theorem dens_strs : ∀ (ns : List Str), Dens W G (ns.map D.str) (ns.map V.str)
  | [] => .nil
  | n :: r => .cons (.str n) (dens_strs r)
theorem dens_bls : ∀ (ns : List Bool), Dens W G (ns.map D.bl) (ns.map V.bl)
  | [] => .nil
  | n :: r => .cons (.bl n) (dens_bls r)
end

/-! ### states, steps -/
/-- G: what stands for good, within H; F: what is not the frame's own -/
structure Ok (W : Wd K C Ω) (F : Addr → Prop) (G H : Hp) : Prop where
  gh : Same G H
  iv : W.I H
  gs : ∀ a, W.S a → G a = none
  fd : ∀ a, F a → H a ≠ none
  sf : ∀ a, W.S a → F a
/-- an expression's step: all that stands is kept, but the spring -/
structure Stp (W : Wd K C Ω) (c : Nat) (G H G' H' : Hp) : Prop where
  gg : Same G G'
  gh : Same G' H'
  hh : ∀ a o, H a = some o → ¬ W.S a → H' a = some o
  fr : ∀ a, G' a ≠ none → G a ≠ none ∨ H a = none
  iv : W.I H'
  ct : W.cnt H' ≤ W.cnt H + c
/-- a statement's step: the frame's own may change -/
structure StF (W : Wd K C Ω) (F : Addr → Prop) (c : Nat) (G H G' H' : Hp) : Prop where
  gg : Same G G'
  gh : Same G' H'
  hh : ∀ a o, F a → H a = some o → ¬ W.S a → H' a = some o
  fr : ∀ a, G' a ≠ none → G a ≠ none ∨ ¬ F a
  iv : W.I H'
  ct : W.cnt H' ≤ W.cnt H + c
section
variable {W : Wd K C Ω} {F : Addr → Prop} {c c1 c2 : Nat} {G H G1 H1 G2 H2 : Hp}
theorem Ok.refl (k : Ok W F G H) : Stp W 0 G H G H := ⟨fun _ _ h => h, k.gh, fun _ _ h _ => h, fun _ h => .inl h, k.iv, Nat.le_refl _⟩
theorem Ok.reflF (k : Ok W F G H) : StF W F 0 G H G H := ⟨fun _ _ h => h, k.gh, fun _ _ _ h _ => h, fun _ h => .inl h, k.iv, Nat.le_refl _⟩
theorem Stp.le (s : Stp W c G H G1 H1) (h : c ≤ c1) : Stp W c1 G H G1 H1 := ⟨s.gg, s.gh, s.hh, s.fr, s.iv, Nat.le_trans s.ct (Nat.add_le_add_left h _)⟩
theorem StF.le (s : StF W F c G H G1 H1) (h : c ≤ c1) : StF W F c1 G H G1 H1 := ⟨s.gg, s.gh, s.hh, s.fr, s.iv, Nat.le_trans s.ct (Nat.add_le_add_left h _)⟩
theorem none_of_ne {H : Hp} {a : Addr} (h : ¬ H a ≠ none) : H a = none := Classical.byContradiction h
theorem Stp.dom (s : Stp W c G H G1 H1) {a : Addr} (h : H a ≠ none) : H1 a ≠ none := by
  by_cases hs : W.S a
  · exact W.inn _ _ s.iv hs
  · cases e : H a with
    | none => exact absurd e h
    | some o =>
      rw [s.hh a o e hs]
      intro q
      cases q
theorem Stp.ok (s : Stp W c G H G1 H1) (k : Ok W F G H) : Ok W F G1 H1 where
  gh := s.gh
  iv := s.iv
  gs := fun a hs => Classical.byContradiction fun q => by
    rcases s.fr a q with h | h
    · exact h (k.gs a hs)
    · exact W.inn _ _ k.iv hs h
  fd := fun a hf => s.dom (k.fd a hf)
  sf := k.sf
theorem Stp.trans (s : Stp W c1 G H G1 H1) (t : Stp W c2 G1 H1 G2 H2) : Stp W (c1 + c2) G H G2 H2 where
  gg := fun a o h => t.gg a o (s.gg a o h)
  gh := t.gh
  hh := fun a o h hs => t.hh a o (s.hh a o h hs) hs
  fr := fun a h => by
    rcases t.fr a h with h1 | h1
    · exact s.fr a h1
    · exact .inr (none_of_ne fun q => s.dom q h1)
  iv := t.iv
  ct := by
    have h1 := s.ct
    have h2 := t.ct
    omega
theorem Stp.f (s : Stp W c G H G1 H1) (k : Ok W F G H) : StF W F c G H G1 H1 where
  ct := s.ct
  gg := s.gg
  gh := s.gh
  hh := fun a o _ h hs => s.hh a o h hs
  fr := fun a h => (s.fr a h).imp id fun e q => k.fd a q e
  iv := s.iv
theorem StF.ok (s : StF W F c G H G1 H1) (k : Ok W F G H) : Ok W F G1 H1 where
  gh := s.gh
  iv := s.iv
  gs := fun a hs => Classical.byContradiction fun q => by
    rcases s.fr a q with h | h
    · exact h (k.gs a hs)
    · exact h (k.sf a hs)
  fd := fun a hf => by
    by_cases hs : W.S a
    · exact W.inn _ _ s.iv hs
    · cases e : H a with
      | none => exact absurd e (k.fd a hf)
      | some o =>
        rw [s.hh a o hf e hs]
        intro q
        cases q
  sf := k.sf
theorem StF.trans (s : StF W F c1 G H G1 H1) (t : StF W F c2 G1 H1 G2 H2) : StF W F (c1 + c2) G H G2 H2 where
  gg := fun a o h => t.gg a o (s.gg a o h)
  gh := t.gh
  hh := fun a o hf h hs => t.hh a o hf (s.hh a o hf h hs) hs
  fr := fun a h => by
    rcases t.fr a h with h1 | h1
    · exact s.fr a h1
    · exact .inr h1
  iv := t.iv
  ct := by
    have h1 := s.ct
    have h2 := t.ct
    omega
/-- where all that stands is foreign -/
theorem StF.all (s : StF W (fun a => H a ≠ none) c G H G1 H1) : Stp W c G H G1 H1 where
  ct := s.ct
  gg := s.gg
  gh := s.gh
  hh := fun a o h hs => s.hh a o (by rw [h]; intro q; cases q) h hs
  fr := fun a h => (s.fr a h).imp id none_of_ne
  iv := s.iv
theorem Ok.all (k : Ok W F G H) : Ok W (fun a => H a ≠ none) G H := ⟨k.gh, k.iv, k.gs, fun _ h => h, fun a h => W.inn _ _ k.iv h⟩
/-- a new object that is not for good -/
theorem Ok.own (k : Ok W F G H) {p : Addr} {o : HO} (hp : H p = none) : Stp W 0 G H G (upd H p o) where
  ct := by
    rw [W.cloc H (upd H p o) (fun a u _ h => by
      rw [upd_ne (ne_of_none h hp)]
      exact h) k.iv]
    exact Nat.le_refl _
  gg := fun _ _ h => h
  gh := fun a u h => by
    rw [upd_ne (ne_of_none (k.gh a u h) hp)]
    exact k.gh a u h
  hh := fun a u h _ => by
    rw [upd_ne (ne_of_none h hp)]
    exact h
  fr := fun _ h => .inl h
  iv := W.loc _ _ (fun a u _ h => by
    rw [upd_ne (ne_of_none h hp)]
    exact h) k.iv
/-- a new object for good -/
theorem Ok.new (k : Ok W F G H) {p : Addr} {o : HO} (hp : H p = none) : Stp W 0 G H (upd G p o) (upd H p o) := by
  have gp : G p = none := none_of_ne fun q => by
    cases e : G p with
    | none => exact q e
    | some u =>
      rw [k.gh p u e] at hp
      cases hp
  have s := k.own (o := o) hp
  refine ⟨fun a u h => by rw [upd_ne (ne_of_none h gp)]; exact h, fun a u h => ?_, s.hh, fun a h => ?_, s.iv, s.ct⟩
  · by_cases e : a = p
    · rw [e] at h ⊢
      rw [upd_same] at h ⊢
      exact h
    · rw [upd_ne e] at h ⊢
      exact k.gh a u h
  · by_cases e : a = p
    · rw [e]
      exact .inr hp
    · rw [upd_ne e] at h
      exact .inl h
theorem Ok.gnone (k : Ok W F G H) {p : Addr} (hp : H p = none) : G p = none := none_of_ne fun q => by
  cases e : G p with
  | none => exact q e
  | some u =>
    rw [k.gh p u e] at hp
    cases hp
/-- a thing that was made on the way changes -/
theorem Stp.putN (s : Stp W c G H G1 H1) (k : Ok W F G H) {p : Addr} {o : HO} (hp : H p = none) (gp : G1 p = none) (hx : ∀ φ, H1 p ≠ some (.ext φ)) : Stp W c G H G1 (upd H1 p o) := by
  have nS : ¬ W.S p := fun hS => W.inn _ _ k.iv hS hp
  have up : W.Kp H1 (upd H1 p o) := fun a u zs z => by
    rw [upd_ne (fun (e : a = p) => zs.elim (fun w => nS (e ▸ w)) fun ⟨φ, w⟩ => hx φ (by rw [← e, z, w]))]
    exact z
  refine ⟨s.gg, fun a u z => ?_, fun a u z zs => ?_, s.fr, W.loc _ _ up s.iv, ?_⟩
  · rw [upd_ne (ne_of_none z gp)]
    exact s.gh a u z
  · rw [upd_ne (ne_of_none z hp)]
    exact s.hh a u z zs
  · rw [W.cloc H1 _ up s.iv]
    exact s.ct
/-- the frame's own object is put away for good -/
theorem Ok.keep (k : Ok W F G H) {p : Addr} {o : HO} (hp : H p = some o) (gp : G p = none) (fp : ¬ F p) : StF W F 0 G H (upd G p o) H where
  ct := Nat.le_refl _
  gg := fun a u h => by
    rw [upd_ne (ne_of_none h gp)]
    exact h
  gh := fun a u h => by
    by_cases e : a = p
    · rw [e] at h ⊢
      rw [upd_same] at h
      rw [hp]
      exact h
    · rw [upd_ne e] at h
      exact k.gh a u h
  hh := fun _ _ _ h _ => h
  fr := fun a h => by
    by_cases e : a = p
    · rw [e]
      exact .inr fp
    · rw [upd_ne e] at h
      exact .inl h
  iv := k.iv
/-- the frame's own object changes -/
theorem Ok.put (k : Ok W F G H) {p : Addr} {o : HO} (gp : G p = none) (fp : ¬ F p) (hx : ∀ φ, H p ≠ some (.ext φ)) : StF W F 0 G H G (upd H p o) where
  ct := by
    rw [W.cloc H (upd H p o) (fun a u hs h => by
      rw [upd_ne (fun (e : a = p) => hs.elim (fun w => fp (e ▸ k.sf a w)) fun ⟨φ, w⟩ => hx φ (by rw [← e, h, w]))]
      exact h) k.iv]
    exact Nat.le_refl _
  gg := fun _ _ h => h
  gh := fun a u h => by
    rw [upd_ne (ne_of_none h gp)]
    exact k.gh a u h
  hh := fun a u hf h _ => by
    rw [upd_ne (fun (e : a = p) => fp (e ▸ hf))]
    exact h
  fr := fun _ h => .inl h
  iv := W.loc _ _ (fun a u hs h => by
    rw [upd_ne (fun (e : a = p) => hs.elim (fun w => fp (e ▸ k.sf a w)) fun ⟨φ, w⟩ => hx φ (by rw [← e, h, w]))]
    exact h) k.iv
end

/-! ### slots -/
inductive Sl where
  | un | val (d : D) | oL (xs : List D) | oD (kvs : List (Key × D)) | oI (p : Addr) (fs : List (Str × D))
def Sl.own : Sl → Bool
  | .oL _ => true
  | .oD _ => true
  | .oI _ _ => true
  | _ => false
def SlOk (W : Wd K C Ω) (F : Addr → Prop) (G H : Hp) (o : Option V) : Sl → Prop
  | .un => True
  | .val d => ∃ v, o = some v ∧ Den W G d v
  | .oL xs => ∃ l vs, o = some (.ref l) ∧ H l = some (.lst vs) ∧ G l = none ∧ ¬ F l ∧ Dens W G xs vs
  | .oD ds => ∃ l kvs, o = some (.ref l) ∧ H l = some (.dK kvs) ∧ G l = none ∧ ¬ F l ∧ DenK W G ds kvs
  | .oI p ds => ∃ l dx kvs, o = some (.ref l) ∧ l = p ∧ H l = some (.ins C dx kvs) ∧ G l = none ∧ ¬ F l ∧ DenF W G ds kvs
def at_ (σ : L2.St) (i : Nat) : Option V := (σ[i]?).getD none
theorem at_some {σ : L2.St} {i : Nat} {v : V} (h : at_ σ i = some v) : σ[i]? = some (some v) := by
  unfold at_ at h
  cases e : σ[i]? with
  | none =>
    rw [e] at h
    cases h
  | some o =>
    rw [e] at h
    exact congrArg some h
theorem at_set {σ : L2.St} {i j : Nat} {o : Option V} : at_ (σ.set i o) j = if i = j ∧ j < σ.length then o else at_ σ j := by
  unfold at_
  rw [List.getElem?_set]
  by_cases h : i = j
  · subst h
    by_cases h2 : i < σ.length
    · simp [h2]
    · simp [h2]
  · simp [h]
structure Slots (W : Wd K C Ω) (F : Addr → Prop) (G H : Hp) (σ : L2.St) (δ : List Sl) : Prop where
  len : σ.length = δ.length
  ok : ∀ i s, δ[i]? = some s → SlOk W F G H (at_ σ i) s
  ne : ∀ i j s t l, i ≠ j → δ[i]? = some s → δ[j]? = some t → s.own = true → t.own = true → at_ σ i = some (.ref l) → at_ σ j ≠ some (.ref l)
section
variable {W : Wd K C Ω} {F : Addr → Prop} {c : Nat} {G H G1 H1 G2 H2 : Hp} {σ : L2.St} {δ : List Sl}
theorem SlOk.step {o : Option V} {s : Sl} (k : Ok W F G H) (st : Stp W c G H G1 H1) (h : SlOk W F G H o s) : SlOk W F G1 H1 o s := by
  have kk : ∀ l u, H l = some u → G l = none → ¬ F l → H1 l = some u ∧ G1 l = none := fun l u hl hg hf => by
    refine ⟨st.hh l u hl fun q => hf (k.sf l q), none_of_ne fun q => ?_⟩
    rcases st.fr l q with e | e
    · exact e hg
    · rw [e] at hl
      cases hl
  cases s with
  | un => trivial
  | val d =>
    obtain ⟨v, e, h⟩ := h
    exact ⟨v, e, h.mono st.gg⟩
  | oL xs =>
    obtain ⟨l, vs, e, hl, hg, hf, h⟩ := h
    obtain ⟨a, b⟩ := kk l _ hl hg hf
    exact ⟨l, vs, e, a, b, hf, h.mono st.gg⟩
  | oD xs =>
    obtain ⟨l, vs, e, hl, hg, hf, h⟩ := h
    obtain ⟨a, b⟩ := kk l _ hl hg hf
    exact ⟨l, vs, e, a, b, hf, h.mono st.gg⟩
  | oI p xs =>
    obtain ⟨l, dx, vs, e, ep, hl, hg, hf, h⟩ := h
    obtain ⟨a, b⟩ := kk l _ hl hg hf
    exact ⟨l, dx, vs, e, ep, a, b, hf, h.mono st.gg⟩
theorem Slots.step (L : Slots W F G H σ δ) (k : Ok W F G H) (st : Stp W c G H G1 H1) : Slots W F G1 H1 σ δ := ⟨L.len, fun i s h => (L.ok i s h).step k st, L.ne⟩
theorem Slots.val (L : Slots W F G H σ δ) {i : Nat} {d : D} (h : δ[i]? = some (.val d)) : ∃ v, σ[i]? = some (some v) ∧ Den W G d v := by
  obtain ⟨v, e, h⟩ := L.ok i _ h
  exact ⟨v, at_some e, h⟩
theorem slot_get_set {δ : List Sl} {i j : Nat} {s t : Sl} (h : (δ.set i s)[j]? = some t) : (i = j ∧ j < δ.length ∧ t = s) ∨ (i ≠ j ∧ δ[j]? = some t) := by
  rw [List.getElem?_set] at h
  by_cases e : i = j
  · rw [if_pos e] at h
    by_cases e2 : i < δ.length
    · rw [if_pos e2] at h
      exact .inl ⟨e, e ▸ e2, (Option.some.inj h).symm⟩
    · rw [if_neg e2] at h
      cases h
  · rw [if_neg e] at h
    exact .inr ⟨e, h⟩
/-- a value into a slot -/
theorem Slots.set (L : Slots W F G H σ δ) {i : Nat} {d : D} {v : V} (h : Den W G d v) : Slots W F G H (σ.set i (some v)) (δ.set i (.val d)) where
  len := by rw [List.length_set, List.length_set, L.len]
  ok := fun j s e => by
    rcases slot_get_set e with ⟨rfl, hj, rfl⟩ | ⟨hne, e⟩
    · rw [at_set, if_pos ⟨rfl, by rw [L.len]; exact hj⟩]
      exact ⟨v, rfl, h⟩
    · rw [at_set, if_neg fun q => hne q.1]
      exact L.ok j s e
  ne := fun a b s t l hab ea eb sa sb => by
    rcases slot_get_set ea with ⟨_, _, rfl⟩ | ⟨na, ea⟩
    · cases sa
    · rcases slot_get_set eb with ⟨_, _, rfl⟩ | ⟨nb, eb⟩
      · cases sb
      · rw [at_set, if_neg fun q => na q.1, at_set, if_neg fun q => nb q.1]
        exact L.ne a b s t l hab ea eb sa sb
/-- a slot that is no longer looked at -/
theorem Slots.forget (L : Slots W F G H σ δ) {i : Nat} {o : Option V} : Slots W F G H (σ.set i o) (δ.set i .un) where
  len := by rw [List.length_set, List.length_set, L.len]
  ok := fun j s e => by
    rcases slot_get_set e with ⟨rfl, hj, rfl⟩ | ⟨hne, e⟩
    · trivial
    · rw [at_set, if_neg fun q => hne q.1]
      exact L.ok j s e
  ne := fun a b s t l hab ea eb sa sb => by
    rcases slot_get_set ea with ⟨_, _, rfl⟩ | ⟨na, ea⟩
    · cases sa
    · rcases slot_get_set eb with ⟨_, _, rfl⟩ | ⟨nb, eb⟩
      · cases sb
      · rw [at_set, if_neg fun q => na q.1, at_set, if_neg fun q => nb q.1]
        exact L.ne a b s t l hab ea eb sa sb
theorem Slots.wipe (L : Slots W F G H σ δ) : ∀ vs : List Nat, Slots W F G H (wipe σ vs) (vs.foldr (fun v d => d.set v .un) δ)
  | [] => L
  | v :: vs => (L.wipe vs).forget
/-- a new own list | dict into a slot -/
theorem Slots.setOwn (L : Slots W F G H σ δ) {i : Nat} {s : Sl} {l : Addr} (hs : SlOk W F G H (some (.ref l)) s) (hn : ∀ j t, j ≠ i → δ[j]? = some t → t.own = true → at_ σ j ≠ some (.ref l)) : Slots W F G H (σ.set i (some (.ref l))) (δ.set i s) where
  len := by rw [List.length_set, List.length_set, L.len]
  ok := fun j t e => by
    rcases slot_get_set e with ⟨rfl, hj, rfl⟩ | ⟨hne, e⟩
    · rw [at_set, if_pos ⟨rfl, by rw [L.len]; exact hj⟩]
      exact hs
    · rw [at_set, if_neg fun q => hne q.1]
      exact L.ok j t e
  ne := fun a b sa' sb' m hab ea eb sa sb => by
    rcases slot_get_set ea with ⟨e1, ha, _⟩ | ⟨na, ea⟩
    · rcases slot_get_set eb with ⟨e2, _, _⟩ | ⟨nb, eb⟩
      · exact absurd (e1.symm.trans e2) hab
      · rw [at_set, if_pos ⟨e1, by rw [L.len]; exact ha⟩, at_set, if_neg fun q => nb q.1]
        intro q
        cases q
        exact hn b sb' (fun q => nb q.symm) eb sb
    · rcases slot_get_set eb with ⟨e2, hb, _⟩ | ⟨nb, eb⟩
      · rw [at_set, if_neg fun q => na q.1, at_set, if_pos ⟨e2, by rw [L.len]; exact hb⟩]
        intro q r
        cases r
        exact hn a sa' (fun z => na z.symm) ea sa q
      · rw [at_set, if_neg fun q => na q.1, at_set, if_neg fun q => nb q.1]
        exact L.ne a b sa' sb' m hab ea eb sa sb
theorem Slots.ownAt (L : Slots W F G H σ δ) {j : Nat} {t : Sl} (e : δ[j]? = some t) (h : t.own = true) : ∃ l o, at_ σ j = some (.ref l) ∧ H l = some o ∧ G l = none ∧ ¬ F l := by
  have q := L.ok j t e
  cases t with
  | un => cases h
  | val d => cases h
  | oL xs =>
    obtain ⟨l, vs, e, hl, hg, hf, _⟩ := q
    exact ⟨l, _, e, hl, hg, hf⟩
  | oD xs =>
    obtain ⟨l, vs, e, hl, hg, hf, _⟩ := q
    exact ⟨l, _, e, hl, hg, hf⟩
  | oI p xs =>
    obtain ⟨l, dx, vs, e, _, hl, hg, hf, _⟩ := q
    exact ⟨l, _, e, hl, hg, hf⟩
theorem Slots.fresh (L : Slots W F G H σ δ) {l : Addr} (hl : H l = none) (j : Nat) (t : Sl) (e : δ[j]? = some t) (h : t.own = true) : at_ σ j ≠ some (.ref l) := by
  obtain ⟨m, o, e1, e2, _⟩ := L.ownAt e h
  rw [e1]
  intro q
  cases q
  rw [hl] at e2
  cases e2
/-- the object of an own slot changes -/
theorem Slots.put (L : Slots W F G H σ δ) (k : Ok W F G H) {i : Nat} {s s' : Sl} {l : Addr} {o : HO} (e : δ[i]? = some s) (hs : s.own = true) (el : at_ σ i = some (.ref l)) (hg : G l = none) (hs' : SlOk W F G (upd H l o) (some (.ref l)) s') (hown : s'.own = true) : Slots W F G (upd H l o) σ (δ.set i s') where
  len := by rw [List.length_set, L.len]
  ok := fun j t et => by
    rcases slot_get_set et with ⟨rfl, hj, rfl⟩ | ⟨hne, et⟩
    · rw [el]
      exact hs'
    · have q := L.ok j t et
      cases t with
      | un => trivial
      | val d => exact q
      | oL xs =>
        obtain ⟨m, vs, e1, hm, gm, fm, h⟩ := q
        have nm : m ≠ l := fun z => L.ne i j s (.oL xs) l hne e et hs rfl el (z ▸ e1)
        exact ⟨m, vs, e1, by rw [upd_ne nm]; exact hm, gm, fm, h⟩
      | oD xs =>
        obtain ⟨m, vs, e1, hm, gm, fm, h⟩ := q
        have nm : m ≠ l := fun z => L.ne i j s (.oD xs) l hne e et hs rfl el (z ▸ e1)
        exact ⟨m, vs, e1, by rw [upd_ne nm]; exact hm, gm, fm, h⟩
      | oI p xs =>
        obtain ⟨m, dx, vs, e1, ep, hm, gm, fm, h⟩ := q
        have nm : m ≠ l := fun z => L.ne i j s (.oI p xs) l hne e et hs rfl el (z ▸ e1)
        exact ⟨m, dx, vs, e1, ep, by rw [upd_ne nm]; exact hm, gm, fm, h⟩
  ne := fun a b sa' sb' m hab ea eb sa sb => by
    have fix : ∀ {c : Nat} {t : Sl}, (δ.set i s')[c]? = some t → t.own = true → ∃ t' : Sl, δ[c]? = some t' ∧ t'.own = true := fun {c t} ec ht => by
      rcases slot_get_set ec with ⟨rfl, _, rfl⟩ | ⟨_, ec⟩
      · exact ⟨s, e, hs⟩
      · exact ⟨t, ec, ht⟩
    obtain ⟨ta, ea, sa⟩ := fix ea sa
    obtain ⟨tb, eb, sb⟩ := fix eb sb
    exact L.ne a b ta tb m hab ea eb sa sb
/-- an own list | dict put away for good -/
theorem Slots.keep (L : Slots W F G H σ δ) {i : Nat} {s : Sl} {l : Addr} {o : HO} {d : D} (e : δ[i]? = some s) (hs : s.own = true) (el : at_ σ i = some (.ref l)) (hl : H l = some o) (hg : G l = none) (hd : Den W (upd G l o) d (.ref l)) : Slots W F (upd G l o) H σ (δ.set i (.val d)) where
  len := by rw [List.length_set, L.len]
  ok := fun j t et => by
    have up : Same G (upd G l o) := fun a u h => by
      rw [upd_ne (ne_of_none h hg)]
      exact h
    rcases slot_get_set et with ⟨rfl, hj, rfl⟩ | ⟨hne, et⟩
    · rw [el]
      exact ⟨_, rfl, hd⟩
    · have q := L.ok j t et
      cases t with
      | un => trivial
      | val d' =>
        obtain ⟨v, e1, h⟩ := q
        exact ⟨v, e1, h.mono up⟩
      | oL xs =>
        obtain ⟨m, vs, e1, hm, gm, fm, h⟩ := q
        have nm : m ≠ l := fun z => L.ne i j s (.oL xs) l hne e et hs rfl el (z ▸ e1)
        exact ⟨m, vs, e1, hm, by rw [upd_ne nm]; exact gm, fm, h.mono up⟩
      | oD xs =>
        obtain ⟨m, vs, e1, hm, gm, fm, h⟩ := q
        have nm : m ≠ l := fun z => L.ne i j s (.oD xs) l hne e et hs rfl el (z ▸ e1)
        exact ⟨m, vs, e1, hm, by rw [upd_ne nm]; exact gm, fm, h.mono up⟩
      | oI p xs =>
        obtain ⟨m, dx, vs, e1, ep, hm, gm, fm, h⟩ := q
        have nm : m ≠ l := fun z => L.ne i j s (.oI p xs) l hne e et hs rfl el (z ▸ e1)
        exact ⟨m, dx, vs, e1, ep, hm, by rw [upd_ne nm]; exact gm, fm, h.mono up⟩
  ne := fun a b sa' sb' m hab ea eb sa sb => by
    rcases slot_get_set ea with ⟨_, _, rfl⟩ | ⟨na, ea⟩
    · cases sa
    · rcases slot_get_set eb with ⟨_, _, rfl⟩ | ⟨nb, eb⟩
      · cases sb
      · exact L.ne a b sa' sb' m hab ea eb sa sb
end
end Z
set_option Elab.async false
set_option linter.all false
set_option maxRecDepth 100000
set_option maxHeartbeats 4000000
/-! What expressions, arguments, tests, walks give, as data. -/
namespace Z
open PySem PySem.Spec PyProof.Rows L2
section
variable (K : PySem.W.Frag) (C : Addr) (Ω : List (Addr × Str))
def Ev (c : Nat) (te : TE) (δ : List Sl) (R : D → Prop) : Prop :=
  ∀ (W : Wd K C Ω) (F : Addr → Prop) (G H : Hp) (σ : L2.St), Ok W F G H → Slots W F G H σ δ → W.cnt H + c ≤ most → ∀ Q : VK,
    (∀ v G' H' d, Stp W c G H G' H' → Den W G' d v → R d → Q v H') → te σ H Q
/-- a new list, a new dict of the frame's own -/
def EvL (c : Nat) (te : TE) (δ : List Sl) (R : List D → Prop) : Prop :=
  ∀ (W : Wd K C Ω) (F : Addr → Prop) (G H : Hp) (σ : L2.St), Ok W F G H → Slots W F G H σ δ → W.cnt H + c ≤ most → ∀ Q : VK,
    (∀ p vs G' H' xs, Stp W c G H G' H' → H p = none → G' p = none → H' p = some (.lst vs) → Dens W G' xs vs → R xs → Q (.ref p) H') → te σ H Q
def EvD (c : Nat) (te : TE) (δ : List Sl) (R : List (Key × D) → Prop) : Prop :=
  ∀ (W : Wd K C Ω) (F : Addr → Prop) (G H : Hp) (σ : L2.St), Ok W F G H → Slots W F G H σ δ → W.cnt H + c ≤ most → ∀ Q : VK,
    (∀ p vs G' H' xs, Stp W c G H G' H' → H p = none → G' p = none → H' p = some (.dK vs) → DenK W G' xs vs → R xs → Q (.ref p) H') → te σ H Q
def EvT (c : Nat) (tt : TT) (δ : List Sl) (R : Bool → Prop) : Prop :=
  ∀ (W : Wd K C Ω) (F : Addr → Prop) (G H : Hp) (σ : L2.St), Ok W F G H → Slots W F G H σ δ → W.cnt H + c ≤ most → ∀ Q : Bool → Hp → Prop,
    (∀ b G' H', Stp W c G H G' H' → R b → Q b H') → tt σ H Q
def EvA (c : Nat) (ta : TA) (δ : List Sl) (R : List D → Prop) : Prop :=
  ∀ (W : Wd K C Ω) (F : Addr → Prop) (G H : Hp) (σ : L2.St), Ok W F G H → Slots W F G H σ δ → W.cnt H + c ≤ most → ∀ Q : List V → Hp → Prop,
    (∀ vs G' H' ds, Stp W c G H G' H' → Dens W G' ds vs → R ds → Q vs H') → ta σ H Q
/-- an operation on values; a call on values -/
def RV (r : R2) (a b : D) (R : D → Prop) : Prop :=
  ∀ (W : Wd K C Ω) (F : Addr → Prop) (G H : Hp) (x y : V), Ok W F G H → Den W G a x → Den W G b y → ∀ Q : VK,
    (∀ v G' H' d, Stp W 0 G H G' H' → Den W G' d v → R d → Q v H') → r x y H Q
def RC (r : List V → Hp → VK → Prop) (ds : List D) (R : D → Prop) : Prop :=
  ∀ (W : Wd K C Ω) (F : Addr → Prop) (G H : Hp) (vs : List V), Ok W F G H → Dens W G ds vs → ∀ Q : VK,
    (∀ v G' H' d, Stp W 0 G H G' H' → Den W G' d v → R d → Q v H') → r vs H Q
def RCL (r : List V → Hp → VK → Prop) (ds : List D) (R : List D → Prop) : Prop :=
  ∀ (W : Wd K C Ω) (F : Addr → Prop) (G H : Hp) (vs : List V), Ok W F G H → Dens W G ds vs → ∀ Q : VK,
    (∀ p vs' G' H' xs, Stp W 0 G H G' H' → H p = none → G' p = none → H' p = some (.lst vs') → Dens W G' xs vs' → R xs → Q (.ref p) H') → r vs H Q
def RCD (r : List V → Hp → VK → Prop) (ds : List D) (R : List (Key × D) → Prop) : Prop :=
  ∀ (W : Wd K C Ω) (F : Addr → Prop) (G H : Hp) (vs : List V), Ok W F G H → Dens W G ds vs → ∀ Q : VK,
    (∀ p vs' G' H' xs, Stp W 0 G H G' H' → H p = none → G' p = none → H' p = some (.dK vs') → DenK W G' xs vs' → R xs → Q (.ref p) H') → r vs H Q
end
variable {K : PySem.W.Frag} {C : Addr} {Ω : List (Addr × Str)} {c c1 c2 c3 : Nat} {ta tb te : TE} {t u : TT} {δ : List Sl} {Ra Rb R R' : D → Prop} {a b d : D}

theorem Ev.imp (h : Ev K C Ω c te δ R) (k : ∀ d, R d → R' d) : Ev K C Ω c te δ R' := fun W F G H σ o s m Q q => h W F G H σ o s m Q fun v G' H' d st hd r => q v G' H' d st hd (k d r)
theorem EvL.imp {R R' : List D → Prop} (h : EvL K C Ω c te δ R) (k : ∀ d, R d → R' d) : EvL K C Ω c te δ R' := fun W F G H σ o s m Q q => h W F G H σ o s m Q fun p vs G' H' xs st hp gp e hd r => q p vs G' H' xs st hp gp e hd (k _ r)
theorem EvD.imp {R R' : List (Key × D) → Prop} (h : EvD K C Ω c te δ R) (k : ∀ d, R d → R' d) : EvD K C Ω c te δ R' := fun W F G H σ o s m Q q => h W F G H σ o s m Q fun p vs G' H' xs st hp gp e hd r => q p vs G' H' xs st hp gp e hd (k _ r)
theorem EvT.imp {R R' : Bool → Prop} (h : EvT K C Ω c t δ R) (k : ∀ d, R d → R' d) : EvT K C Ω c t δ R' := fun W F G H σ o s m Q q => h W F G H σ o s m Q fun v G' H' st r => q v G' H' st (k _ r)
theorem EvA.imp {ta : TA} {R R' : List D → Prop} (h : EvA K C Ω c ta δ R) (k : ∀ d, R d → R' d) : EvA K C Ω c ta δ R' := fun W F G H σ o s m Q q => h W F G H σ o s m Q fun vs G' H' ds st hd r => q vs G' H' ds st hd (k _ r)
theorem Ev.le (h : Ev K C Ω c1 te δ R) (k : c1 ≤ c) : Ev K C Ω c te δ R := fun W F G H σ o s m Q q => h W F G H σ o s (by omega) Q fun v G' H' d st hd r => q v G' H' d (st.le k) hd r
theorem EvL.le {R : List D → Prop} (h : EvL K C Ω c1 te δ R) (k : c1 ≤ c) : EvL K C Ω c te δ R := fun W F G H σ o s m Q q => h W F G H σ o s (by omega) Q fun p vs G' H' xs st hp gp e hd r => q p vs G' H' xs (st.le k) hp gp e hd r
theorem EvT.le {R : Bool → Prop} (h : EvT K C Ω c1 t δ R) (k : c1 ≤ c) : EvT K C Ω c t δ R := fun W F G H σ o s m Q q => h W F G H σ o s (by omega) Q fun v G' H' st r => q v G' H' (st.le k) r

/-! ### names, constants -/
theorem ev_var {i : Nat} (h : δ[i]? = some (.val d)) : Ev K C Ω 0 (tVar i) δ (· = d) := fun W F G H σ o s m Q q => by
  obtain ⟨v, e, hd⟩ := s.val h
  exact ⟨v, e, q v G H d o.refl hd rfl⟩
theorem ev_non : Ev K C Ω 0 (tC .non) δ (· = .non) := fun W F G H σ o s m Q q => q _ G H _ o.refl .non rfl
theorem ev_bl {x : Bool} : Ev K C Ω 0 (tC (.bl x)) δ (· = .bl x) := fun W F G H σ o s m Q q => q _ G H _ o.refl (.bl x) rfl
theorem ev_int {x : Int} : Ev K C Ω 0 (tC (.int x)) δ (· = .int x) := fun W F G H σ o s m Q q => q _ G H _ o.refl (.int x) rfl
theorem ev_str {x : Str} : Ev K C Ω 0 (tC (.str x)) δ (· = .str x) := fun W F G H σ o s m Q q => q _ G H _ o.refl (.str x) rfl

/-- a new list put away -/
theorem ev_of_l {R : List D → Prop} (h : EvL K C Ω c te δ R) : Ev K C Ω c te δ (fun d => ∃ xs, d = .lst xs ∧ R xs) := fun W F G H σ o s m Q q =>
  h W F G H σ o s m Q fun p vs G' H' xs st hp gp e hd r => by
    have up : Same G' (upd G' p (.lst vs)) := fun a u z => by
      rw [upd_ne (ne_of_none z gp)]
      exact z
    refine q (.ref p) (upd G' p (.lst vs)) H' (.lst xs) ⟨fun a u z => up a u (st.gg a u z), fun a u z => ?_, st.hh, fun a z => ?_, st.iv, st.ct⟩ (.lst upd_same (hd.mono up)) ⟨xs, rfl, r⟩
    · by_cases ea : a = p
      · rw [ea] at z ⊢
        rw [upd_same] at z
        rw [e]
        exact z
      · rw [upd_ne ea] at z
        exact st.gh a u z
    · by_cases ea : a = p
      · rw [ea]
        exact .inr hp
      · rw [upd_ne ea] at z
        exact st.fr a z
theorem ev_l {xs : List D} (h : EvL K C Ω c te δ (· = xs)) : Ev K C Ω c te δ (· = .lst xs) := (ev_of_l h).imp fun d ⟨ys, e, r⟩ => by rw [e, r]
theorem ev_of_d {R : List (Key × D) → Prop} (h : EvD K C Ω c te δ R) : Ev K C Ω c te δ (fun d => ∃ xs, d = .dic xs ∧ R xs) := fun W F G H σ o s m Q q =>
  h W F G H σ o s m Q fun p vs G' H' xs st hp gp e hd r => by
    have up : Same G' (upd G' p (.dK vs)) := fun a u z => by
      rw [upd_ne (ne_of_none z gp)]
      exact z
    refine q (.ref p) (upd G' p (.dK vs)) H' (.dic xs) ⟨fun a u z => up a u (st.gg a u z), fun a u z => ?_, st.hh, fun a z => ?_, st.iv, st.ct⟩ (.dic (.inl upd_same) (hd.mono up)) ⟨xs, rfl, r⟩
    · by_cases ea : a = p
      · rw [ea] at z ⊢
        rw [upd_same] at z
        rw [e]
        exact z
      · rw [upd_ne ea] at z
        exact st.gh a u z
    · by_cases ea : a = p
      · rw [ea]
        exact .inr hp
      · rw [upd_ne ea] at z
        exact st.fr a z
theorem ev_d {xs : List (Key × D)} (h : EvD K C Ω c te δ (· = xs)) : Ev K C Ω c te δ (· = .dic xs) := (ev_of_d h).imp fun d ⟨ys, e, r⟩ => by rw [e, r]

/-! ### operators -/
theorem cost1 {W : Wd K C Ω} {G H G1 H1 : Hp} {m : Nat} (st : Stp W c1 G H G1 H1) (h : W.cnt H + (c1 + c2) ≤ m) : W.cnt H1 + c2 ≤ m := by
  have := st.ct
  omega
theorem ev_op {r : R2} (ha : Ev K C Ω c1 ta δ Ra) (hb : Ev K C Ω c2 tb δ Rb) (hr : ∀ a b, Ra a → Rb b → RV K C Ω r a b R) : Ev K C Ω (c1 + c2) (tOp r ta tb) δ R := fun W F G H σ o s m Q q =>
  ha W F G H σ o s (by omega) _ fun x G1 H1 a st1 da ra =>
    hb W F G1 H1 σ (st1.ok o) (s.step o st1) (cost1 st1 m) _ fun y G2 H2 b st2 db rb =>
      hr a b ra rb W F G2 H2 x y (st2.ok (st1.ok o)) (da.mono st2.gg) db Q fun v G3 H3 d st3 dd rd => q v G3 H3 d ((st1.trans st2).trans st3) dd rd
theorem ev_op1 {r : R2} (ha : Ev K C Ω c1 ta δ (· = a)) (hb : Ev K C Ω c2 tb δ (· = b)) (hr : RV K C Ω r a b R) : Ev K C Ω (c1 + c2) (tOp r ta tb) δ R :=
  ev_op ha hb fun x y ex ey => by
    rw [ex, ey]
    exact hr
theorem ev_un {r : V → Hp → VK → Prop} {g : Int → V} {i : Int} (ha : Ev K C Ω c1 ta δ (· = .int i)) (hg : ∃ j, g i = .int j ∧ R (.int j)) : Ev K C Ω c1 (tUn (rU g) ta) δ R := fun W F G H σ o s m Q q =>
  ha W F G H σ o s m _ fun x G1 H1 a st1 da ra => by
    subst ra
    cases da
    obtain ⟨j, e, hR⟩ := hg
    refine ⟨i, rfl, ?_⟩
    rw [e]
    exact q _ G1 H1 _ st1 (.int j) hR
theorem rv_I0 {g : Int → Int → V} {i j : Int} {d : D} (hd : ∀ (W : Wd K C Ω) G, Den W G d (g i j)) (hR : R d) : RV K C Ω (rI0 g) (.int i) (.int j) R := fun W F G H x y o da db Q q => by
  cases da
  cases db
  exact ⟨i, j, rfl, rfl, q _ G H d o.refl (hd W G) hR⟩
theorem rv_I {P : Int → Int → Prop} {g : Int → Int → V} {i j : Int} {d : D} (hc : P i j) (hd : ∀ (W : Wd K C Ω) G, Den W G d (g i j)) (hR : R d) : RV K C Ω (rI P g) (.int i) (.int j) R := fun W F G H x y o da db Q q => by
  cases da
  cases db
  exact ⟨i, j, rfl, rfl, hc, q _ G H d o.refl (hd W G) hR⟩
theorem rv_int {g : Int → Int → Int} {i j : Int} : RV K C Ω (rI0 fun i j => .int (g i j)) (.int i) (.int j) (· = .int (g i j)) := rv_I0 (d := .int (g i j)) (fun W G => .int _) rfl
theorem rv_intC {P : Int → Int → Prop} {g : Int → Int → Int} {i j : Int} (hc : P i j) : RV K C Ω (rI P fun i j => .int (g i j)) (.int i) (.int j) (· = .int (g i j)) := rv_I (d := .int (g i j)) hc (fun W G => .int _) rfl
theorem rv_bl {g : Int → Int → Bool} {i j : Int} : RV K C Ω (rI0 fun i j => .bl (g i j)) (.int i) (.int j) (· = .bl (g i j)) := rv_I0 (d := .bl (g i j)) (fun W G => .bl _) rfl
/-- scalars: what == says -/
def scalD : D → Option V
  | .non => some .non
  | .bl b => some (.bl b)
  | .int i => some (.int i)
  | .str x => some (.str x)
  | _ => none
theorem Den.scal {W : Wd K C Ω} {G : Hp} {v w : V} (h : Den W G d v) (e : scalD d = some w) : v = w := by
  cases h <;> first | exact Option.some.inj e | cases e
theorem rv_eq {x y : V} (ha : scalD a = some x) (hb : scalD b = some y) (hs : scal x y = true) : RV K C Ω rEq a b (· = .bl (decide (x = y))) := fun W F G H v w o da db Q q => by
  rw [da.scal ha, db.scal hb]
  exact ⟨hs, q _ G H _ o.refl (.bl _) rfl⟩
theorem rv_ne {x y : V} (ha : scalD a = some x) (hb : scalD b = some y) (hs : scal x y = true) : RV K C Ω rNe a b (· = .bl (!decide (x = y))) := fun W F G H v w o da db Q q => by
  rw [da.scal ha, db.scal hb]
  exact ⟨hs, q _ G H _ o.refl (.bl _) rfl⟩
theorem rv_isN : RV K C Ω (fun x y H Q => y = .non ∧ Q (.bl (decide (x = .non))) H) a .non (fun d => ∃ k, d = .bl k ∧ (k = true ↔ a = .non)) := fun W F G H v w o da db Q q => by
  cases db
  refine ⟨rfl, q _ G H _ o.refl (.bl _) ⟨_, rfl, ?_⟩⟩
  cases da <;> simp
theorem rv_notN : RV K C Ω (fun x y H Q => y = .non ∧ Q (.bl (!decide (x = .non))) H) a .non (fun d => ∃ k, d = .bl k ∧ (k = true ↔ a ≠ .non)) := fun W F G H v w o da db Q q => by
  cases db
  refine ⟨rfl, q _ G H _ o.refl (.bl _) ⟨_, rfl, ?_⟩⟩
  cases da <;> simp

/-! ### tests -/
theorem et_of {RT : Bool → Prop} (h : Ev K C Ω c te δ (fun d => ∃ k, d = .bl k ∧ RT k)) : EvT K C Ω c (tTest te) δ RT := fun W F G H σ o s m Q q =>
  h W F G H σ o s m _ fun v G1 H1 d st dd ⟨k, e, hk⟩ => by
    subst e
    cases dd
    exact ⟨k, rfl, q k G1 H1 st hk⟩
theorem et_ofB {RT : Bool → Prop} (h : Ev K C Ω c te δ (fun d => ∃ k, d = .bl k ∧ RT k)) : EvT K C Ω c (tB te) δ RT := fun W F G H σ o s m Q q =>
  h W F G H σ o s m _ fun v G1 H1 d st dd ⟨k, e, hk⟩ => by
    subst e
    cases dd
    exact ⟨k, rfl, q k G1 H1 st hk⟩
theorem et1 {k : Bool} (h : Ev K C Ω c te δ (· = .bl k)) : EvT K C Ω c (tTest te) δ (· = k) := et_of (h.imp fun d e => ⟨k, e, rfl⟩)
theorem et1B {k : Bool} (h : Ev K C Ω c te δ (· = .bl k)) : EvT K C Ω c (tB te) δ (· = k) := et_ofB (h.imp fun d e => ⟨k, e, rfl⟩)
theorem et_yes : EvT K C Ω 0 tYes δ (· = true) := fun W F G H σ o s m Q q => q true G H o.refl rfl
theorem et_not {RT : Bool → Prop} (h : EvT K C Ω c t δ fun k => RT (!k)) : EvT K C Ω c (tNot t) δ RT := fun W F G H σ o s m Q q => h W F G H σ o s m _ fun k G1 H1 st hk => q (!k) G1 H1 st hk
theorem et_and {RT RU : Bool → Prop} (h1 : EvT K C Ω c1 t δ RT) (h2 : RT true → EvT K C Ω c2 u δ RU) (h3 : RT false → RU false) : EvT K C Ω (c1 + c2) (tAnd t u) δ RU := fun W F G H σ o s m Q q =>
  h1 W F G H σ o s (by omega) _ fun k G1 H1 st hk => by
    cases k with
    | true => exact h2 hk W F G1 H1 σ (st.ok o) (s.step o st) (cost1 st m) Q fun k2 G2 H2 st2 hk2 => q k2 G2 H2 (st.trans st2) hk2
    | false => exact q false G1 H1 (st.le (Nat.le_add_right _ _)) (h3 hk)
theorem et_or {RT RU : Bool → Prop} (h1 : EvT K C Ω c1 t δ RT) (h2 : RT false → EvT K C Ω c2 u δ RU) (h3 : RT true → RU true) : EvT K C Ω (c1 + c2) (tOr t u) δ RU := fun W F G H σ o s m Q q =>
  h1 W F G H σ o s (by omega) _ fun k G1 H1 st hk => by
    cases k with
    | true => exact q true G1 H1 (st.le (Nat.le_add_right _ _)) (h3 hk)
    | false => exact h2 hk W F G1 H1 σ (st.ok o) (s.step o st) (cost1 st m) Q fun k2 G2 H2 st2 hk2 => q k2 G2 H2 (st.trans st2) hk2
/-- and, or, not as values -/
theorem ev_and {RT RU : Bool → Prop} (h1 : Ev K C Ω c1 ta δ fun d => ∃ k, d = .bl k ∧ RT k) (h2 : RT true → Ev K C Ω c2 tb δ fun d => ∃ k, d = .bl k ∧ RU k) (h3 : RT false → RU false) : Ev K C Ω (c1 + c2) (tAndV ta tb) δ fun d => ∃ k, d = .bl k ∧ RU k := fun W F G H σ o s m Q q =>
  h1 W F G H σ o s (by omega) _ fun v G1 H1 d st dd ⟨k, e, hk⟩ => by
    subst e
    cases dd
    refine ⟨k, rfl, ?_⟩
    cases k with
    | true => exact h2 hk W F G1 H1 σ (st.ok o) (s.step o st) (cost1 st m) Q fun v2 G2 H2 d2 st2 dd2 hk2 => q v2 G2 H2 d2 (st.trans st2) dd2 hk2
    | false => exact q _ G1 H1 _ (st.le (Nat.le_add_right _ _)) (.bl false) ⟨false, rfl, h3 hk⟩
theorem ev_or {RT RU : Bool → Prop} (h1 : Ev K C Ω c1 ta δ fun d => ∃ k, d = .bl k ∧ RT k) (h2 : RT false → Ev K C Ω c2 tb δ fun d => ∃ k, d = .bl k ∧ RU k) (h3 : RT true → RU true) : Ev K C Ω (c1 + c2) (tOrV ta tb) δ fun d => ∃ k, d = .bl k ∧ RU k := fun W F G H σ o s m Q q =>
  h1 W F G H σ o s (by omega) _ fun v G1 H1 d st dd ⟨k, e, hk⟩ => by
    subst e
    cases dd
    refine ⟨k, rfl, ?_⟩
    cases k with
    | true => exact q _ G1 H1 _ (st.le (Nat.le_add_right _ _)) (.bl true) ⟨true, rfl, h3 hk⟩
    | false => exact h2 hk W F G1 H1 σ (st.ok o) (s.step o st) (cost1 st m) Q fun v2 G2 H2 d2 st2 dd2 hk2 => q v2 G2 H2 d2 (st.trans st2) dd2 hk2
theorem ev_not {RT : Bool → Prop} (h : Ev K C Ω c ta δ fun d => ∃ k, d = .bl k ∧ RT (!k)) : Ev K C Ω c (tNotV ta) δ fun d => ∃ k, d = .bl k ∧ RT k := fun W F G H σ o s m Q q =>
  h W F G H σ o s m _ fun v G1 H1 d st dd ⟨k, e, hk⟩ => by
    subst e
    cases dd
    exact ⟨k, rfl, q _ G1 H1 _ st (.bl (!k)) ⟨!k, rfl, hk⟩⟩
theorem ev_if {RT : Bool → Prop} (h : EvT K C Ω c1 t δ RT) (h1 : RT true → Ev K C Ω c2 ta δ R) (h2 : RT false → Ev K C Ω c3 tb δ R) : Ev K C Ω (c1 + (c2 + c3)) (tIf t ta tb) δ R := fun W F G H σ o s m Q q =>
  h W F G H σ o s (by omega) _ fun k G1 H1 st hk => by
    have hc := st.ct
    cases k with
    | true =>
      show ta σ H1 Q
      exact h1 hk W F G1 H1 σ (st.ok o) (s.step o st) (by omega) Q fun v2 G2 H2 d2 st2 dd2 hk2 => q v2 G2 H2 d2 ((st.trans st2).le (by omega)) dd2 hk2
    | false =>
      show tb σ H1 Q
      exact h2 hk W F G1 H1 σ (st.ok o) (s.step o st) (by omega) Q fun v2 G2 H2 d2 st2 dd2 hk2 => q v2 G2 H2 d2 ((st.trans st2).le (by omega)) dd2 hk2

/-! ### arguments, displays, calls -/
theorem ea_nil : EvA K C Ω 0 tNil δ (· = []) := fun W F G H σ o s m Q q => q [] G H [] o.refl .nil rfl
theorem ea_cons {tr : TA} {Rs S : List D → Prop} (h : Ev K C Ω c1 ta δ Ra) (hr : EvA K C Ω c2 tr δ Rs) (k : ∀ d ds, Ra d → Rs ds → S (d :: ds)) : EvA K C Ω (c1 + c2) (tCons ta tr) δ S := fun W F G H σ o s m Q q =>
  h W F G H σ o s (by omega) _ fun v G1 H1 d st dd rd =>
    hr W F G1 H1 σ (st.ok o) (s.step o st) (cost1 st m) _ fun vs G2 H2 ds st2 dds rds => q (v :: vs) G2 H2 (d :: ds) (st.trans st2) (.cons (dd.mono st2.gg) dds) (k d ds rd rds)
theorem ea1 {tr : TA} {ds : List D} (h : Ev K C Ω c1 ta δ (· = d)) (hr : EvA K C Ω c2 tr δ (· = ds)) : EvA K C Ω (c1 + c2) (tCons ta tr) δ (· = d :: ds) := ea_cons h hr fun x xs e es => by rw [e, es]
theorem ev_tup {tt : TA} {Rs : List D → Prop} (h : EvA K C Ω c tt δ Rs) (hl : ∀ ds, Rs ds → ds.length ≤ sizeLine) : Ev K C Ω c (tTup tt) δ (fun d => ∃ ds, d = .tup ds ∧ Rs ds) := fun W F G H σ o s m Q q =>
  h W F G H σ o s m _ fun vs G1 H1 ds st dds rds => by
    refine ⟨by rw [← dds.len]; exact hl ds rds, fun p hp => ?_⟩
    have st2 := (st.ok o).new (o := .tup vs) hp
    exact q (.ref p) _ _ (.tup ds) (by have := st.trans st2; exact this) (.tup (.inl (.inl upd_same)) (dds.mono st2.gg)) ⟨ds, rfl, rds⟩
theorem ev_tup1 {tt : TA} {ds : List D} (h : EvA K C Ω c tt δ (· = ds)) (hl : ds.length ≤ sizeLine) : Ev K C Ω c (tTup tt) δ (· = .tup ds) := (ev_tup h (fun _ e => by rw [e]; exact hl)).imp fun d ⟨es, e, r⟩ => by rw [e, r]
theorem el_lst {tt : TA} {Rs : List D → Prop} (h : EvA K C Ω c tt δ Rs) (hl : ∀ ds, Rs ds → ds.length ≤ sizeLine) : EvL K C Ω c (tLst tt) δ Rs := fun W F G H σ o s m Q q =>
  h W F G H σ o s m _ fun vs G1 H1 ds st dds rds => by
    refine ⟨by rw [← dds.len]; exact hl ds rds, fun p hp => ?_⟩
    have st2 := (st.ok o).own (o := .lst vs) hp
    exact q p vs G1 _ ds (by have := st.trans st2; exact this) (none_of_ne fun z => st.dom z hp) ((st.ok o).gnone hp) upd_same dds rds
theorem ev_cb {tt : TA} {r : List V → Hp → VK → Prop} {Rs : List D → Prop} (h : EvA K C Ω c tt δ Rs) (hr : ∀ ds, Rs ds → RC K C Ω r ds R) : Ev K C Ω c (tCB r tt) δ R := fun W F G H σ o s m Q q =>
  h W F G H σ o s m _ fun vs G1 H1 ds st dds rds => hr ds rds W F G1 H1 vs (st.ok o) dds Q fun v G2 H2 d st2 dd rd => q v G2 H2 d (by have := st.trans st2; exact this) dd rd
theorem el_cb {tt : TA} {r : List V → Hp → VK → Prop} {Rs S : List D → Prop} (h : EvA K C Ω c tt δ Rs) (hr : ∀ ds, Rs ds → RCL K C Ω r ds S) : EvL K C Ω c (tCB r tt) δ S := fun W F G H σ o s m Q q =>
  h W F G H σ o s m _ fun vs G1 H1 ds st dds rds => hr ds rds W F G1 H1 vs (st.ok o) dds Q fun p us G2 H2 xs st2 hp gp e hx rx => q p us G2 H2 xs (by have := st.trans st2; exact this) (none_of_ne fun z => st.dom z hp) gp e hx rx
theorem ed_cb {tt : TA} {r : List V → Hp → VK → Prop} {Rs : List D → Prop} {S : List (Key × D) → Prop} (h : EvA K C Ω c tt δ Rs) (hr : ∀ ds, Rs ds → RCD K C Ω r ds S) : EvD K C Ω c (tCB r tt) δ S := fun W F G H σ o s m Q q =>
  h W F G H σ o s m _ fun vs G1 H1 ds st dds rds => hr ds rds W F G1 H1 vs (st.ok o) dds Q fun p us G2 H2 xs st2 hp gp e hx rx => q p us G2 H2 xs (by have := st.trans st2; exact this) (none_of_ne fun z => st.dom z hp) gp e hx rx

/-! ### promises -/
/-- a def as data: where P holds of the arguments, it hands back what R says, with at most c draws -/
def SpD (K : PySem.W.Frag) (C : Addr) (Ω : List (Addr × Str)) (c : Nat) (P : List D → Prop) (R : List D → D → Prop) : Sp := fun vs H Q _ =>
  ∃ (W : Wd K C Ω) (F : Addr → Prop) (G : Hp) (ds : List D), Ok W F G H ∧ Dens W G ds vs ∧ P ds ∧ W.cnt H + c ≤ most ∧ ∀ v G' H' d, Stp W c G H G' H' → Den W G' d v → R ds d → Q v H'
theorem ev_call {tt : TA} {P : List D → Prop} {R : List D → D → Prop} {Rs : List D → Prop} {E : XK} (h : EvA K C Ω c1 tt δ Rs) (hp : ∀ ds, Rs ds → P ds) : Ev K C Ω (c1 + c2) (tCall (SpD K C Ω c2 P R) [] E tt) δ (fun d => ∃ ds, Rs ds ∧ R ds d) := fun W F G H σ o s m Q q =>
  h W F G H σ o s (by omega) _ fun vs G1 H1 ds st dds rds => by
    show SpD K C Ω c2 P R (vs ++ []) H1 Q E
    rw [List.append_nil]
    exact ⟨W, F, G1, ds, st.ok o, dds, hp ds rds, cost1 st m, fun v G2 H2 d st2 dd rd => q v G2 H2 d (st.trans st2) dd ⟨ds, rds, rd⟩⟩
theorem ev_call1 {tt : TA} {P : List D → Prop} {R : List D → D → Prop} {ds : List D} {E : XK} (h : EvA K C Ω c1 tt δ (· = ds)) (hp : P ds) : Ev K C Ω (c1 + c2) (tCall (SpD K C Ω c2 P R) [] E tt) δ (R ds) :=
  (ev_call h fun es e => by rw [e]; exact hp).imp fun d ⟨es, e, r⟩ => by rw [← e]; exact r
end Z
set_option Elab.async false
set_option linter.all false
set_option maxRecDepth 100000
set_option maxHeartbeats 4000000
/-! Runs of statements, from slots to slots; loops; comprehensions. -/
namespace Z
open PySem PySem.Spec PyProof.Rows L2
section
variable (K : PySem.W.Frag) (C : Addr) (Ω : List (Addr × Str))
inductive Out where
  | nx (δ : List Sl) | rt (d : D) | bk (δ : List Sl) | ct (δ : List Sl)
def Run (c : Nat) (ts : TS) (δ : List Sl) (O : Out → Prop) : Prop :=
  ∀ (W : Wd K C Ω) (F : Addr → Prop) (G H : Hp) (σ : L2.St), Ok W F G H → Slots W F G H σ δ → W.cnt H + c ≤ most → ∀ Z : Ends,
    (∀ δ' σ' G' H', O (.nx δ') → StF W F c G H G' H' → Slots W F G' H' σ' δ' → Z.nx σ' H') →
    (∀ d v G' H', O (.rt d) → StF W F c G H G' H' → Den W G' d v → Z.rt v H') →
    (∀ δ' σ' G' H', O (.bk δ') → StF W F c G H G' H' → Slots W F G' H' σ' δ' → Z.bk σ' H') →
    (∀ δ' σ' G' H', O (.ct δ') → StF W F c G H G' H' → Slots W F G' H' σ' δ' → Z.ct σ' H') → ts Z σ H
/-- what a walk goes through -/
def Yields (W : Wd K C Ω) (G : Hp) (J : It) (xs : List D) : Prop := ∀ (F : Addr → Prop) (G2 H2 : Hp), Same G G2 → Ok W F G2 H2 → ∀ i,
  (∀ d, xs[i]? = some d → J.go i H2 ∧ ∀ x H3, J.yld i H2 x H3 → ∃ G3, Den W G3 d x ∧ Stp W 0 G2 H2 G3 H3) ∧ (xs.length ≤ i → J.stop i H2)
def IterR (c : Nat) (wi : TI) (δ : List Sl) (R : List D → Prop) : Prop :=
  ∀ (W : Wd K C Ω) (F : Addr → Prop) (G H : Hp) (σ : L2.St), Ok W F G H → Slots W F G H σ δ → W.cnt H + c ≤ most → ∀ Q : It → Hp → Prop,
    (∀ J G' H' xs, Stp W c G H G' H' → Yields K C Ω W G' J xs → R xs → Q J H') → wi σ H Q
/-- a target takes a thing; vs: the slots that it may write -/
def TgR (g : TG) (vs : List Nat) (d : D) (δ δ' : List Sl) : Prop :=
  ∀ (W : Wd K C Ω) (F : Addr → Prop) (G H : Hp) (σ : L2.St) (v : V), Ok W F G H → Slots W F G H σ δ → Den W G d v → ∀ Q : L2.St → Hp → Prop,
    (∀ σ', Slots W F G H σ' δ' → wipe σ' vs = wipe σ vs → Q σ' H) → g v σ H Q
end
variable {K : PySem.W.Frag} {C : Addr} {Ω : List (Addr × Str)} {c c1 c2 c3 : Nat} {ta tb te : TE} {t u : TT} {ts tu tz : TS} {δ δ' : List Sl} {R R' : D → Prop} {a b d : D} {O O' : Out → Prop}

theorem Run.imp (h : Run K C Ω c ts δ O) (k : ∀ o, O o → O' o) : Run K C Ω c ts δ O' := fun W F G H σ o s m Z n r b e =>
  h W F G H σ o s m Z (fun δ' σ' G' H' q => n δ' σ' G' H' (k _ q)) (fun d v G' H' q => r d v G' H' (k _ q)) (fun δ' σ' G' H' q => b δ' σ' G' H' (k _ q)) (fun δ' σ' G' H' q => e δ' σ' G' H' (k _ q))
theorem Run.le (h : Run K C Ω c1 ts δ O) (k : c1 ≤ c) : Run K C Ω c ts δ O := fun W F G H σ o s m Z n r b e =>
  h W F G H σ o s (by omega) Z (fun δ' σ' G' H' q st => n δ' σ' G' H' q (st.le k)) (fun d v G' H' q st => r d v G' H' q (st.le k)) (fun δ' σ' G' H' q st => b δ' σ' G' H' q (st.le k)) (fun δ' σ' G' H' q st => e δ' σ' G' H' q (st.le k))
/-- the ways out of a row's first statement, N behind it -/
def thenO (N : List Sl → Prop) (O : Out → Prop) : Out → Prop
  | .nx δ => N δ
  | .rt d => O (.rt d)
  | .bk δ => O (.bk δ)
  | .ct δ => O (.ct δ)
theorem costF {W : Wd K C Ω} {F : Addr → Prop} {G H G1 H1 : Hp} {m : Nat} (st : StF W F c1 G H G1 H1) (h : W.cnt H + (c1 + c2) ≤ m) : W.cnt H1 + c2 ≤ m := by
  have := st.ct
  omega
theorem run_seq {N : List Sl → Prop} (h1 : Run K C Ω c1 ts δ (thenO N O)) (h2 : ∀ δ', N δ' → Run K C Ω c2 tu δ' O) : Run K C Ω (c1 + c2) (tSeq ts tu) δ O := fun W F G H σ o s m Z n r b e =>
  h1 W F G H σ o s (by omega) { Z with nx := tu Z }
    (fun δ' σ' G' H' q st s' => h2 δ' q W F G' H' σ' (st.ok o) s' (costF st m) Z (fun δ2 σ2 G2 H2 q2 st2 => n δ2 σ2 G2 H2 q2 (st.trans st2)) (fun d v G2 H2 q2 st2 => r d v G2 H2 q2 (st.trans st2))
      (fun δ2 σ2 G2 H2 q2 st2 => b δ2 σ2 G2 H2 q2 (st.trans st2)) (fun δ2 σ2 G2 H2 q2 st2 => e δ2 σ2 G2 H2 q2 (st.trans st2)))
    (fun d v G' H' q st => r d v G' H' q (st.le (Nat.le_add_right _ _))) (fun δ' σ' G' H' q st => b δ' σ' G' H' q (st.le (Nat.le_add_right _ _))) (fun δ' σ' G' H' q st => e δ' σ' G' H' q (st.le (Nat.le_add_right _ _)))
theorem run_next (h : O (.nx δ)) : Run K C Ω 0 tNext δ O := fun W F G H σ o s m Z n r b e => n δ σ G H h o.reflF s
theorem run_brk (h : O (.bk δ)) : Run K C Ω 0 tBreak δ O := fun W F G H σ o s m Z n r b e => b δ σ G H h o.reflF s
theorem run_cont (h : O (.ct δ)) : Run K C Ω 0 tCont δ O := fun W F G H σ o s m Z n r b e => e δ σ G H h o.reflF s
theorem run_ret (h : Ev K C Ω c te δ R) (k : ∀ d, R d → O (.rt d)) : Run K C Ω c (tRet te) δ O := fun W F G H σ o s m Z n r b e =>
  h W F G H σ o s m _ fun v G' H' d st dd rd => r d v G' H' (k d rd) (st.f o) dd
theorem run_retN (h : O (.rt .non)) : Run K C Ω 0 tRetN δ O := fun W F G H σ o s m Z n r b e => r .non .non G H h o.reflF .non
theorem run_drop (h : Ev K C Ω c te δ R) (k : ∀ d, R d → O (.nx δ)) : Run K C Ω c (tDrop te) δ O := fun W F G H σ o s m Z n r b e =>
  h W F G H σ o s m _ fun v G' H' d st dd rd => n δ σ G' H' (k d rd) (st.f o) (s.step o st)
theorem run_asg {i : Nat} (h : Ev K C Ω c te δ R) (k : ∀ d, R d → O (.nx (δ.set i (.val d)))) : Run K C Ω c (tAsg te (gName i)) δ O := fun W F G H σ o s m Z n r b e =>
  h W F G H σ o s m _ fun v G' H' d st dd rd => n _ _ G' H' (k d rd) (st.f o) ((s.step o st).set dd)
theorem run_asgL {i : Nat} {RL : List D → Prop} (h : EvL K C Ω c te δ RL) (k : ∀ xs, RL xs → O (.nx (δ.set i (.oL xs)))) : Run K C Ω c (tAsg te (gName i)) δ O := fun W F G H σ o s m Z n r b e =>
  h W F G H σ o s m _ fun p vs G' H' xs st hp gp ep hd rd => by
    have fp : ¬ F p := fun z => o.fd p z hp
    exact n _ _ G' H' (k xs rd) (st.f o) ((s.step o st).setOwn ⟨p, vs, rfl, ep, gp, fp, hd⟩ fun j t _ ej ht => s.fresh hp j t ej ht)
theorem run_asgD {i : Nat} {RL : List (Key × D) → Prop} (h : EvD K C Ω c te δ RL) (k : ∀ xs, RL xs → O (.nx (δ.set i (.oD xs)))) : Run K C Ω c (tAsg te (gName i)) δ O := fun W F G H σ o s m Z n r b e =>
  h W F G H σ o s m _ fun p vs G' H' xs st hp gp ep hd rd => by
    have fp : ¬ F p := fun z => o.fd p z hp
    exact n _ _ G' H' (k xs rd) (st.f o) ((s.step o st).setOwn ⟨p, vs, rfl, ep, gp, fp, hd⟩ fun j t _ ej ht => s.fresh hp j t ej ht)
theorem run_if {RT : Bool → Prop} (h : EvT K C Ω c1 t δ RT) (h1 : RT true → Run K C Ω c2 ts δ O) (h2 : RT false → Run K C Ω c3 tu δ O) : Run K C Ω (c1 + (c2 + c3)) (tIfS t ts tu) δ O := fun W F G H σ o s m Z n r b e =>
  h W F G H σ o s (by omega) _ fun k G1 H1 st hk => by
    have hc := st.ct
    have go : ∀ {c' : Nat} {tx : TS}, c' ≤ c2 + c3 → Run K C Ω c' tx δ O → tx Z σ H1 := fun {c' tx} hc' hr =>
      hr W F G1 H1 σ (st.ok o) (s.step o st) (by omega) Z (fun δ2 σ2 G2 H2 q2 st2 => n δ2 σ2 G2 H2 q2 (((st.f o).trans st2).le (by omega))) (fun d v G2 H2 q2 st2 => r d v G2 H2 q2 (((st.f o).trans st2).le (by omega)))
        (fun δ2 σ2 G2 H2 q2 st2 => b δ2 σ2 G2 H2 q2 (((st.f o).trans st2).le (by omega))) (fun δ2 σ2 G2 H2 q2 st2 => e δ2 σ2 G2 H2 q2 (((st.f o).trans st2).le (by omega)))
    cases k with
    | true => exact go (Nat.le_add_right _ _) (h1 hk)
    | false => exact go (Nat.le_add_left _ _) (h2 hk)
/-- rows: a first statement, then the rest -/
theorem row_asg {i : Nat} (h : Ev K C Ω c1 te δ R) (k : ∀ d, R d → Run K C Ω c2 tz (δ.set i (.val d)) O) : Run K C Ω (c1 + c2) (tSeq (tAsg te (gName i)) tz) δ O :=
  run_seq (N := fun δ' => ∃ d, R d ∧ δ' = δ.set i (.val d)) (run_asg h fun d r => ⟨d, r, rfl⟩) fun δ' ⟨d, r, e⟩ => e ▸ k d r
theorem row_asg1 {i : Nat} (h : Ev K C Ω c1 te δ (· = d)) (k : Run K C Ω c2 tz (δ.set i (.val d)) O) : Run K C Ω (c1 + c2) (tSeq (tAsg te (gName i)) tz) δ O := row_asg h fun x e => e ▸ k
theorem row_asgL {i : Nat} {RL : List D → Prop} (h : EvL K C Ω c1 te δ RL) (k : ∀ xs, RL xs → Run K C Ω c2 tz (δ.set i (.oL xs)) O) : Run K C Ω (c1 + c2) (tSeq (tAsg te (gName i)) tz) δ O :=
  run_seq (N := fun δ' => ∃ d, RL d ∧ δ' = δ.set i (.oL d)) (run_asgL h fun d r => ⟨d, r, rfl⟩) fun δ' ⟨d, r, e⟩ => e ▸ k d r
theorem row_asgD {i : Nat} {RL : List (Key × D) → Prop} (h : EvD K C Ω c1 te δ RL) (k : ∀ xs, RL xs → Run K C Ω c2 tz (δ.set i (.oD xs)) O) : Run K C Ω (c1 + c2) (tSeq (tAsg te (gName i)) tz) δ O :=
  run_seq (N := fun δ' => ∃ d, RL d ∧ δ' = δ.set i (.oD d)) (run_asgD h fun d r => ⟨d, r, rfl⟩) fun δ' ⟨d, r, e⟩ => e ▸ k d r
theorem row_drop (h : Ev K C Ω c1 te δ R) (k : Run K C Ω c2 tz δ O) : Run K C Ω (c1 + c2) (tSeq (tDrop te) tz) δ O :=
  run_seq (N := fun δ' => δ' = δ) (run_drop h fun d r => rfl) fun δ' e => e ▸ k
/-- if ..: return or raise; the rest -/
theorem row_if {RT : Bool → Prop} {N : List Sl → Prop} (h : EvT K C Ω c1 t δ RT) (h1 : RT true → Run K C Ω c2 ts δ (thenO N O)) (h2 : RT false → N δ) (k : ∀ δ', N δ' → Run K C Ω c3 tz δ' O) : Run K C Ω ((c1 + (c2 + 0)) + c3) (tSeq (tIfS t ts tNext) tz) δ O :=
  run_seq (N := N) (run_if h h1 fun q => run_next (h2 q)) k
theorem row_guard {RT : Bool → Prop} (h : EvT K C Ω c1 t δ RT) (h1 : RT true → Run K C Ω c2 ts δ (thenO (fun _ => False) O)) (k : RT false → Run K C Ω c3 tz δ O) : Run K C Ω ((c1 + (c2 + 0)) + c3) (tSeq (tIfS t ts tNext) tz) δ O :=
  row_if (N := fun δ' => δ' = δ ∧ RT false) h (fun q => (h1 q).imp fun o z => by cases o <;> first | exact z.elim | exact z) (fun q => ⟨rfl, q⟩) fun δ' ⟨e, q⟩ => e ▸ k q
end Z
set_option Elab.async false
set_option linter.all false
set_option maxRecDepth 100000
set_option maxHeartbeats 4000000
/-! Own lists and dicts, walks, loops. -/
namespace Z
open PySem PySem.Spec PyProof.Rows L2
variable {K : PySem.W.Frag} {C : Addr} {Ω : List (Addr × Str)} {c c1 c2 c3 : Nat} {ta tb te td ty tl : TE} {t u : TT} {ts tu tz : TS} {δ δ' : List Sl} {R R' : D → Prop} {a b d : D} {O O' : Out → Prop}

/-! ### an own list or dict is looked at, put away, changed -/
def scalar : D → Bool
  | .non => true
  | .bl _ => true
  | .int _ => true
  | .str _ => true
  | _ => false
theorem Den.scalar {W : Wd K C Ω} {G G' : Hp} {v : V} (h : Den W G d v) (e : scalar d = true) : Den W G' d v := by
  cases h with
  | non => exact .non
  | bl b => exact .bl b
  | int i => exact .int i
  | str x => exact .str x
  | _ => cases e
def Sl.thing : Sl → D
  | .oL xs => .lst xs
  | .oD xs => .dic xs
  | .oI _ fs => .ins fs
  | _ => .non
theorem Slots.peek {W : Wd K C Ω} {F : Addr → Prop} {G H : Hp} {σ : L2.St} {i : Nat} {s : Sl} (o : Ok W F G H) (L : Slots W F G H σ δ) (h : δ[i]? = some s) (hs : s.own = true) :
    ∃ G1, Same G G1 ∧ Ok W F G1 H ∧ Slots W F G1 H σ (δ.set i (.val s.thing)) ∧ StF W F 0 G H G1 H := by
  have q := L.ok i s h
  cases s with
  | un => cases hs
  | val d => cases hs
  | oL xs =>
    obtain ⟨l, vs, e, hl, gl, fl, hd⟩ := q
    have up : Same G (upd G l (.lst vs)) := fun a u z => by
      rw [upd_ne (ne_of_none z gl)]
      exact z
    have st := o.keep hl gl fl
    exact ⟨upd G l (.lst vs), up, st.ok o, L.keep h rfl e hl gl (.lst upd_same (hd.mono up)), st⟩
  | oD xs =>
    obtain ⟨l, vs, e, hl, gl, fl, hd⟩ := q
    have up : Same G (upd G l (.dK vs)) := fun a u z => by
      rw [upd_ne (ne_of_none z gl)]
      exact z
    have st := o.keep hl gl fl
    exact ⟨upd G l (.dK vs), up, st.ok o, L.keep h rfl e hl gl (.dic (.inl upd_same) (hd.mono up)), st⟩
  | oI p xs =>
    obtain ⟨l, dx, vs, e, _, hl, gl, fl, hd⟩ := q
    have up : Same G (upd G l (.ins C dx vs)) := fun a u z => by
      rw [upd_ne (ne_of_none z gl)]
      exact z
    have st := o.keep hl gl fl
    exact ⟨upd G l (.ins C dx vs), up, st.ok o, L.keep h rfl e hl gl (.ins upd_same (hd.mono up)), st⟩
theorem stp_back {W : Wd K C Ω} {F : Addr → Prop} {G G1 H G2 H2 : Hp} (o : Ok W F G H) (e : Same G G1) (st : Stp W c G1 H G2 H2) : Stp W c G H G H2 :=
  ⟨fun _ _ h => h, fun a u h => st.gh a u (st.gg a u (e a u h)), st.hh, fun _ h => .inl h, st.iv, st.ct⟩
theorem ev_peek {i : Nat} {s : Sl} (h : δ[i]? = some s) (hs : s.own = true) (he : Ev K C Ω c te (δ.set i (.val s.thing)) R) (hR : ∀ d, R d → scalar d = true) : Ev K C Ω c te δ R := fun W F G H σ o L m Q q => by
  obtain ⟨G1, e, o1, L1, _⟩ := L.peek o h hs
  exact he W F G1 H σ o1 L1 m Q fun v G2 H2 d st dd rd => q v G H2 d (stp_back o e st) (dd.scalar (hR d rd)) rd
theorem et_peek {i : Nat} {s : Sl} {RT : Bool → Prop} (h : δ[i]? = some s) (hs : s.own = true) (he : EvT K C Ω c t (δ.set i (.val s.thing)) RT) : EvT K C Ω c t δ RT := fun W F G H σ o L m Q q => by
  obtain ⟨G1, e, o1, L1, _⟩ := L.peek o h hs
  exact he W F G1 H σ o1 L1 m Q fun v G2 H2 st rd => q v G H2 (stp_back o e st) rd
/-- from here on it does not change any more -/
theorem run_keep {i : Nat} {s : Sl} (h : δ[i]? = some s) (hs : s.own = true) (hr : Run K C Ω c ts (δ.set i (.val s.thing)) O) : Run K C Ω c ts δ O := fun W F G H σ o L m Z n r b e => by
  obtain ⟨G1, _, o1, L1, st⟩ := L.peek o h hs
  have z : ∀ {G' H'}, StF W F c G1 H G' H' → StF W F c G H G' H' := fun st2 => (st.trans st2).le (by omega)
  exact hr W F G1 H σ o1 L1 m Z (fun δ' σ' G' H' q st2 => n δ' σ' G' H' q (z st2)) (fun d v G' H' q st2 => r d v G' H' q (z st2)) (fun δ' σ' G' H' q st2 => b δ' σ' G' H' q (z st2)) (fun δ' σ' G' H' q st2 => e δ' σ' G' H' q (z st2))
/-- xs.append(e) -/
theorem run_app {i : Nat} {xs : List D} (h : δ[i]? = some (.oL xs)) (hl : xs.length < sizeLine) (he : Ev K C Ω c te δ R) (k : ∀ d, R d → O (.nx (δ.set i (.oL (xs ++ [d]))))) : Run K C Ω c (tDrop (tBM K "list" rAppend (tVar i) (tCons te tNil))) δ O := fun W F G H σ o L m Z n r b e => by
  obtain ⟨l, vs, el, hl1, gl, fl, hd⟩ := L.ok i _ h
  refine ⟨.ref l, at_some el, Or.inl ⟨rfl, vs, Or.inl (Or.inl hl1)⟩, he W F G H σ o L m _ fun v G1 H1 d st dd rd => ?_⟩
  have o1 := st.ok o
  have L1 := L.step o st
  obtain ⟨l', vs', el', hl', gl', fl', hd'⟩ := L1.ok i _ h
  rw [el] at el'
  cases el'
  have o2 := o1.put (o := .lst (vs' ++ [v])) gl' fl' (by rw [hl']; intro φ z; cases z)
  refine ⟨l, vs', v, rfl, rfl, hl', by rw [← hd'.len]; exact hl, ?_⟩
  refine n _ σ G1 _ (k d rd) (((st.f o).trans o2).le (by omega)) (L1.put o1 h rfl el gl' ⟨l, _, rfl, upd_same, gl', fl', hd'.snoc dd⟩ rfl)
/-- xs.extend(ys), ys a list -/
theorem run_ext {i : Nat} {xs : List D} {RL : List D → Prop} (h : δ[i]? = some (.oL xs)) (he : EvL K C Ω c te δ RL) (hl : ∀ ys, RL ys → xs.length + ys.length ≤ sizeLine) (k : ∀ ys, RL ys → O (.nx (δ.set i (.oL (xs ++ ys))))) : Run K C Ω c (tDrop (tBM K "list" rExtend (tVar i) (tCons te tNil))) δ O := fun W F G H σ o L m Z n r b e => by
  obtain ⟨l, vs, el, hl1, gl, fl, hd⟩ := L.ok i _ h
  refine ⟨.ref l, at_some el, Or.inl ⟨rfl, vs, Or.inl (Or.inl hl1)⟩, he W F G H σ o L m _ fun p us G1 H1 ys st hp gp ep dd rd => ?_⟩
  have o1 := st.ok o
  have L1 := L.step o st
  obtain ⟨l', vs', el', hl', gl', fl', hd'⟩ := L1.ok i _ h
  rw [el] at el'
  cases el'
  have o2 := o1.put (o := .lst (vs' ++ us)) gl' fl' (by rw [hl']; intro φ z; cases z)
  refine ⟨l, p, vs', us, rfl, rfl, hl', ep, by rw [← hd'.len, ← dd.len]; exact hl ys rd, ?_⟩
  refine n _ σ G1 _ (k ys rd) (((st.f o).trans o2).le (by omega)) (L1.put o1 h rfl el gl' ⟨l, _, rfl, upd_same, gl', fl', hd'.app dd⟩ rfl)
/-- x = xs.pop() -/
theorem run_pop {i j : Nat} {xs : List D} (h : δ[i]? = some (.oL xs)) (hij : j ≠ i) (hl : xs[xs.length - 1]? = some d) (k : O (.nx ((δ.set i (.oL xs.dropLast)).set j (.val d)))) : Run K C Ω 0 (tAsg (tBM0 K "list" rPop (tVar i)) (gName j)) δ O := fun W F G H σ o L m Z n r b e => by
  obtain ⟨l, vs, el, hl1, gl, fl, hd⟩ := L.ok i _ h
  obtain ⟨v, hv, dv⟩ := hd.get hl
  rw [hd.len] at hv
  have o2 := o.put (o := .lst vs.dropLast) gl fl (by rw [hl1]; intro φ z; cases z)
  refine ⟨.ref l, at_some el, Or.inl ⟨rfl, vs, Or.inl (Or.inl hl1)⟩, l, vs, v, rfl, rfl, hl1, hv, ?_⟩
  have L2 := L.put (o := .lst vs.dropLast) (s' := .oL xs.dropLast) o h rfl el gl ⟨l, _, rfl, upd_same, gl, fl, hd.dropLast⟩ rfl
  exact n _ _ G _ k o2 (L2.set dv)
/-- d[k] = e, an own dict -/
def keyD : D → Option Key
  | .int i => some (.inl i)
  | .str x => some (.inr x)
  | _ => none
theorem keyD_v {W : Wd K C Ω} {G : Hp} {v : V} {k : Key} (h : Den W G d v) (e : keyD d = some k) : v = kV k := by
  cases h <;> first | (cases e; rfl) | cases e
def lookK (ds : List (Key × D)) (k : Key) : Option D := (ds.find? fun kv => decide (kv.1 = k)).map (·.2)
def putD (ds : List (Key × D)) (k : Key) (d : D) : List (Key × D) := if (ds.any fun kv => decide (kv.1 = k)) = true then ds.map (fun kv => if kv.1 = k then (kv.1, d) else kv) else ds ++ [(k, d)]
theorem DenK.look {W : Wd K C Ω} {G : Hp} : ∀ {ds : List (Key × D)} {kvs : List (Key × V)} {k : Key} {d : D}, DenK W G ds kvs → lookK ds k = some d → ∃ v, valV kvs k = some v ∧ Den W G d v
  | _, _, _, _, .nil, e => by cases e
  | (j, x) :: ds, (_, v) :: kvs, k, d, .cons h1 h2, e => by
    by_cases q : j = k
    · subst q
      have e2 : some x = some d := by
        rw [← e]
        simp [lookK, List.find?_cons]
      cases e2
      exact ⟨v, valV_pos rfl, h1⟩
    · have e2 : lookK ds k = some d := by
        rw [← e]
        simp [lookK, List.find?_cons, q]
      obtain ⟨w, h3, h4⟩ := DenK.look h2 e2
      exact ⟨w, by rw [valV_neg q]; exact h3, h4⟩
theorem DenK.none {W : Wd K C Ω} {G : Hp} : ∀ {ds : List (Key × D)} {kvs : List (Key × V)} {k : Key}, DenK W G ds kvs → (valV kvs k).isSome = (lookK ds k).isSome
  | _, _, _, .nil => rfl
  | (j, x) :: ds, (_, v) :: kvs, k, .cons h1 h2 => by
    by_cases q : j = k
    · rw [valV_pos q]
      simp [lookK, List.find?_cons, q]
    · rw [valV_neg q, DenK.none h2]
      simp [lookK, List.find?_cons, q]
theorem DenK.any {W : Wd K C Ω} {G : Hp} {k : Key} : ∀ {ds : List (Key × D)} {kvs : List (Key × V)}, DenK W G ds kvs → (kvs.any fun kv => decide (kv.1 = k)) = (ds.any fun kv => decide (kv.1 = k))
  | _, _, .nil => rfl
  | _, _, .cons h1 h2 => by rw [List.any_cons, List.any_cons, DenK.any h2]
theorem DenK.rep {W : Wd K C Ω} {G : Hp} {k : Key} {v : V} (hd : Den W G d v) : ∀ {ds : List (Key × D)} {kvs : List (Key × V)}, DenK W G ds kvs → DenK W G (ds.map fun kv => if kv.1 = k then (kv.1, d) else kv) (kvs.map fun kv => if kv.1 = k then (kv.1, v) else kv)
  | _, _, .nil => .nil
  | (j, x) :: ds, (_, w) :: kvs, .cons h1 h2 => by
    by_cases q : j = k
    · simp only [List.map_cons, q, if_true]
      exact .cons hd (DenK.rep hd h2)
    · simp only [List.map_cons, q, if_false]
      exact .cons h1 (DenK.rep hd h2)
theorem DenK.app {W : Wd K C Ω} {G : Hp} : ∀ {ds es : List (Key × D)} {vs us : List (Key × V)}, DenK W G ds vs → DenK W G es us → DenK W G (ds ++ es) (vs ++ us)
  | _, _, _, _, .nil, h => h
  | _, _, _, _, .cons a b, h => .cons a (DenK.app b h)
theorem DenK.put {W : Wd K C Ω} {G : Hp} {ds : List (Key × D)} {kvs : List (Key × V)} {k : Key} {v : V} (h : DenK W G ds kvs) (hd : Den W G d v) : DenK W G (putD ds k d) (putK kvs k v) := by
  unfold putD putK
  rw [h.any]
  split
  · exact h.rep hd
  · exact h.app (.cons hd .nil)
theorem ev_dget {ds : List (Key × D)} {k : Key} (hd : Ev K C Ω c1 td δ (· = .dic ds)) (hy : Ev K C Ω c2 ty δ (· = a)) (hk : keyD a = some k) (hl : lookK ds k = some d) : Ev K C Ω (c1 + c2) (tDGet td ty) δ (· = d) := fun W F G H σ o s m Q q =>
  hd W F G H σ o s (by omega) _ fun x G1 H1 e st de re => hy W F G1 H1 σ (st.ok o) (s.step o st) (cost1 st m) _ fun y G2 H2 e2 st2 de2 re2 => by
    subst re re2
    cases de with
    | dic h1 h2 =>
      obtain ⟨v, hv, dv⟩ := (h2.mono st2.gg).look hl
      rw [keyD_v de2 hk]
      exact ⟨_, v, rfl, .inl ⟨_, k, same_rd st2.gh (same_rd st2.gg h1), rfl, hv.symm⟩, q v G2 H2 _ (st.trans st2) dv rfl⟩
theorem ev_din {ds : List (Key × D)} {k : Key} (hy : Ev K C Ω c1 ty δ (· = a)) (hd : Ev K C Ω c2 td δ (· = .dic ds)) (hk : keyD a = some k) : Ev K C Ω (c1 + c2) (tDIn ty td) δ (· = .bl (lookK ds k).isSome) := fun W F G H σ o s m Q q =>
  hy W F G H σ o s (by omega) _ fun x G1 H1 e st de re => hd W F G1 H1 σ (st.ok o) (s.step o st) (cost1 st m) _ fun y G2 H2 e2 st2 de2 re2 => by
    subst re re2
    rw [keyD_v de hk]
    cases de2 with
    | dic h1 h2 => exact ⟨_, _, rfl, .inl ⟨_, k, same_rd st2.gh h1, rfl, rfl⟩, q _ G2 H2 _ (st.trans st2) (.bl _) (by rw [h2.none])⟩
theorem ev_dnot {ds : List (Key × D)} {k : Key} (hy : Ev K C Ω c1 ty δ (· = a)) (hd : Ev K C Ω c2 td δ (· = .dic ds)) (hk : keyD a = some k) : Ev K C Ω (c1 + c2) (tDNotIn ty td) δ (· = .bl (!(lookK ds k).isSome)) := fun W F G H σ o s m Q q =>
  hy W F G H σ o s (by omega) _ fun x G1 H1 e st de re => hd W F G1 H1 σ (st.ok o) (s.step o st) (cost1 st m) _ fun y G2 H2 e2 st2 de2 re2 => by
    subst re re2
    rw [keyD_v de hk]
    cases de2 with
    | dic h1 h2 => exact ⟨_, _, rfl, .inl ⟨_, k, same_rd st2.gh h1, rfl, rfl⟩, q _ G2 H2 _ (st.trans st2) (.bl _) (by rw [h2.none])⟩
/-- d[y] = e, an own dict at i -/
theorem run_dput {i : Nat} {ds : List (Key × D)} {k : Key} (h : δ[i]? = some (.oD ds)) (hl : ds.length < sizeLine) (he : Ev K C Ω c1 te δ R) (hy : Ev K C Ω c2 ty δ (· = a)) (hk : keyD a = some k) (n : ∀ d, R d → O (.nx (δ.set i (.oD (putD ds k d))))) : Run K C Ω (c1 + c2) (sDPut (tVar i) ty te) δ O := fun W F G H σ o L m Z nn r b e =>
  he W F G H σ o L (by omega) _ fun v G1 H1 d st dd rd => by
    have o1 := st.ok o
    have L1 := L.step o st
    obtain ⟨l, vs, el, hl1, gl, fl, hd⟩ := L1.ok i _ h
    refine ⟨.ref l, at_some el, hy W F G1 H1 σ o1 L1 (cost1 st m) _ fun y G2 H2 x st2 dy ry => ?_⟩
    subst ry
    rw [keyD_v dy hk]
    have o2 := st2.ok o1
    have L2 := L1.step o1 st2
    obtain ⟨l', vs', el', hl', gl', fl', hd'⟩ := L2.ok i _ h
    rw [el] at el'
    cases el'
    have o3 := o2.put (o := .dK (putK vs' k v)) gl' fl' (by rw [hl']; intro φ z; cases z)
    refine ⟨l, _, rfl, .inl ⟨vs', k, hl', rfl, by rw [← hd'.len]; exact hl, rfl⟩, ?_⟩
    exact nn _ σ G2 _ (n d rd) ((((st.f o).trans (st2.f o1)).trans o3).le (by omega)) (L2.put (s' := .oD (putD ds k d)) o2 h rfl el gl' ⟨l, _, rfl, upd_same, gl', fl', hd'.put (dd.mono st2.gg)⟩ rfl)
/-- a field -/
theorem DenF.look {W : Wd K C Ω} {G : Hp} : ∀ {ds : List (Str × D)} {kvs : List (Str × V)} {k : Str} {d : D}, DenF W G ds kvs → ds.lookup k = some d → ∃ v, kvs.lookup k = some v ∧ Den W G d v
  | _, _, _, _, .nil, e => by cases e
  | (j, x) :: ds, (_, v) :: kvs, k, d, .cons h1 h2, e => by
    by_cases q : k = j
    · subst q
      simp at e
      subst e
      exact ⟨v, by simp, h1⟩
    · have hb : (k == j) = false := beq_eq_false_iff_ne.mpr q
      rw [List.lookup_cons, hb] at e
      obtain ⟨w, h3, h4⟩ := DenF.look h2 e
      exact ⟨w, by rw [List.lookup_cons, hb]; exact h3, h4⟩
theorem DenF.no {W : Wd K C Ω} {G : Hp} : ∀ {ds : List (Str × D)} {kvs : List (Str × V)} {k : Str}, DenF W G ds kvs → ds.lookup k = none → kvs.lookup k = none
  | _, _, _, .nil, _ => rfl
  | (j, x) :: ds, (_, v) :: kvs, k, .cons h1 h2, e => by
    rw [List.lookup_cons] at e ⊢
    cases q : (k == j) with
    | true =>
      rw [q] at e
      cases e
    | false =>
      rw [q] at e
      exact DenF.no h2 e
theorem ev_fld {fs : List (Str × D)} {f : Str} (h : Ev K C Ω c ta δ (· = .ins fs)) (cl : Cls K C) (na : NoAttr K C f) (hl : fs.lookup f = some d) : Ev K C Ω c (tFld K ta f) δ (· = d) := fun W F G H σ o s m Q q =>
  h W F G H σ o s m _ fun x G1 H1 e st de re => by
    subst re
    cases de with
    | ins h1 h2 =>
      obtain ⟨v, hv, dv⟩ := h2.look hl
      exact ⟨_, C, _, _, v, rfl, st.gh _ _ h1, cl, na, hv, q v G1 H1 _ st dv rfl⟩
/-- a method of the instance -/
theorem ev_meth {fs : List (Str × D)} {f : Str} {tt : TA} {P : List D → Prop} {Rf : List D → D → Prop} {ds : List D} {E : XK} (h : Ev K C Ω c1 ta δ (· = .ins fs)) (hn : fs.lookup f = none) (ht : EvA K C Ω c2 tt δ (· = ds)) (hp : P (.ins fs :: ds)) :
    Ev K C Ω (c1 + (c2 + c3)) (tMeth C f (SpD K C Ω c3 P Rf) [] E ta tt) δ (Rf (.ins fs :: ds)) := fun W F G H σ o s m Q q =>
  h W F G H σ o s (by omega) _ fun x G1 H1 e st de re => by
    subst re
    have hc := st.ct
    cases de with
    | ins h1 h2 =>
      refine ⟨_, _, _, rfl, st.gh _ _ h1, h2.no hn, ht W F G1 H1 σ (st.ok o) (s.step o st) (by omega) _ fun vs G2 H2 es st2 des res => ?_⟩
      subst res
      have hc2 := st2.ct
      show SpD K C Ω c3 P Rf (.ref _ :: (vs ++ [])) H2 Q E
      rw [List.append_nil]
      exact ⟨W, F, G2, _, st2.ok (st.ok o), .cons (.ins (st2.gg _ _ h1) (h2.mono st2.gg)) des, hp, by omega, fun v G3 H3 d st3 dd rd => q v G3 H3 d (by have z := (st.trans st2).trans st3; exact z.le (by omega)) dd rd⟩
/-- a field of an own instance | a field is stored -/
theorem ev_fldO {i : Nat} {p : Addr} {fs : List (Str × D)} {f : Str} (h : δ[i]? = some (.oI p fs)) (cl : Cls K C) (na : NoAttr K C f) (hl : fs.lookup f = some d) : Ev K C Ω 0 (tFld K (tVar i) f) δ (· = d) := fun W F G H σ o s m Q q => by
  obtain ⟨l, dx, kvs, e, _, h1, g1, f1, hd⟩ := s.ok i _ h
  obtain ⟨v, hv, dv⟩ := hd.look hl
  exact ⟨.ref l, at_some e, l, C, dx, kvs, v, rfl, h1, cl, na, hv, q v G H _ o.refl dv rfl⟩
def putFD (f : Str) (d : D) : List (Str × D) → List (Str × D)
  | [] => [(f, d)]
  | (g, e) :: r => if g = f then (g, d) :: r else (g, e) :: putFD f d r
theorem DenF.put {W : Wd K C Ω} {G : Hp} {f : Str} {v : V} (hd : Den W G d v) : ∀ {fs : List (Str × D)} {fvs : List (Str × V)}, DenF W G fs fvs → DenF W G (putFD f d fs) (putF f v fvs)
  | _, _, .nil => .cons hd .nil
  | (g, _) :: _, _, .cons h1 h2 => by
    unfold putFD putF
    by_cases e : g = f
    · rw [if_pos e, if_pos e]
      exact .cons hd h2
    · rw [if_neg e, if_neg e]
      exact .cons h1 (DenF.put hd h2)
theorem DenF.len {W : Wd K C Ω} {G : Hp} : ∀ {fs : List (Str × D)} {fvs : List (Str × V)}, DenF W G fs fvs → fs.length = fvs.length
  | _, _, .nil => rfl
  | _, _, .cons _ h => congrArg (· + 1) (DenF.len h)
theorem run_fldO {i : Nat} {p : Addr} {fs : List (Str × D)} {f : Str} (h : δ[i]? = some (.oI p fs)) (cl : Cls K C) (na : NoAttr K C f) (hl : fs.length < 1000) (he : Ev K C Ω c te δ R) (k : ∀ d, R d → O (.nx (δ.set i (.oI p (putFD f d fs))))) : Run K C Ω c (sFld K (tVar i) te f) δ O := fun W F G H σ o L m Z n r b e =>
  he W F G H σ o L m _ fun v G1 H1 d st dd rd => by
    have o1 := st.ok o
    have L1 := L.step o st
    obtain ⟨l, dx, kvs, el, ep, h1, g1, f1, hd⟩ := L1.ok i _ h
    refine ⟨.ref l, at_some el, l, C, dx, kvs, rfl, h1, cl, na, by rw [← hd.len]; exact hl, ?_⟩
    have o2 := o1.put (o := .ins C dx (putF f v kvs)) g1 f1 (by rw [h1]; intro φ z; cases z)
    exact n _ σ G1 _ (k d rd) (((st.f o).trans o2).le (by omega)) (L1.put (s' := .oI p (putFD f d fs)) o1 h rfl el g1 ⟨l, dx, _, rfl, ep, upd_same, g1, f1, DenF.put dd hd⟩ rfl)
end Z
set_option Elab.async false
set_option linter.all false
set_option maxRecDepth 100000
set_option maxHeartbeats 4000000
/-! Walks, loops, comprehensions. -/
namespace Z
open PySem PySem.Spec PyProof.Rows L2
variable {K : PySem.W.Frag} {C : Addr} {Ω : List (Addr × Str)} {c c1 c2 c3 : Nat} {ta tb te td ty tl tk tv : TE} {t u tt : TT} {ts tu tz : TS} {δ δ' : List Sl} {R R' : D → Prop} {a b d : D} {O O' : Out → Prop} {wi : TI} {g : TG} {RL : List D → Prop}

/-! ### walks -/
theorem yl {W : Wd K C Ω} {G : Hp} {p : Addr} {vs : List V} {xs : List D} (hs : G p = some (.lst vs)) (hd : Dens W G xs vs) : Yields K C Ω W G (Itl K p) xs := fun F G2 H2 e o i => by
  have h2 : SqL K H2 p vs := .inl (.inl (o.gh _ _ (e _ _ hs)))
  refine ⟨fun d hi => ?_, fun hi => ⟨vs, h2, by rw [← hd.len]; exact hi⟩⟩
  obtain ⟨v, hv, dv⟩ := hd.get hi
  refine ⟨⟨vs, v, h2, hv⟩, fun x H3 y => ?_⟩
  obtain ⟨e3, f⟩ := y
  have ex : v = x := Option.some.inj (hv.symm.trans (f vs h2))
  subst e3 ex
  exact ⟨G2, dv.mono e, o.refl⟩
theorem yt {W : Wd K C Ω} {G : Hp} {p : Addr} {vs : List V} {xs : List D} (hs : SqT K G p vs) (hd : Dens W G xs vs) : Yields K C Ω W G (Itt K p) xs := fun F G2 H2 e o i => by
  have h2 : SqT K H2 p vs := (Gr.of o.gh).st ((Gr.of e).st hs)
  refine ⟨fun d hi => ?_, fun hi => ⟨vs, h2, by rw [← hd.len]; exact hi⟩⟩
  obtain ⟨v, hv, dv⟩ := hd.get hi
  refine ⟨⟨vs, v, h2, hv⟩, fun x H3 y => ?_⟩
  obtain ⟨e3, f⟩ := y
  have ex : v = x := Option.some.inj (hv.symm.trans (f vs h2))
  subst e3 ex
  exact ⟨G2, dv.mono e, o.refl⟩
theorem it_list (h : Ev K C Ω c tl δ fun d => ∃ xs, d = .lst xs ∧ RL xs) : IterR K C Ω c (iList K tl) δ RL := fun W F G H σ o s m Q q =>
  h W F G H σ o s m _ fun v G1 H1 d st dd ⟨xs, e, r⟩ => by
    subst e
    cases dd with
    | lst h1 h2 => exact ⟨_, rfl, ⟨_, .inl (.inl (st.gh _ _ h1))⟩, q _ G1 H1 xs st (yl h1 h2) r⟩
theorem it_list1 {xs : List D} (h : Ev K C Ω c tl δ (· = .lst xs)) : IterR K C Ω c (iList K tl) δ (· = xs) := it_list (h.imp fun d e => ⟨xs, e, rfl⟩)
theorem it_tup1 {xs : List D} (h : Ev K C Ω c tl δ (· = .tup xs)) : IterR K C Ω c (iTup K tl) δ (· = xs) := fun W F G H σ o s m Q q =>
  h W F G H σ o s m _ fun v G1 H1 d st dd e => by
    subst e
    cases dd with
    | tup h1 h2 => exact ⟨_, rfl, ⟨_, (Gr.of st.gh).st h1⟩, q _ G1 H1 xs st (yt h1 h2) rfl⟩
/-- lo, lo + 1, .. -/
def intsD (lo : Int) (n : Nat) : List D := (List.range n).map fun i => .int (lo + (i : Nat))
theorem intsD_len (lo : Int) (n : Nat) : (intsD lo n).length = n := by simp [intsD]
theorem intsD_get {lo : Int} {n i : Nat} (h : i < n) : (intsD lo n)[i]? = some (.int (lo + (i : Nat))) := by simp [intsD, h]
theorem yr {W : Wd K C Ω} {G : Hp} {lo : Int} {n : Nat} : Yields K C Ω W G (Itr lo n) (intsD lo n) := fun F G2 H2 e o i => by
  refine ⟨fun d hi => ?_, fun hi => by rw [intsD_len] at hi; exact hi⟩
  have hi2 : i < n := by
    have := (List.getElem?_eq_some_iff.mp hi).1
    rw [intsD_len] at this
    exact this
  refine ⟨hi2, fun x H3 y => ?_⟩
  obtain ⟨e3, f⟩ := y
  rw [intsD_get hi2] at hi
  cases hi
  subst e3 f
  exact ⟨G2, .int _, o.refl⟩
theorem it_rng1 {tA : TA} {n : Int} (h : EvA K C Ω c tA δ (· = [.int n])) (hn : -1000000 ≤ n ∧ n ≤ 1000000) : IterR K C Ω c (iRng1 tA) δ (· = intsD 0 n.toNat) := fun W F G H σ o s m Q q =>
  h W F G H σ o s m _ fun vs G1 H1 d st dd e => by
    subst e
    cases dd with
    | cons h1 h2 =>
      cases h1
      cases h2
      exact ⟨n, rfl, by omega, by omega, q _ G1 H1 _ st yr rfl⟩
theorem it_rng2 {tA : TA} {lo n : Int} (h : EvA K C Ω c tA δ (· = [.int lo, .int n])) (hl : -1000000 ≤ lo ∧ lo ≤ 1000000) (hn : -1000000 ≤ n ∧ n ≤ 1000000) : IterR K C Ω c (iRng2 tA) δ (· = intsD lo (n - lo).toNat) := fun W F G H σ o s m Q q =>
  h W F G H σ o s m _ fun vs G1 H1 d st dd e => by
    subst e
    cases dd with
    | cons h1 h2 =>
      cases h1
      cases h2 with
      | cons h3 h4 =>
        cases h3
        cases h4
        exact ⟨lo, n, rfl, by omega, q _ G1 H1 _ st yr rfl⟩
/-- signs of a text -/
def signs (x : Str) : List D := x.cps.toList.map fun c => .str ⟨#[c]⟩
theorem it_str {x : Str} (h : Ev K C Ω c te δ (· = .str x)) : IterR K C Ω c (iStr te) δ (· = signs x) := fun W F G H σ o s m Q q =>
  h W F G H σ o s m _ fun v G1 H1 d st dd e => by
    subst e
    cases dd
    refine ⟨x, rfl, q _ G1 H1 _ st (fun F G2 H2 e o i => ?_) rfl⟩
    have hl : (signs x).length = x.cps.size := by simp [signs]
    refine ⟨fun d hi => ?_, fun hi => by rw [hl] at hi; exact hi⟩
    have hi2 : i < x.cps.size := by
      have := (List.getElem?_eq_some_iff.mp hi).1
      rw [hl] at this
      exact this
    refine ⟨hi2, fun y H3 z => ?_⟩
    obtain ⟨e3, cc, hc, ey⟩ := z
    subst e3 ey
    have e4 : d = .str ⟨#[cc]⟩ := by
      have : (signs x)[i]? = (x.cps[i]?).map fun c => D.str ⟨#[c]⟩ := by simp [signs]
      rw [this, hc] at hi
      exact (Option.some.inj hi).symm
    rw [e4]
    exact ⟨G2, .str _, o.refl⟩
/-- enumerate(xs), each pair a new tuple -/
def nums (xs : List D) : List D := (List.range xs.length).map fun i => .tup [.int (i : Nat), (xs[i]?).getD .non]
theorem it_enum {tA : TA} {xs : List D} (h : EvA K C Ω c tA δ (· = [.lst xs])) : IterR K C Ω c (iEnum K tA) δ (· = nums xs) := fun W F G H σ o s m Q q =>
  h W F G H σ o s m _ fun vs G1 H1 d st dd e => by
    subst e
    cases dd with
    | cons h1 h2 =>
      cases h2
      cases h1 with
      | lst h3 h4 =>
        refine ⟨_, _, rfl, .inl (.inl (st.gh _ _ h3)), q _ G1 H1 _ st (fun F G2 H2 e o i => ?_) rfl⟩
        have hs : SqL K H2 _ _ := .inl (.inl (o.gh _ _ (e _ _ h3)))
        have hl : (nums xs).length = xs.length := by simp [nums]
        refine ⟨fun d hi => ?_, fun hi => ⟨_, hs, by rw [hl, h4.len] at hi; exact hi⟩⟩
        have hi2 : i < xs.length := by
          have := (List.getElem?_eq_some_iff.mp hi).1
          rw [hl] at this
          exact this
        have hx : xs[i]? = some xs[i] := List.getElem?_eq_getElem hi2
        obtain ⟨v, hv, dv⟩ := h4.get hx
        have e4 : d = .tup [.int (i : Nat), xs[i]] := by
          have : (nums xs)[i]? = some (.tup [.int (i : Nat), (xs[i]?).getD .non]) := by simp [nums, hi2]
          rw [this, hx] at hi
          exact (Option.some.inj hi).symm
        subst e4
        refine ⟨⟨_, v, hs, hv⟩, fun x H3 y => ?_⟩
        obtain ⟨T, z, e5, hT, e6, f⟩ := y
        have ez : v = z := Option.some.inj (hv.symm.trans (f _ hs))
        subst e5 e6 ez
        have st2 := o.new (o := .tup [.int (i : Nat), v]) hT
        exact ⟨_, .tup (.inl (.inl upd_same)) (.cons (.int _) (.cons (dv.mono fun a u z => st2.gg a u (e a u z)) .nil)), st2⟩

/-! ### targets -/
theorem wipe_set {σ : L2.St} {o : Option V} {j : Nat} : ∀ {vs : List Nat}, j ∈ vs → wipe (σ.set j o) vs = wipe σ vs
  | v :: vs, h => by
    unfold wipe
    by_cases hj : j ∈ vs
    · rw [wipe_set hj]
    · have e : j = v := by
        rcases List.mem_cons.mp h with e | e
        · exact e
        · exact absurd e hj
      subst e
      have hc : ∀ (ws : List Nat), j ∉ ws → wipe (σ.set j o) ws = (wipe σ ws).set j o := by
        intro ws
        induction ws with
        | nil => exact fun _ => rfl
        | cons w ws ih =>
          intro hw
          unfold wipe
          rw [ih fun q => hw (List.mem_cons_of_mem _ q)]
          exact List.set_comm _ _ fun q => hw (by rw [q]; exact List.mem_cons_self)
      rw [hc vs hj, List.set_set]
theorem tg_name {j : Nat} {vs : List Nat} (h : vs = [] ∨ j ∈ vs) (hv : vs ≠ []) : TgR K C Ω (gName j) vs d δ (δ.set j (.val d)) := fun W F G H σ v o s dd Q q =>
  q _ (s.set dd) (wipe_set (h.resolve_left hv))
/-- a for's target: no comprehension looks on -/
def TgF (K : PySem.W.Frag) (C : Addr) (Ω : List (Addr × Str)) (g : TG) (d : D) (δ δ' : List Sl) : Prop :=
  ∀ (W : Wd K C Ω) (F : Addr → Prop) (G H : Hp) (σ : L2.St) (v : V), Ok W F G H → Slots W F G H σ δ → Den W G d v → ∀ Q : L2.St → Hp → Prop, (∀ σ', Slots W F G H σ' δ' → Q σ' H) → g v σ H Q
theorem tf_name {j : Nat} : TgF K C Ω (gName j) d δ (δ.set j (.val d)) := fun W F G H σ v o s dd Q q => q _ (s.set dd)
theorem tf_pair {i j : Nat} {x y : D} : TgF K C Ω (gTup K 2 (gCons (gName i) (gCons (gName j) gNil))) (.tup [x, y]) δ ((δ.set i (.val x)).set j (.val y)) := fun W F G H σ v o s dd Q q => by
  cases dd with
  | tup h1 h2 =>
    cases h2 with
    | cons hx h3 =>
      cases h3 with
      | cons hy h4 =>
        cases h4
        exact ⟨_, _, rfl, (Gr.of o.gh).st h1, rfl, _, _, rfl, _, _, rfl, rfl, q _ ((s.set hx).set hy)⟩
theorem tg_pair {i j : Nat} {x y : D} {vs : List Nat} (hi : i ∈ vs) (hj : j ∈ vs) : TgR K C Ω (gTup K 2 (gCons (gName i) (gCons (gName j) gNil))) vs (.tup [x, y]) δ ((δ.set i (.val x)).set j (.val y)) := fun W F G H σ v o s dd Q q => by
  cases dd with
  | tup h1 h2 =>
    cases h2 with
    | cons hx h3 =>
      cases h3 with
      | cons hy h4 =>
        cases h4
        exact ⟨_, _, rfl, (Gr.of o.gh).st h1, rfl, _, _, rfl, _, _, rfl, rfl, q _ ((s.set hx).set hy) (by rw [wipe_set hj, wipe_set hi])⟩

/-! ### for -/
/-- the ways out of a loop's body: N at the turn's end, B behind a break -/
def bodyO (N B : List Sl → Prop) (O : Out → Prop) : Out → Prop
  | .nx δ => N δ
  | .rt d => O (.rt d)
  | .bk δ => B δ
  | .ct δ => N δ
theorem for_core {Pv : Nat → List Sl → Prop} {n : Nat} {W : Wd K C Ω} {F : Addr → Prop} {G H G1 H1 : Hp} {σ : L2.St} {J : It} {xs : List D} {Z : Ends} (o : Ok W F G H) (s : Slots W F G H σ δ) (m : W.cnt H + (c1 + n * c2) ≤ most) (st : Stp W c1 G H G1 H1) (hy : Yields K C Ω W G1 J xs) (hlen : xs.length ≤ n) (h0 : Pv 0 δ)
    (hs : ∀ i x δ1, xs[i]? = some x → Pv i δ1 → ∃ δ2, TgF K C Ω g x δ1 δ2 ∧ Run K C Ω c2 tu δ2 (bodyO (Pv (i + 1)) (fun δ' => O (.nx δ')) O)) (hd : ∀ δ1, Pv xs.length δ1 → O (.nx δ1))
    (nn : ∀ δ' σ' G' H', O (.nx δ') → StF W F (c1 + n * c2) G H G' H' → Slots W F G' H' σ' δ' → Z.nx σ' H')
    (r : ∀ d v G' H', O (.rt d) → StF W F (c1 + n * c2) G H G' H' → Den W G' d v → Z.rt v H') :
    ∃ Wm : Nat → Nat → L2.St → Hp → Prop, (∃ m, Wm 0 m σ H1) ∧ ∀ i m σ H, Wm i m σ H →
      (J.stop i H ∧ Z.nx σ H) ∨ (J.go i H ∧ ∃ N : L2.St → Hp → Prop, (∀ σ' H', N σ' H' → ∃ m', m' < m ∧ Wm (i + 1) m' σ' H') ∧ ∀ x H', J.yld i H x H' → g x σ H' fun σ2 H2 => tu { Z with nx := N, ct := N, bk := Z.nx } σ2 H2) := by
    have hcs := st.ct
    refine ⟨fun i m' σ' H' => m' = xs.length - i ∧ i ≤ xs.length ∧ ∃ G' δ1, Pv i δ1 ∧ StF W F (c1 + i * c2) G H G' H' ∧ Same G1 G' ∧ Slots W F G' H' σ' δ1, ⟨xs.length, by omega, Nat.zero_le _, G1, δ, h0, (st.f o).le (by omega), fun _ _ z => z, s.step o st⟩, ?_⟩
    rintro i m' σ' H' ⟨rfl, hi, G', δ1, hp, sf, sg, sl⟩
    have o' := sf.ok o
    obtain ⟨y1, y2⟩ := hy F G' H' sg o' i
    by_cases hlt : i < xs.length
    · obtain ⟨hgo, hyl⟩ := y1 xs[i] (List.getElem?_eq_getElem hlt)
      refine .inr ⟨hgo, fun σ2 H2 => ∃ G2 δ2, Pv (i + 1) δ2 ∧ StF W F (c1 + (i + 1) * c2) G H G2 H2 ∧ Same G1 G2 ∧ Slots W F G2 H2 σ2 δ2, fun σ2 H2 ⟨G2, δ2, p2, f2, g2, l2⟩ => ⟨_, by omega, rfl, hlt, G2, δ2, p2, f2, g2, l2⟩, fun x H3 hyx => ?_⟩
      obtain ⟨G3, dx, st3⟩ := hyl x H3 hyx
      obtain ⟨δ2, ht, hrun⟩ := hs i xs[i] δ1 (List.getElem?_eq_getElem hlt) hp
      have o3 := st3.ok o'
      refine ht W F G3 H3 σ' x o3 (sl.step o' st3) dx _ fun σ4 s4 => ?_
      have f3 : StF W F (c1 + i * c2) G H G3 H3 := (sf.trans (st3.f o')).le (by omega)
      have g3 : Same G1 G3 := fun a u z => st3.gg a u (sg a u z)
      have hc3 := f3.ct
      have hmul : (i + 1) * c2 ≤ n * c2 := Nat.mul_le_mul_right _ (by omega)
      have hmul2 : (i + 1) * c2 = i * c2 + c2 := Nat.succ_mul i c2
      have fin : ∀ {G4 H4}, StF W F c2 G3 H3 G4 H4 → StF W F (c1 + n * c2) G H G4 H4 := fun z => (f3.trans z).le (by omega)
      exact hrun W F G3 H3 σ4 o3 s4 (by omega) _ (fun δ5 σ5 G5 H5 q st5 s5 => ⟨G5, δ5, q, (f3.trans st5).le (by omega), fun a u z => st5.gg a u (g3 a u z), s5⟩)
        (fun d v G5 H5 q st5 dd => r d v G5 H5 q (fin st5) dd) (fun δ5 σ5 G5 H5 q st5 s5 => nn δ5 σ5 G5 H5 q (fin st5) s5)
        (fun δ5 σ5 G5 H5 q st5 s5 => ⟨G5, δ5, q, (f3.trans st5).le (by omega), fun a u z => st5.gg a u (g3 a u z), s5⟩)
    · have ei : i = xs.length := by omega
      subst ei
      have hmul : xs.length * c2 ≤ n * c2 := Nat.mul_le_mul_right _ hlen
      exact .inl ⟨y2 (Nat.le_refl _), nn δ1 σ' G' H' (hd δ1 hp) (sf.le (by omega)) sl⟩
theorem run_for {Pv : List D → Nat → List Sl → Prop} {n : Nat} (hI : IterR K C Ω c1 wi δ RL) (hn : ∀ xs, RL xs → xs.length ≤ n) (h0 : ∀ xs, RL xs → Pv xs 0 δ)
    (hs : ∀ xs i x δ1, RL xs → xs[i]? = some x → Pv xs i δ1 → ∃ δ2, TgF K C Ω g x δ1 δ2 ∧ Run K C Ω c2 tu δ2 (bodyO (Pv xs (i + 1)) (fun δ' => O (.nx δ')) O)) (hd : ∀ xs δ1, RL xs → Pv xs xs.length δ1 → O (.nx δ1)) :
    Run K C Ω (c1 + n * c2) (tFor wi g tu) δ O := fun W F G H σ o s m Z nn r b e =>
  hI W F G H σ o s (by omega) _ fun J G1 H1 xs st hy hx => for_core o s m st hy (hn xs hx) (h0 xs hx) (fun i x δ1 => hs xs i x δ1 hx) (fun δ1 => hd xs δ1 hx) nn r
/-! ### while: no draws within -/
theorem run_while {Pv : Nat → List Sl → Prop} {n0 : Nat} (h0 : Pv n0 δ) (hs : ∀ n δ1, Pv n δ1 → ∃ RT : Bool → Prop, EvT K C Ω 0 t δ1 RT ∧ (RT true → Run K C Ω 0 tu δ1 (bodyO (fun δ' => ∃ n', n' < n ∧ Pv n' δ') (fun δ' => O (.nx δ')) O)) ∧ (RT false → O (.nx δ1))) :
    Run K C Ω 0 (tWhile t tu) δ O := fun W F G H σ o s m Z nn r b e => by
  refine ⟨fun m' σ' H' => ∃ G' δ1, Pv m' δ1 ∧ StF W F 0 G H G' H' ∧ Slots W F G' H' σ' δ1, ⟨n0, G, δ, h0, o.reflF, s⟩, ?_⟩
  rintro m' σ' H' ⟨G', δ1, hp, sf, sl⟩
  have o' := sf.ok o
  have hc := sf.ct
  obtain ⟨RT, ht, h1, h2⟩ := hs m' δ1 hp
  refine ht W F G' H' σ' o' sl (by omega) _ fun k G2 H2 st hk => ?_
  have o2 := st.ok o'
  have s2 := sl.step o' st
  have f2 : StF W F 0 G H G2 H2 := sf.trans (st.f o')
  have hc2 := f2.ct
  cases k with
  | true =>
    refine ⟨fun σ3 H3 => ∃ n', n' < m' ∧ ∃ G3 δ3, Pv n' δ3 ∧ StF W F 0 G H G3 H3 ∧ Slots W F G3 H3 σ3 δ3, fun σ3 H3 ⟨n', hn, q⟩ => ⟨n', hn, q⟩, ?_⟩
    exact h1 hk W F G2 H2 σ' o2 s2 (by omega) _ (fun δ5 σ5 G5 H5 ⟨n', hn, q⟩ st5 s5 => ⟨n', hn, G5, δ5, q, f2.trans st5, s5⟩) (fun d v G5 H5 q st5 dd => r d v G5 H5 q (f2.trans st5) dd)
      (fun δ5 σ5 G5 H5 q st5 s5 => nn δ5 σ5 G5 H5 q (f2.trans st5) s5) (fun δ5 σ5 G5 H5 ⟨n', hn, q⟩ st5 s5 => ⟨n', hn, G5, δ5, q, f2.trans st5, s5⟩)
  | false => exact nn δ1 σ' G2 H2 (h2 hk) f2 s2

/-! ### comprehensions -/
def wipeS (δ : List Sl) (vs : List Nat) : List Sl := vs.foldr (fun v d => d.set v .un) δ
theorem wipe_wipe (σ : L2.St) : ∀ vs ws : List Nat, (∀ v ∈ vs, v ∈ ws) → wipe (wipe σ vs) ws = wipe σ ws
  | [], _, _ => rfl
  | v :: vs, ws, h => by
    show wipe ((wipe σ vs).set v none) ws = wipe σ ws
    rw [wipe_set (h v List.mem_cons_self)]
    exact wipe_wipe σ vs ws fun x hx => h x (List.mem_cons_of_mem _ hx)
theorem lc_core {Pd : Nat → List D → Prop} {vs : List Nat} {n : Nat} {W : Wd K C Ω} {F : Addr → Prop} {G H G1 H1 : Hp} {σ : L2.St} {J : It} {xs : List D} {Q : VK} {Dd : Addr} (o : Ok W F G H) (s : Slots W F G H σ δ) (m : W.cnt H + (c1 + n * (c2 + c3)) ≤ most) (st : Stp W c1 G H G1 H1) (hy : Yields K C Ω W G1 J xs) (hlen : xs.length ≤ n) (hn2 : n < sizeLine) (h0 : Pd 0 [])
    (hs : ∀ i x acc, xs[i]? = some x → Pd i acc → ∃ δ2, TgR K C Ω g vs x (wipeS δ vs) δ2 ∧ ∃ RT : Bool → Prop, EvT K C Ω c2 tt δ2 RT ∧ (RT true → Ev K C Ω c3 te δ2 fun y => Pd (i + 1) (acc ++ [y])) ∧ (RT false → Pd (i + 1) acc))
    (hD : H1 Dd = none) (q : ∀ ws G' H' ys, Stp W (c1 + n * (c2 + c3)) G H G' H' → H Dd = none → G' Dd = none → H' Dd = some (.lst ws) → Dens W G' ys ws → Pd xs.length ys → Q (.ref Dd) H') :
    ∃ Wm : Nat → Nat → Hp → Prop, (∃ m, Wm 0 m (upd H1 Dd (.lst []))) ∧ ∀ i m H, Wm i m H → (J.stop i H ∧ Q (.ref Dd) H) ∨ (J.go i H ∧ ∃ Nx : Hp → Prop, (∀ H', Nx H' → ∃ m', m' < m ∧ Wm (i + 1) m' H') ∧ ∀ x H', J.yld i H x H' → g x (wipe σ vs) H' fun σ2 H2 => wipe σ2 vs = wipe σ vs ∧ tt σ2 H2 fun b H3 =>
      if b = true then te σ2 H3 fun y H4 => ∃ acc, H4 Dd = some (.lst acc) ∧ acc.length < sizeLine ∧ Nx (upd H4 Dd (.lst (acc ++ [y]))) else Nx H3) := by
    have o1 := st.ok o
    have s1 := s.step o st
    have hcs := st.ct
    have hD0 : H Dd = none := none_of_ne fun z => st.dom z hD
    refine ⟨fun i m' H' => m' = xs.length - i ∧ i ≤ xs.length ∧ ∃ G' acc ws, Pd i acc ∧ acc.length ≤ i ∧ Stp W (c1 + i * (c2 + c3)) G H G' H' ∧ Same G1 G' ∧ H' Dd = some (.lst ws) ∧ G' Dd = none ∧ Dens W G' acc ws,
      ⟨xs.length, by omega, Nat.zero_le _, G1, [], [], h0, Nat.zero_le _, (st.trans (o1.own (o := .lst []) hD)).le (by omega), fun _ _ z => z, upd_same, o1.gnone hD, .nil⟩, ?_⟩
    rintro i m' H' ⟨rfl, hi, G', acc, ws, hp, hacc, sf, sg, hw, gw, hd⟩
    have o' := sf.ok o
    obtain ⟨y1, y2⟩ := hy F G' H' sg o' i
    by_cases hlt : i < xs.length
    · obtain ⟨hgo, hyl⟩ := y1 xs[i] (List.getElem?_eq_getElem hlt)
      refine .inr ⟨hgo, fun H2 => ∃ G2 acc2 ws2, Pd (i + 1) acc2 ∧ acc2.length ≤ i + 1 ∧ Stp W (c1 + (i + 1) * (c2 + c3)) G H G2 H2 ∧ Same G1 G2 ∧ H2 Dd = some (.lst ws2) ∧ G2 Dd = none ∧ Dens W G2 acc2 ws2, fun H2 z => by
        obtain ⟨G2, acc2, ws2, z⟩ := z
        exact ⟨_, by omega, rfl, hlt, G2, acc2, ws2, z⟩, fun x H3 hyx => ?_⟩
      obtain ⟨G3, dx, st3⟩ := hyl x H3 hyx
      obtain ⟨δ2, ht, RT, htt, he1, he2⟩ := hs i xs[i] acc (List.getElem?_eq_getElem hlt) hp
      have o3 := st3.ok o'
      have f3 : Stp W (c1 + i * (c2 + c3)) G H G3 H3 := (sf.trans st3).le (by omega)
      have sl3 : Slots W F G3 H3 (wipe σ vs) (wipeS δ vs) := (s.step o f3).wipe vs
      have hmul : (i + 1) * (c2 + c3) ≤ n * (c2 + c3) := Nat.mul_le_mul_right _ (by omega)
      have hmul2 : (i + 1) * (c2 + c3) = i * (c2 + c3) + (c2 + c3) := Nat.succ_mul i (c2 + c3)
      have hc3 := f3.ct
      have keepD : ∀ {G4 H4 : Hp} {cc : Nat}, Stp W cc G' H' G4 H4 → H4 Dd = some (.lst ws) ∧ G4 Dd = none := fun {G4 H4 cc} z => by
        refine ⟨z.hh Dd _ hw fun hS => W.inn _ _ o.iv hS hD0, none_of_ne fun q => ?_⟩
        rcases z.fr Dd q with e | e
        · exact e gw
        · rw [hw] at e
          cases e
      refine ht W F G3 H3 (wipe σ vs) x o3 sl3 dx _ fun σ4 s4 ew => ?_
      refine ⟨ew.trans (wipe_wipe σ vs vs fun _ z => z), ?_⟩
      refine htt W F G3 H3 σ4 o3 s4 (by omega) _ fun k G4 H4 st4 hk => ?_
      have o4 := st4.ok o3
      have hc4 := st4.ct
      cases k with
      | true =>
        refine he1 hk W F G4 H4 σ4 o4 (s4.step o3 st4) (by omega) _ fun y G5 H5 d st5 dd hP => ?_
        have z5 := (st3.trans st4).trans st5
        obtain ⟨k1, k2⟩ := keepD z5
        refine ⟨ws, k1, by rw [← hd.len]; omega, G5, acc ++ [d], ws ++ [y], hP, by rw [List.length_append]; simp; omega, ?_, fun a u z => z5.gg a u (sg a u z), upd_same, k2, (hd.mono z5.gg).snoc dd⟩
        have f5 : Stp W (c1 + (i + 1) * (c2 + c3)) G H G5 H5 := (sf.trans z5).le (by omega)
        exact f5.putN o hD0 k2 (by rw [k1]; intro φ z; cases z)
      | false =>
        have z4 := st3.trans st4
        obtain ⟨k1, k2⟩ := keepD z4
        exact ⟨G4, acc, ws, he2 hk, by omega, (sf.trans z4).le (by omega), fun a u z => z4.gg a u (sg a u z), k1, k2, hd.mono z4.gg⟩
    · have ei : i = xs.length := by omega
      subst ei
      have hmul : xs.length * (c2 + c3) ≤ n * (c2 + c3) := Nat.mul_le_mul_right _ hlen
      exact .inl ⟨y2 (Nat.le_refl _), q ws G' H' acc (sf.le (by omega)) hD0 gw hw hd hp⟩
theorem el_lc {Pd : List D → Nat → List D → Prop} {vs : List Nat} {n : Nat} (hI : IterR K C Ω c1 wi δ RL) (hn : ∀ xs, RL xs → xs.length ≤ n) (hn2 : n < sizeLine) (h0 : ∀ xs, RL xs → Pd xs 0 [])
    (hs : ∀ xs i x acc, RL xs → xs[i]? = some x → Pd xs i acc → ∃ δ2, TgR K C Ω g vs x (wipeS δ vs) δ2 ∧ ∃ RT : Bool → Prop, EvT K C Ω c2 tt δ2 RT ∧ (RT true → Ev K C Ω c3 te δ2 fun y => Pd xs (i + 1) (acc ++ [y])) ∧ (RT false → Pd xs (i + 1) acc)) :
    EvL K C Ω (c1 + n * (c2 + c3)) (tLc wi g tt te vs) δ (fun ys => ∃ xs, RL xs ∧ Pd xs xs.length ys) := fun W F G H σ o s m Q q =>
  hI W F G H σ o s (by omega) _ fun J G1 H1 xs st hy hx Dd hD => lc_core o s m st hy (hn xs hx) hn2 (h0 xs hx) (fun i x acc => hs xs i x acc hx) hD fun ws G' H' ys sf hD0 gw hw hd hp => q Dd ws G' H' ys sf hD0 gw hw hd ⟨xs, hx, hp⟩
/-- pure ones: each thing gives one -/
theorem el_map {vs : List Nat} {n : Nat} {f : D → D} {xs : List D} (hI : IterR K C Ω c1 wi δ (· = xs)) (hn : xs.length ≤ n) (hn2 : n < sizeLine) (hs : ∀ x, x ∈ xs → ∃ δ2, TgR K C Ω g vs x (wipeS δ vs) δ2 ∧ Ev K C Ω 0 te δ2 (· = f x)) :
    EvL K C Ω (c1 + n * (0 + 0)) (tLc wi g tYes te vs) δ (· = xs.map f) :=
  (el_lc (Pd := fun ys i acc => acc = (ys.take i).map f) (n := n) hI (fun ys e => by rw [e]; exact hn) hn2 (fun _ _ => rfl) fun ys i x acc e hx hp => by
    subst e
    obtain ⟨δ2, h1, h2⟩ := hs x (List.mem_of_getElem? hx)
    refine ⟨δ2, h1, (· = true), et_yes, fun _ => h2.imp fun y ey => ?_, fun z => (Bool.noConfusion z : False).elim⟩
    rw [hp, ey, List.take_add_one, hx]
    simp).imp fun ys ⟨zs, e, h⟩ => by rw [h, e, List.take_length]
theorem el_filter {vs : List Nat} {n : Nat} {f : D → D} {p : D → Bool} {xs : List D} (hI : IterR K C Ω c1 wi δ (· = xs)) (hn : xs.length ≤ n) (hn2 : n < sizeLine) (hs : ∀ x, x ∈ xs → ∃ δ2, TgR K C Ω g vs x (wipeS δ vs) δ2 ∧ EvT K C Ω 0 tt δ2 (· = p x) ∧ (p x = true → Ev K C Ω 0 te δ2 (· = f x))) :
    EvL K C Ω (c1 + n * (0 + 0)) (tLc wi g tt te vs) δ (· = (xs.filter p).map f) :=
  (el_lc (Pd := fun ys i acc => acc = ((ys.take i).filter p).map f) (n := n) hI (fun ys e => by rw [e]; exact hn) hn2 (fun _ _ => rfl) fun ys i x acc e hx hp => by
    subst e
    obtain ⟨δ2, h1, h2, h3⟩ := hs x (List.mem_of_getElem? hx)
    have ht : (ys.take (i + 1)) = ys.take i ++ [x] := by
      rw [List.take_add_one, hx]
      rfl
    refine ⟨δ2, h1, (· = p x), h2, fun z => (h3 z.symm).imp fun y ey => ?_, fun z => ?_⟩
    · rw [hp, ey, ht, List.filter_append, List.map_append, List.filter_cons, if_pos z.symm]
      rfl
    · rw [hp, ht, List.filter_append, List.map_append, List.filter_cons, if_neg (by rw [← z]; simp)]
      simp).imp fun ys ⟨zs, e, h⟩ => by rw [h, e, List.take_length]
end Z
set_option Elab.async false
set_option linter.all false
set_option maxRecDepth 100000
set_option maxHeartbeats 4000000
/-! Dict comprehensions, walks over dicts, built-ins, instances, promises of defs. -/
namespace Z
open PySem PySem.Spec PyProof.Rows L2
variable {K : PySem.W.Frag} {C : Addr} {Ω : List (Addr × Str)} {c c1 c2 c3 : Nat} {ta tb te td ty tl tk tv : TE} {t u tt : TT} {ts tu tz : TS} {δ δ' : List Sl} {R R' : D → Prop} {a b d : D} {O O' : Out → Prop} {wi : TI} {g : TG} {RL : List D → Prop}

/-! ### dict comprehensions -/
theorem ed_dc {Pd : Nat → List (Key × D) → Prop} {vs : List Nat} {n : Nat} {xs : List D} (hI : IterR K C Ω c1 wi δ (· = xs)) (hn : xs.length ≤ n) (hn2 : n < sizeLine) (h0 : Pd 0 [])
    (hs : ∀ i x acc, xs[i]? = some x → Pd i acc → acc.length ≤ i ∧ ∃ δ2, TgR K C Ω g vs x (wipeS δ vs) δ2 ∧ ∃ (dk : D) (k : Key), keyD dk = some k ∧ Ev K C Ω 0 tk δ2 (· = dk) ∧ Ev K C Ω 0 tv δ2 fun y => Pd (i + 1) (putD acc k y)) :
    EvD K C Ω c1 (tDc wi g tYes tk tv vs) δ (Pd xs.length) := fun W F G H σ o s m Q q =>
  hI W F G H σ o s m _ fun J G1 H1 ys st hy hx Dd hD => by
    subst hx
    have o1 := st.ok o
    have hcs := st.ct
    have hD0 : H Dd = none := none_of_ne fun z => st.dom z hD
    refine ⟨fun i m' H' => m' = ys.length - i ∧ i ≤ ys.length ∧ ∃ G' acc ws, Pd i acc ∧ Stp W c1 G H G' H' ∧ Same G1 G' ∧ H' Dd = some (.dK ws) ∧ G' Dd = none ∧ DenK W G' acc ws,
      ⟨ys.length, by omega, Nat.zero_le _, G1, [], [], h0, (st.trans (o1.own (o := .dK []) hD)).le (by omega), fun _ _ z => z, upd_same, o1.gnone hD, .nil⟩, ?_⟩
    rintro i m' H' ⟨rfl, hi, G', acc, ws, hp, sf, sg, hw, gw, hd⟩
    have o' := sf.ok o
    obtain ⟨y1, y2⟩ := hy F G' H' sg o' i
    by_cases hlt : i < ys.length
    · obtain ⟨hgo, hyl⟩ := y1 ys[i] (List.getElem?_eq_getElem hlt)
      refine .inr ⟨hgo, fun H2 => ∃ G2 acc2 ws2, Pd (i + 1) acc2 ∧ Stp W c1 G H G2 H2 ∧ Same G1 G2 ∧ H2 Dd = some (.dK ws2) ∧ G2 Dd = none ∧ DenK W G2 acc2 ws2, fun H2 z => by
        obtain ⟨G2, acc2, ws2, z⟩ := z
        exact ⟨_, by omega, rfl, hlt, G2, acc2, ws2, z⟩, fun x H3 hyx => ?_⟩
      obtain ⟨G3, dx, st3⟩ := hyl x H3 hyx
      obtain ⟨hal, δ2, ht, dk, k, hk, hek, hev⟩ := hs i ys[i] acc (List.getElem?_eq_getElem hlt) hp
      have o3 := st3.ok o'
      have f3 : Stp W c1 G H G3 H3 := (sf.trans st3).le (by omega)
      have sl3 : Slots W F G3 H3 (wipe σ vs) (wipeS δ vs) := (s.step o f3).wipe vs
      have hc3 := f3.ct
      refine ht W F G3 H3 (wipe σ vs) x o3 sl3 dx _ fun σ4 s4 ew => ?_
      refine ⟨ew.trans (wipe_wipe σ vs vs fun _ z => z), ?_⟩
      show tk σ4 H3 _
      refine hek W F G3 H3 σ4 o3 s4 (by omega) _ fun y G4 H4 d4 st4 dd4 e4 => ?_
      subst e4
      rw [keyD_v dd4 hk]
      have o4 := st4.ok o3
      have hc4 := st4.ct
      refine hev W F G4 H4 σ4 o4 (s4.step o3 st4) (by omega) _ fun z G5 H5 d5 st5 dd5 hP => ?_
      have z5 := (st3.trans st4).trans st5
      have k1 : H5 Dd = some (.dK ws) := z5.hh Dd _ hw fun hS => W.inn _ _ o.iv hS hD0
      have k2 : G5 Dd = none := none_of_ne fun q => by
        rcases z5.fr Dd q with e | e
        · exact e gw
        · rw [hw] at e
          cases e
      have f5 : Stp W c1 G H G5 H5 := (sf.trans z5).le (by omega)
      exact ⟨ws, k, rfl, k1, by rw [← hd.len]; omega, G5, _, _, hP, f5.putN o hD0 k2 (by rw [k1]; intro φ z; cases z), fun a u z => z5.gg a u (sg a u z), upd_same, k2, (hd.mono z5.gg).put dd5⟩
    · have ei : i = ys.length := by omega
      subst ei
      exact .inl ⟨y2 (Nat.le_refl _), q Dd ws G' H' acc sf hD0 gw hw hd hp⟩

/-! ### walks over dicts: locked, or locked already -/
def tLkS (t : TS) : TS := fun D σ H => tLock t D σ H ∨ t D σ H
theorem ps_lk {X : Cx} {st : Stmt} {t : TS} (h : PS X st t) : PS X st (tLkS t) :=
  ⟨fun pins s σ H D I hw => hw.elim ((ps_lock h).run pins s σ H D I) (h.run pins s σ H D I)⟩
def tLkE (t : TE) : TE := fun σ H Q => tLockE t σ H Q ∨ t σ H Q
theorem pe_lk {X : Cx} {e : Expr} {t : TE} (h : PE X e t) : PE X e (tLkE t) :=
  ⟨fun pins s σ H Q I hw => hw.elim ((pe_lock h).run pins s σ H Q I) (h.run pins s σ H Q I)⟩
/-- td gives the address of a dict, whatever is locked -/
def AtD (K : PySem.W.Frag) (C : Addr) (Ω : List (Addr × Str)) (td : TE) (δ : List Sl) (ds : List (Key × D)) : Prop :=
  ∀ (W : Wd K C Ω) (F : Addr → Prop) (G H : Hp) (σ : L2.St), Ok W F G H → Slots W F G H σ δ → ∃ d kvs, Rd G d (.dK kvs) ∧ DenK W G ds kvs ∧
    ∀ H' : Hp, (∀ a C dx fs, H a = some (.ins C dx fs) → H' a = some (.ins C dx fs)) → ∀ Q : VK, Q (.ref d) H' → td σ H' Q
theorem atd_var {i : Nat} {ds : List (Key × D)} (h : δ[i]? = some (.val (.dic ds))) : AtD K C Ω (tVar i) δ ds := fun W F G H σ o s => by
  obtain ⟨v, e, hd⟩ := s.val h
  cases hd with
  | dic h1 h2 => exact ⟨_, _, h1, h2, fun H' _ Q q => ⟨_, e, q⟩⟩
theorem atd_fld {i : Nat} {fs : List (Str × D)} {f : Str} {ds : List (Key × D)} (h : δ[i]? = some (.val (.ins fs))) (cl : Cls K C) (na : NoAttr K C f) (hl : fs.lookup f = some (.dic ds)) : AtD K C Ω (tFld K (tVar i) f) δ ds := fun W F G H σ o s => by
  obtain ⟨v, e, hd⟩ := s.val h
  cases hd with
  | ins h1 h2 =>
    obtain ⟨w, hw, dw⟩ := h2.look hl
    cases dw with
    | dic h3 h4 => exact ⟨_, _, h3, h4, fun H' hi Q q => ⟨_, e, _, C, _, _, _, rfl, hi _ _ _ _ (o.gh _ _ h1), cl, na, hw, q⟩⟩
section
variable {W : Wd K C Ω} {F : Addr → Prop} {G H G1 H1 : Hp} {σ : L2.St} {p : Addr} {od : Obj} {kvs : List (Key × V)}
theorem gr_lock (h : G p = some (.dK kvs)) : Gr G (upd G p (.frz od (.dK kvs))) where
  l := fun a xs r => by
    have n : a ≠ p := fun e => by
      subst e
      rw [h] at r
      cases r
    rw [upd_ne n]
    exact r
  t := fun a xs r => by
    have n : a ≠ p := fun e => by
      subst e
      rcases r with r | ⟨o, r⟩ <;> rw [h] at r <;> cases r
    rcases r with r | ⟨o, r⟩
    · exact .inl (by rw [upd_ne n]; exact r)
    · exact .inr ⟨o, by rw [upd_ne n]; exact r⟩
  d := fun a ks r => by
    by_cases n : a = p
    · subst n
      rcases r with r | ⟨o, r⟩
      · rw [h] at r
        cases r
        exact .inr ⟨od, upd_same⟩
      · rw [h] at r
        cases r
    · rcases r with r | ⟨o, r⟩
      · exact .inl (by rw [upd_ne n]; exact r)
      · exact .inr ⟨o, by rw [upd_ne n]; exact r⟩
  i := fun a C dx fs r => by
    have n : a ≠ p := fun e => by
      subst e
      rw [h] at r
      cases r
    rw [upd_ne n]
    exact r
theorem gr_unlock (h : G p = some (.frz od (.dK kvs))) : Gr G (upd G p (.dK kvs)) where
  l := fun a xs r => by
    have n : a ≠ p := fun e => by
      subst e
      rw [h] at r
      cases r
    rw [upd_ne n]
    exact r
  t := fun a xs r => by
    have n : a ≠ p := fun e => by
      subst e
      rcases r with r | ⟨o, r⟩ <;> rw [h] at r <;> cases r
    rcases r with r | ⟨o, r⟩
    · exact .inl (by rw [upd_ne n]; exact r)
    · exact .inr ⟨o, by rw [upd_ne n]; exact r⟩
  d := fun a ks r => by
    by_cases n : a = p
    · subst n
      rcases r with r | ⟨o, r⟩
      · rw [h] at r
        cases r
      · rw [h] at r
        cases r
        exact .inl upd_same
    · rcases r with r | ⟨o, r⟩
      · exact .inl (by rw [upd_ne n]; exact r)
      · exact .inr ⟨o, by rw [upd_ne n]; exact r⟩
  i := fun a C dx fs r => by
    have n : a ≠ p := fun e => by
      subst e
      rw [h] at r
      cases r
    rw [upd_ne n]
    exact r
theorem SlOk.gr {G' H' : Hp} {o : Option V} {s : Sl} (e : Gr G G') (hg : ∀ l, G l = none → H l ≠ none → G' l = none ∧ H' l = H l) (h : SlOk W F G H o s) : SlOk W F G' H' o s := by
  cases s with
  | un => trivial
  | val d =>
    obtain ⟨v, e1, h⟩ := h
    exact ⟨v, e1, h.gr e⟩
  | oL xs =>
    obtain ⟨l, vs, e1, hl, gl, fl, h⟩ := h
    obtain ⟨a, b⟩ := hg l gl (by rw [hl]; intro z; cases z)
    exact ⟨l, vs, e1, b.trans hl, a, fl, Dens.gr e h⟩
  | oD xs =>
    obtain ⟨l, vs, e1, hl, gl, fl, h⟩ := h
    obtain ⟨a, b⟩ := hg l gl (by rw [hl]; intro z; cases z)
    exact ⟨l, vs, e1, b.trans hl, a, fl, DenK.gr e h⟩
  | oI p xs =>
    obtain ⟨l, dx, vs, e1, ep, hl, gl, fl, h⟩ := h
    obtain ⟨a, b⟩ := hg l gl (by rw [hl]; intro z; cases z)
    exact ⟨l, dx, vs, e1, ep, b.trans hl, a, fl, DenF.gr e h⟩
theorem Slots.gr {G' H' : Hp} (L : Slots W F G H σ δ) (e : Gr G G') (hg : ∀ l, G l = none → H l ≠ none → G' l = none ∧ H' l = H l) : Slots W F G' H' σ δ := ⟨L.len, fun i s h => (L.ok i s h).gr e hg, L.ne⟩
/-- into the lock -/
theorem Ok.lock (o : Ok W F G H) (h : G p = some (.dK kvs)) : Ok W F (upd G p (.frz od (.dK kvs))) (upd H p (.frz od (.dK kvs))) := by
  have nS : ¬ W.S p := fun hS => by
    rw [o.gs p hS] at h
    cases h
  have hh := o.gh _ _ h
  refine ⟨fun a u z => ?_, W.loc _ _ (fun a u zs z => by rw [upd_ne (fun (e : a = p) => zs.elim (fun w => nS (e ▸ w)) fun ⟨φ, w⟩ => by rw [e, hh, w] at z; cases z)]; exact z) o.iv, fun a hS => ?_, fun a hF => ?_, o.sf⟩
  · by_cases e : a = p
    · subst e
      rw [upd_same] at z ⊢
      exact z
    · rw [upd_ne e] at z ⊢
      exact o.gh a u z
  · rw [upd_ne (fun (e : a = p) => nS (e ▸ hS))]
    exact o.gs a hS
  · by_cases e : a = p
    · subst e
      rw [upd_same]
      intro z
      cases z
    · rw [upd_ne e]
      exact o.fd a hF
theorem Slots.lock (o : Ok W F G H) (L : Slots W F G H σ δ) (h : G p = some (.dK kvs)) : Slots W F (upd G p (.frz od (.dK kvs))) (upd H p (.frz od (.dK kvs))) σ δ :=
  L.gr (gr_lock h) fun l gl hl => by
    have n : l ≠ p := fun e => by
      subst e
      rw [gl] at h
      cases h
    exact ⟨by rw [upd_ne n]; exact gl, upd_ne n⟩
theorem cnt_lock (o : Ok W F G H) (h : G p = some (.dK kvs)) : W.cnt (upd H p (.frz od (.dK kvs))) = W.cnt H := by
  have nS : ¬ W.S p := fun hS => by
    rw [o.gs p hS] at h
    cases h
  exact W.cloc _ _ (fun a u zs z => by rw [upd_ne (fun (e : a = p) => zs.elim (fun w => nS (e ▸ w)) fun ⟨φ, w⟩ => by rw [e, o.gh _ _ h, w] at z; cases z)]; exact z) o.iv
/-- out of the lock -/
theorem StF.unlock (o : Ok W F G H) (h : G p = some (.dK kvs)) (st : StF W F c (upd G p (.frz od (.dK kvs))) (upd H p (.frz od (.dK kvs))) G1 H1) : G1 p = some (.frz od (.dK kvs)) ∧ H1 p = some (.frz od (.dK kvs)) ∧ StF W F c G H (upd G1 p (.dK kvs)) (upd H1 p (.dK kvs)) := by
  have nS : ¬ W.S p := fun hS => by
    rw [o.gs p hS] at h
    cases h
  have g1 := st.gg p _ upd_same
  have h1 := st.gh p _ g1
  have up : W.Kp H1 (upd H1 p (.dK kvs)) := fun a u zs z => by
    rw [upd_ne (fun (e : a = p) => zs.elim (fun w => nS (e ▸ w)) fun ⟨φ, w⟩ => by rw [e, h1, w] at z; cases z)]
    exact z
  refine ⟨g1, h1, fun a u z => ?_, fun a u z => ?_, fun a u hF z zs => ?_, fun a z => ?_, W.loc _ _ up st.iv, ?_⟩
  · by_cases e : a = p
    · subst e
      rw [upd_same, ← z, h]
    · rw [upd_ne e]
      exact st.gg a u (by rw [upd_ne e]; exact z)
  · by_cases e : a = p
    · subst e
      rw [upd_same] at z ⊢
      exact z
    · rw [upd_ne e] at z ⊢
      exact st.gh a u z
  · by_cases e : a = p
    · subst e
      rw [o.gh _ _ h] at z
      rw [upd_same]
      exact z
    · rw [upd_ne e]
      exact st.hh a u hF (by rw [upd_ne e]; exact z) zs
  · by_cases e : a = p
    · subst e
      exact .inl (by rw [h]; intro q; cases q)
    · rw [upd_ne e] at z
      rcases st.fr a z with q | q
      · rw [upd_ne e] at q
        exact .inl q
      · exact .inr q
  · rw [W.cloc H1 _ up st.iv]
    have := st.ct
    rw [cnt_lock o h] at this
    exact this
theorem Slots.unlock (L : Slots W F G1 H1 σ δ) (g1 : G1 p = some (.frz od (.dK kvs))) : Slots W F (upd G1 p (.dK kvs)) (upd H1 p (.dK kvs)) σ δ :=
  L.gr (gr_unlock g1) fun l gl hl => by
    have n : l ≠ p := fun e => by
      subst e
      rw [gl] at g1
      cases g1
    exact ⟨by rw [upd_ne n]; exact gl, upd_ne n⟩
theorem DenK.getp {W : Wd K C Ω} {G : Hp} : ∀ {ds : List (Key × D)} {kvs : List (Key × V)} {i : Nat} {k : Key} {v : V}, DenK W G ds kvs → kvs[i]? = some (k, v) → ∃ d, ds[i]? = some (k, d) ∧ Den W G d v
  | _, _, _, _, _, .nil, e => by simp at e
  | _, _, 0, _, _, .cons h _, e => by
    simp at e
    obtain ⟨rfl, rfl⟩ := e
    exact ⟨_, rfl, h⟩
  | _, _, i + 1, _, _, .cons _ h, e => by
    obtain ⟨v, h1, h2⟩ := DenK.getp (i := i) h (by simpa using e)
    exact ⟨v, by simpa using h1, h2⟩
def ofKey : Key → D
  | .inl i => .int i
  | .inr x => .str x
theorem den_key {W : Wd K C Ω} {G : Hp} (k : Key) : Den W G (ofKey k) (kV k) := by
  cases k with
  | inl i => exact .int i
  | inr x => exact .str x
def keysOf (ds : List (Key × D)) : List D := ds.map fun q => ofKey q.1
def itemsOf (ds : List (Key × D)) : List D := ds.map fun q => .tup [ofKey q.1, q.2]
/-- what a locked dict yields -/
theorem yk {ds : List (Key × D)} (hg : G p = some (.frz od (.dK kvs))) (hd : DenK W G ds kvs) : Yields K C Ω W G (Itk p od kvs) (keysOf ds) := fun F G2 H2 e o i => by
  have h2 := o.gh _ _ (e _ _ hg)
  refine ⟨fun d hi => ?_, fun hi => ⟨h2, by rw [keysOf, List.length_map, hd.len] at hi; exact hi⟩⟩
  have hi2 : i < kvs.length := by
    have := (List.getElem?_eq_some_iff.mp hi).1
    rw [keysOf, List.length_map, hd.len] at this
    exact this
  refine ⟨⟨h2, hi2⟩, fun x H3 y => ?_⟩
  obtain ⟨e3, k, v, f, ex⟩ := y
  subst e3 ex
  obtain ⟨dd, f2, _⟩ := hd.getp f
  rw [keysOf, List.getElem?_map, f2] at hi
  have hi' := Option.some.inj hi
  subst hi'
  exact ⟨G2, den_key k, o.refl⟩
theorem yi {ds : List (Key × D)} (hg : G p = some (.frz od (.dK kvs))) (hd : DenK W G ds kvs) : Yields K C Ω W G (Iti p od kvs) (itemsOf ds) := fun F G2 H2 e o i => by
  have h2 := o.gh _ _ (e _ _ hg)
  refine ⟨fun d hi => ?_, fun hi => ⟨h2, by rw [itemsOf, List.length_map, hd.len] at hi; exact hi⟩⟩
  have hi2 : i < kvs.length := by
    have := (List.getElem?_eq_some_iff.mp hi).1
    rw [itemsOf, List.length_map, hd.len] at this
    exact this
  refine ⟨⟨h2, hi2⟩, fun x H3 y => ?_⟩
  obtain ⟨T, k, v, f, ex, hT, e3⟩ := y
  subst e3 ex
  obtain ⟨dd, f2, dv⟩ := hd.getp f
  rw [itemsOf, List.getElem?_map, f2] at hi
  have hi' := Option.some.inj hi
  subst hi'
  have st2 := o.new (o := .tup [kV k, v]) hT
  exact ⟨_, .tup (.inl (.inl upd_same)) (.cons ((den_key k).mono st2.gg) (.cons (dv.mono fun a u z => st2.gg a u (e a u z)) .nil)), st2⟩
end
/-- for k in d | for k, v in d.items(): the walk w, its things xs -/
theorem run_lk {td : TE} {ds : List (Key × D)} {xs : List D} {Pv : Nat → List Sl → Prop} {n : Nat} {wk : TE → TI} {J : Addr → Obj → List (Key × V) → It}
    (hw : ∀ (td : TE) (σ : L2.St) (H : Hp) (Q : It → Hp → Prop) (p : Addr) (od : Obj) (kvs : List (Key × V)), (∀ Q' : VK, Q' (.ref p) H → td σ H Q') → H p = some (.frz od (.dK kvs)) → Q (J p od kvs) H → wk td σ H Q)
    (hj : ∀ (W : Wd K C Ω) (G : Hp) (p : Addr) (od : Obj) (kvs : List (Key × V)), G p = some (.frz od (.dK kvs)) → DenK W G ds kvs → Yields K C Ω W G (J p od kvs) xs)
    (ha : AtD K C Ω td δ ds) (hn : xs.length ≤ n) (h0 : Pv 0 δ)
    (hs : ∀ i x δ1, xs[i]? = some x → Pv i δ1 → ∃ δ2, TgF K C Ω g x δ1 δ2 ∧ Run K C Ω c2 tu δ2 (bodyO (Pv (i + 1)) (fun δ' => O (.nx δ')) O)) (hd : ∀ δ1, Pv xs.length δ1 → O (.nx δ1)) :
    Run K C Ω (0 + n * c2) (tLkS (tFor (wk td) g tu)) δ O := fun W F G H σ o s m Z nn r b e => by
  obtain ⟨p, kvs, rd, dk, ht⟩ := ha W F G H σ o s
  rcases rd with rd | ⟨od, rd⟩
  · refine .inl ⟨p, .dK kvs, o.gh _ _ rd, trivial, fun od => ?_⟩
    have o2 := o.lock (od := od) rd
    have s2 := Slots.lock (od := od) o s rd
    have g2 : upd G p (.frz od (.dK kvs)) p = some (.frz od (.dK kvs)) := upd_same
    refine hw td σ _ _ p od kvs (ht _ (fun a C dx fs z => ?_)) upd_same ?_
    · rw [upd_ne]
      · exact z
      · intro e
        subst e
        rw [o.gh _ _ rd] at z
        cases z
    · refine for_core o2 s2 (by rw [cnt_lock o rd]; exact m) o2.refl (hj W _ p od kvs g2 (dk.gr (gr_lock rd))) hn h0 hs hd (fun δ' σ' G' H' q st s' => ?_) (fun d v G' H' q st dd => ?_)
      · obtain ⟨z1, z2, z3⟩ := st.unlock o rd
        exact ⟨z2, nn δ' σ' _ _ q z3 (s'.unlock z1)⟩
      · obtain ⟨z1, z2, z3⟩ := st.unlock o rd
        exact ⟨z2, r d v _ _ q z3 (dd.gr (gr_unlock z1))⟩
  · refine .inr (hw td σ _ _ p od kvs (ht _ (fun a C dx fs z => z)) (o.gh _ _ rd) ?_)
    exact for_core o s m o.refl (hj W _ p od kvs rd dk) hn h0 hs hd nn r
theorem wk_keys (td : TE) (σ : L2.St) (H : Hp) (Q : It → Hp → Prop) (p : Addr) (od : Obj) (kvs : List (Key × V)) (h : ∀ Q' : VK, Q' (.ref p) H → td σ H Q') (e : H p = some (.frz od (.dK kvs))) (q : Q (Itk p od kvs) H) : iKeys td σ H Q :=
  h _ ⟨p, od, rfl, .inl ⟨kvs, e, q⟩⟩
theorem wk_items (td : TE) (σ : L2.St) (H : Hp) (Q : It → Hp → Prop) (p : Addr) (od : Obj) (kvs : List (Key × V)) (h : ∀ Q' : VK, Q' (.ref p) H → td σ H Q') (e : H p = some (.frz od (.dK kvs))) (q : Q (Iti p od kvs) H) : iItems td σ H Q :=
  h _ ⟨p, od, kvs, rfl, e, q⟩
theorem run_keys {td : TE} {ds : List (Key × D)} {Pv : Nat → List Sl → Prop} {n : Nat} (ha : AtD K C Ω td δ ds) (hn : (keysOf ds).length ≤ n) (h0 : Pv 0 δ)
    (hs : ∀ i x δ1, (keysOf ds)[i]? = some x → Pv i δ1 → ∃ δ2, TgF K C Ω g x δ1 δ2 ∧ Run K C Ω c2 tu δ2 (bodyO (Pv (i + 1)) (fun δ' => O (.nx δ')) O)) (hd : ∀ δ1, Pv (keysOf ds).length δ1 → O (.nx δ1)) : Run K C Ω (0 + n * c2) (tLkS (tFor (iKeys td) g tu)) δ O :=
  run_lk (wk := iKeys) (J := Itk) wk_keys (fun W G p od kvs hg hd => yk hg hd) ha hn h0 hs hd
theorem run_items {td : TE} {ds : List (Key × D)} {Pv : Nat → List Sl → Prop} {n : Nat} (ha : AtD K C Ω td δ ds) (hn : (itemsOf ds).length ≤ n) (h0 : Pv 0 δ)
    (hs : ∀ i x δ1, (itemsOf ds)[i]? = some x → Pv i δ1 → ∃ δ2, TgF K C Ω g x δ1 δ2 ∧ Run K C Ω c2 tu δ2 (bodyO (Pv (i + 1)) (fun δ' => O (.nx δ')) O)) (hd : ∀ δ1, Pv (itemsOf ds).length δ1 → O (.nx δ1)) : Run K C Ω (0 + n * c2) (tLkS (tFor (iItems td) g tu)) δ O :=
  run_lk (wk := iItems) (J := Iti) wk_items (fun W G p od kvs hg hd => yi hg hd) ha hn h0 hs hd
/-- [e for k in d if ..] -/
theorem el_lk {td : TE} {ds : List (Key × D)} {xs : List D} {Pd : Nat → List D → Prop} {vs : List Nat} {n : Nat} {wk : TE → TI} {J : Addr → Obj → List (Key × V) → It}
    (hw : ∀ (td : TE) (σ : L2.St) (H : Hp) (Q : It → Hp → Prop) (p : Addr) (od : Obj) (kvs : List (Key × V)), (∀ Q' : VK, Q' (.ref p) H → td σ H Q') → H p = some (.frz od (.dK kvs)) → Q (J p od kvs) H → wk td σ H Q)
    (hj : ∀ (W : Wd K C Ω) (G : Hp) (p : Addr) (od : Obj) (kvs : List (Key × V)), G p = some (.frz od (.dK kvs)) → DenK W G ds kvs → Yields K C Ω W G (J p od kvs) xs)
    (ha : AtD K C Ω td δ ds) (hn : xs.length ≤ n) (hn2 : n < sizeLine) (h0 : Pd 0 [])
    (hs : ∀ i x acc, xs[i]? = some x → Pd i acc → ∃ δ2, TgR K C Ω g vs x (wipeS δ vs) δ2 ∧ ∃ RT : Bool → Prop, EvT K C Ω c2 tt δ2 RT ∧ (RT true → Ev K C Ω c3 te δ2 fun y => Pd (i + 1) (acc ++ [y])) ∧ (RT false → Pd (i + 1) acc)) :
    EvL K C Ω (0 + n * (c2 + c3)) (tLkE (tLc (wk td) g tt te vs)) δ (Pd xs.length) := fun W F G H σ o s m Q q => by
  obtain ⟨p, kvs, rd, dk, ht⟩ := ha W F G H σ o s
  rcases rd with rd | ⟨od, rd⟩
  · refine .inl ⟨p, .dK kvs, o.gh _ _ rd, trivial, fun od => ?_⟩
    have o2 := o.lock (od := od) rd
    have s2 := Slots.lock (od := od) o s rd
    have g2 : upd G p (.frz od (.dK kvs)) p = some (.frz od (.dK kvs)) := upd_same
    refine hw td σ _ _ p od kvs (ht _ (fun a C dx fs z => ?_)) upd_same ?_
    · rw [upd_ne]
      · exact z
      · intro e
        subst e
        rw [o.gh _ _ rd] at z
        cases z
    · intro Dd hD
      refine lc_core (Q := fun v H' => H' p = some (.frz od (.dK kvs)) ∧ Q v (upd H' p (.dK kvs))) o2 s2 (by rw [cnt_lock o rd]; exact m) o2.refl (hj W _ p od kvs g2 (dk.gr (gr_lock rd))) hn hn2 h0 hs hD fun ws G' H' ys st hD0 gw hw hdd hp => ?_
      have oa := o.all
      have z := (st.f (oa.lock (od := od) rd)).unlock oa rd
      obtain ⟨z1, z2, z3⟩ := z
      have np : Dd ≠ p := fun e => by
        subst e
        rw [z1] at gw
        cases gw
      refine ⟨z2, q Dd ws _ _ ys z3.all ?_ ?_ ?_ (Dens.gr (gr_unlock z1) hdd) hp⟩
      · rw [upd_ne np] at hD0
        exact hD0
      · rw [upd_ne np]
        exact gw
      · rw [upd_ne np]
        exact hw
  · refine .inr (hw td σ _ _ p od kvs (ht _ (fun a C dx fs z => z)) (o.gh _ _ rd) fun Dd hD => ?_)
    exact lc_core o s m o.refl (hj W _ p od kvs rd dk) hn hn2 h0 hs hD fun ws G' H' ys st hD0 gw hw hdd hp => q Dd ws _ _ ys st hD0 gw hw hdd hp
theorem el_keys {td : TE} {ds : List (Key × D)} {vs : List Nat} {n : Nat} {f : D → D} {p : D → Bool} (ha : AtD K C Ω td δ ds) (hn : (keysOf ds).length ≤ n) (hn2 : n < sizeLine)
    (hs : ∀ x, x ∈ keysOf ds → ∃ δ2, TgR K C Ω g vs x (wipeS δ vs) δ2 ∧ EvT K C Ω 0 tt δ2 (· = p x) ∧ (p x = true → Ev K C Ω 0 te δ2 (· = f x))) :
    EvL K C Ω (0 + n * (0 + 0)) (tLkE (tLc (iKeys td) g tt te vs)) δ (· = ((keysOf ds).filter p).map f) :=
  (el_lk (wk := iKeys) (J := Itk) (Pd := fun i acc => acc = (((keysOf ds).take i).filter p).map f) wk_keys (fun W G p od kvs hg hd => yk hg hd) ha hn hn2 rfl fun i x acc hx hp => by
    obtain ⟨δ2, h1, h2, h3⟩ := hs x (List.mem_of_getElem? hx)
    have ht : ((keysOf ds).take (i + 1)) = (keysOf ds).take i ++ [x] := by
      rw [List.take_add_one, hx]
      rfl
    refine ⟨δ2, h1, (· = p x), h2, fun z => (h3 z.symm).imp fun y ey => ?_, fun z => ?_⟩
    · rw [hp, ey, ht, List.filter_append, List.map_append, List.filter_cons, if_pos z.symm]
      rfl
    · rw [hp, ht, List.filter_append, List.map_append, List.filter_cons, if_neg (by rw [← z]; simp)]
      simp).imp fun ys h => by rw [h, List.take_length]
end Z
set_option Elab.async false
set_option linter.all false
set_option maxRecDepth 100000
set_option maxHeartbeats 4000000
/-! Built-ins as data, instances, promises of defs. -/
namespace Z
open PySem PySem.Spec PyProof.Rows L2
variable {K : PySem.W.Frag} {C : Addr} {Ω : List (Addr × Str)} {c c1 c2 c3 : Nat} {ta tb te td ty tl tk tv : TE} {t u tt : TT} {ts tu tz : TS} {δ δ' : List Sl} {R R' : D → Prop} {a b d : D} {O O' : Out → Prop} {wi : TI} {g : TG} {RL : List D → Prop}

/-! ### texts in order -/
def leS (a b : Str) : Bool := !ltCps b.cps.toList a.cps.toList
theorem lt_irr : ∀ a : List Nat, ltCps a a = false
  | [] => rfl
  | x :: r => by simp [ltCps, lt_irr r]
theorem lt_tri : ∀ a b : List Nat, ltCps a b = false → ltCps b a = false → a = b
  | [], [], _, _ => rfl
  | [], _ :: _, h, _ => by cases h
  | _ :: _, [], _, h => by cases h
  | x :: r, y :: s, h1, h2 => by
    simp only [ltCps, Bool.or_eq_false_iff, decide_eq_false_iff_not, Bool.and_eq_false_iff, beq_eq_false_iff_ne, ne_eq] at h1 h2
    have e : x = y := by omega
    subst e
    have e2 := lt_tri r s (h1.2.resolve_left fun z => z rfl) (h2.2.resolve_left fun z => z rfl)
    rw [e2]
theorem lt_tr : ∀ a b d : List Nat, ltCps a b = true → ltCps b d = true → ltCps a d = true
  | _, [], [], _, h => by cases h
  | _, _ :: _, [], _, h => by cases h
  | [], _, _ :: _, _, _ => rfl
  | _ :: _, [], _ :: _, h, _ => by cases h
  | x :: r, y :: s, z :: q, h1, h2 => by
    simp only [ltCps, Bool.or_eq_true, decide_eq_true_eq, Bool.and_eq_true, beq_iff_eq] at h1 h2 ⊢
    rcases h1 with h1 | ⟨e1, h1⟩
    · rcases h2 with h2 | ⟨e2, h2⟩
      · exact .inl (by omega)
      · exact .inl (by omega)
    · rcases h2 with h2 | ⟨e2, h2⟩
      · exact .inl (by omega)
      · exact .inr ⟨by omega, lt_tr r s q h1 h2⟩
theorem leS_trans (a b d : Str) (h1 : leS a b = true) (h2 : leS b d = true) : leS a d = true := by
  unfold leS at *
  cases e : ltCps d.cps.toList a.cps.toList with
  | false => rfl
  | true =>
    cases e1 : ltCps a.cps.toList b.cps.toList with
    | true =>
      rw [lt_tr _ _ _ e e1] at h2
      cases h2
    | false =>
      have q : a.cps.toList = b.cps.toList := lt_tri _ _ e1 (by simpa using h1)
      rw [q] at e
      rw [e] at h2
      cases h2
theorem leS_total (a b : Str) : (leS a b || leS b a) = true := by
  unfold leS
  cases e : ltCps b.cps.toList a.cps.toList with
  | false => rfl
  | true =>
    cases e1 : ltCps a.cps.toList b.cps.toList with
    | false => rfl
    | true =>
      have := lt_tr _ _ _ e e1
      rw [lt_irr] at this
      cases this
theorem str_ext {a b : Str} (h : a.cps.toList = b.cps.toList) : a = b := by
  cases a with
  | mk x =>
    cases b with
    | mk y =>
      have e : x = y := by
        cases x
        cases y
        exact congrArg _ h
      rw [e]
theorem leS_anti (a b : Str) (h1 : leS a b = true) (h2 : leS b a = true) : a = b := by
  unfold leS at *
  exact str_ext (lt_tri _ _ (by simpa using h2) (by simpa using h1))
theorem leS_refl (a : Str) : leS a a = true := by
  unfold leS
  rw [lt_irr]
  rfl
theorem rising_pw : ∀ (p : Str) (r : List Str), risingS p r = true → (p :: r).Pairwise (fun a b => leS a b = true)
  | p, [], _ => List.pairwise_singleton _ _
  | p, x :: r, h => by
    have h' : (!ltCps x.cps.toList p.cps.toList && risingS x r) = true := h
    rw [Bool.and_eq_true] at h'
    have ih := rising_pw x r h'.2
    have hx : leS p x = true := h'.1
    refine List.pairwise_cons.mpr ⟨fun y hy => ?_, ih⟩
    rcases List.mem_cons.mp hy with e | hy
    · rw [e]
      exact hx
    · exact leS_trans _ _ _ hx ((List.pairwise_cons.mp ih).1 y hy)
theorem sorted_pw {xs : List Str} (h : sortedS xs = true) : xs.Pairwise (fun a b => leS a b = true) := by
  cases xs with
  | nil => exact List.Pairwise.nil
  | cons p r => exact rising_pw p r h
def ssort (xs : List Str) : List Str := xs.mergeSort leS
theorem ssort_perm (xs : List Str) : (ssort xs).Perm xs := List.mergeSort_perm xs leS
theorem ssort_pw (xs : List Str) : (ssort xs).Pairwise (fun a b => leS a b = true) := List.pairwise_mergeSort leS_trans leS_total xs
theorem ssort_uniq {xs ys : List Str} (h : ys.Perm xs) (hs : ys.Pairwise (fun a b => leS a b = true)) : ys = ssort xs :=
  List.Perm.eq_of_pairwise (fun a b _ _ h1 h2 => leS_anti a b h1 h2) hs (ssort_pw xs) (h.trans (ssort_perm xs).symm)
def isort (xs : List Int) : List Int := xs.mergeSort fun a b => decide (a ≤ b)
theorem isort_perm (xs : List Int) : (isort xs).Perm xs := List.mergeSort_perm xs _
theorem isort_pw (xs : List Int) : (isort xs).Pairwise (· ≤ ·) := (List.pairwise_mergeSort (le := fun a b : Int => decide (a ≤ b)) (fun a b d h1 h2 => by simp at *; omega) (fun a b => by simp; omega) xs).imp fun h => by simpa using h
theorem isort_uniq {xs ys : List Int} (h : ys.Perm xs) (hs : ys.Pairwise (· ≤ ·)) : ys = isort xs :=
  List.Perm.eq_of_pairwise (fun a b _ _ h1 h2 => by omega) hs (isort_pw xs) (h.trans (isort_perm xs).symm)

/-! ### built-ins by values -/
theorem d1 {W : Wd K C Ω} {G : Hp} {vs : List V} {x : D} (h : Dens W G [x] vs) : ∃ v, vs = [v] ∧ Den W G x v := by
  cases h with
  | cons h1 h2 =>
    cases h2
    exact ⟨_, rfl, h1⟩
theorem d2 {W : Wd K C Ω} {G : Hp} {vs : List V} {x y : D} (h : Dens W G [x, y] vs) : ∃ v w, vs = [v, w] ∧ Den W G x v ∧ Den W G y w := by
  cases h with
  | cons h1 h2 =>
    obtain ⟨w, e, h3⟩ := d1 h2
    exact ⟨_, w, by rw [e], h1, h3⟩
theorem rc_len_l {xs : List D} : RC K C Ω (fun ys H Q => ∃ x n, ys = [x] ∧ LenV K x H n ∧ Q (.int n) H) [.lst xs] (· = .int xs.length) := fun W F G H vs o dd Q q => by
  obtain ⟨v, rfl, h⟩ := d1 dd
  cases h with
  | lst h1 h2 => exact ⟨_, _, rfl, .inl ⟨_, .inl (.inl (o.gh _ _ h1)), h2.len⟩, q _ G H _ o.refl (.int _) rfl⟩
theorem rc_len_t {xs : List D} : RC K C Ω (fun ys H Q => ∃ x n, ys = [x] ∧ LenV K x H n ∧ Q (.int n) H) [.tup xs] (· = .int xs.length) := fun W F G H vs o dd Q q => by
  obtain ⟨v, rfl, h⟩ := d1 dd
  cases h with
  | tup h1 h2 => exact ⟨_, _, rfl, .inr ⟨_, (Gr.of o.gh).st h1, h2.len⟩, q _ G H _ o.refl (.int _) rfl⟩
theorem rc_len_s {x : Str} (hx : x.length ≤ sizeLine) : RC K C Ω (fun ys H Q => ∃ x n, ys = [x] ∧ LenV K x H n ∧ Q (.int n) H) [.str x] (· = .int x.length) := fun W F G H vs o dd Q q => by
  obtain ⟨v, rfl, h⟩ := d1 dd
  cases h
  exact ⟨_, _, rfl, ⟨hx, rfl⟩, q _ G H _ o.refl (.int _) rfl⟩
/-- len of a dict, locked or not -/
theorem call_lenR {X : Cx} : CallR X (.builtin "len") (fun xs H Q => ∃ a kvs, xs = [V.ref a] ∧ Rd H a (.dK kvs) ∧ Q (.int kvs.length) H) := by
  intro pins s σ H xs us Q I r h
  obtain ⟨p, ks, rfl, hp, q⟩ := h
  cases r with
  | cons r1 r2 =>
    cases r2
    cases (show _ = Value.ref p from r1)
    exact d_len I hp fun tk s' J => ⟨.int ks.length, H, J, ⟨tk, rfl⟩, q⟩
theorem rc_len_d {ds : List (Key × D)} : RC K C Ω (fun xs H Q => ∃ a kvs, xs = [V.ref a] ∧ Rd H a (.dK kvs) ∧ Q (.int kvs.length) H) [.dic ds] (· = .int ds.length) := fun W F G H vs o dd Q q => by
  obtain ⟨v, rfl, h⟩ := d1 dd
  cases h with
  | dic h1 h2 => exact ⟨_, _, rfl, same_rd o.gh h1, q _ G H _ o.refl (.int _) (by rw [h2.len])⟩
theorem rc_int {i : Int} : RC K C Ω (fun xs H Q => (∃ i, xs = [.int i] ∧ Q (.int i) H) ∨ ∃ k, xs = [.bl k] ∧ Q (.int (if k then 1 else 0)) H) [.int i] (· = .int i) := fun W F G H vs o dd Q q => by
  obtain ⟨v, rfl, h⟩ := d1 dd
  cases h
  exact .inl ⟨i, rfl, q _ G H _ o.refl (.int _) rfl⟩
theorem rc_intB {k : Bool} : RC K C Ω (fun xs H Q => (∃ i, xs = [.int i] ∧ Q (.int i) H) ∨ ∃ k, xs = [.bl k] ∧ Q (.int (if k then 1 else 0)) H) [.bl k] (· = .int (if k then 1 else 0)) := fun W F G H vs o dd Q q => by
  obtain ⟨v, rfl, h⟩ := d1 dd
  cases h
  exact .inr ⟨k, rfl, q _ G H _ o.refl (.int _) rfl⟩
theorem rc_max2 {i j : Int} : RC K C Ω (fun xs H Q => ∃ i j, xs = [.int i, .int j] ∧ Q (.int (if j > i then j else i)) H) [.int i, .int j] (· = .int (if j > i then j else i)) := fun W F G H vs o dd Q q => by
  obtain ⟨v, w, rfl, h, h2⟩ := d2 dd
  cases h
  cases h2
  exact ⟨i, j, rfl, q _ G H _ o.refl (.int _) rfl⟩
theorem rc_sum {ns : List Int} : RC K C Ω (rSum K) [.lst (ns.map D.int)] (· = .int ns.sum) := fun W F G H vs o dd Q q => by
  obtain ⟨v, rfl, h⟩ := d1 dd
  cases h with
  | lst h1 h2 =>
    have e := h2.ints
    subst e
    exact ⟨_, ns, rfl, .inl (.inl (o.gh _ _ h1)), q _ G H _ o.refl (.int _) rfl⟩
theorem rc_all {bs : List Bool} : RC K C Ω (rAll K) [.lst (bs.map D.bl)] (· = .bl (bs.all id)) := fun W F G H vs o dd Q q => by
  obtain ⟨v, rfl, h⟩ := d1 dd
  cases h with
  | lst h1 h2 =>
    have e := h2.bls
    subst e
    exact ⟨_, bs, rfl, .inl (.inl (o.gh _ _ h1)), q _ G H _ o.refl (.bl _) rfl⟩
theorem rc_any {bs : List Bool} : RC K C Ω (rAny K) [.lst (bs.map D.bl)] (· = .bl (bs.any id)) := fun W F G H vs o dd Q q => by
  obtain ⟨v, rfl, h⟩ := d1 dd
  cases h with
  | lst h1 h2 =>
    have e := h2.bls
    subst e
    exact ⟨_, bs, rfl, .inl (.inl (o.gh _ _ h1)), q _ G H _ o.refl (.bl _) rfl⟩
/-- a new list out of a call -/
theorem own_of {W : Wd K C Ω} {F : Addr → Prop} {G H : Hp} {ws : List V} {Q : VK} (o : Ok W F G H) {xs : List D} (hd : Dens W G xs ws) (q : ∀ p vs' G' H' ys, Stp W 0 G H G' H' → H p = none → G' p = none → H' p = some (.lst vs') → Dens W G' ys vs' → ys = xs → Q (.ref p) H') : ∀ p, H p = none → Q (.ref p) (upd H p (.lst ws)) := fun p hp =>
  q p ws G _ xs (o.own hp) hp (o.gnone hp) upd_same hd rfl
theorem rl_list_l {xs : List D} : RCL K C Ω (fun ys H Q => ∃ p zs, ys = [.ref p] ∧ (SqL K H p zs ∨ SqT K H p zs) ∧ ∀ l, H l = none → Q (.ref l) (upd H l (.lst zs))) [.lst xs] (· = xs) := fun W F G H vs o dd Q q => by
  obtain ⟨v, rfl, h⟩ := d1 dd
  cases h with
  | lst h1 h2 => exact ⟨_, _, rfl, .inl (.inl (.inl (o.gh _ _ h1))), own_of o h2 q⟩
theorem rl_list_t {xs : List D} : RCL K C Ω (fun ys H Q => ∃ p zs, ys = [.ref p] ∧ (SqL K H p zs ∨ SqT K H p zs) ∧ ∀ l, H l = none → Q (.ref l) (upd H l (.lst zs))) [.tup xs] (· = xs) := fun W F G H vs o dd Q q => by
  obtain ⟨v, rfl, h⟩ := d1 dd
  cases h with
  | tup h1 h2 => exact ⟨_, _, rfl, .inr ((Gr.of o.gh).st h1), own_of o h2 q⟩
theorem dens_keys {W : Wd K C Ω} {G : Hp} : ∀ {ds : List (Key × D)} {kvs : List (Key × V)}, DenK W G ds kvs → Dens W G (keysOf ds) (kvs.map fun kv => kV kv.1)
  | _, _, .nil => .nil
  | _, _, .cons _ h => .cons (den_key _) (dens_keys h)
theorem rl_list_d {ds : List (Key × D)} : RCL K C Ω (fun xs H Q => ∃ (a : Addr) (kvs : List (Key × V)), xs = [.ref a] ∧ Rd H a (.dK kvs) ∧ ∀ p, H p = none → Q (.ref p) (upd H p (.lst (kvs.map fun kv => kV kv.1)))) [.dic ds] (· = keysOf ds) := fun W F G H vs o dd Q q => by
  obtain ⟨v, rfl, h⟩ := d1 dd
  cases h with
  | dic h1 h2 => exact ⟨_, _, rfl, same_rd o.gh h1, own_of o (dens_keys h2) q⟩
theorem rl_sortS {xs : List Str} (h64 : xs.length < 64) : RCL K C Ω (rSortedS K) [.lst (xs.map D.str)] (· = (ssort xs).map D.str) := fun W F G H vs o dd Q q => by
  obtain ⟨v, rfl, h⟩ := d1 dd
  cases h with
  | lst h1 h2 =>
    have e := h2.strs
    subst e
    refine ⟨_, xs, rfl, .inl (.inl (o.gh _ _ h1)), h64, fun ys p hp hs hn => ?_⟩
    rw [ssort_uniq hp (sorted_pw hs)]
    exact own_of o (dens_strs _) q p hn
theorem rl_sortI {xs : List Int} (h64 : xs.length < 64) : RCL K C Ω (rSorted K) [.lst (xs.map D.int)] (· = (isort xs).map D.int) := fun W F G H vs o dd Q q => by
  obtain ⟨v, rfl, h⟩ := d1 dd
  cases h with
  | lst h1 h2 =>
    have e := h2.ints
    subst e
    refine ⟨_, xs, rfl, .inl (.inl (o.gh _ _ h1)), h64, fun ys p hp hs hn => ?_⟩
    rw [isort_uniq hp hs]
    exact own_of o (dens_ints _) q p hn
theorem keys_strs {W : Wd K C Ω} {G : Hp} : ∀ {ds : List (Key × D)} {kvs : List (Key × V)}, DenK W G ds kvs → kvs.map (·.1) = ds.map (·.1)
  | _, _, .nil => rfl
  | _, _, .cons _ h => by
    rw [List.map_cons, List.map_cons, keys_strs h]
theorem rl_sortD {ds : List (Key × D)} {xs : List Str} (hk : ds.map (·.1) = xs.map Sum.inr) (h64 : xs.length < 64) : RCL K C Ω (fun ys H Q => ∃ (a : Addr) (kvs : List (Key × V)) (ks : List Str), ys = [.ref a] ∧ Rd H a (.dK kvs) ∧ kvs.map (·.1) = ks.map Sum.inr ∧ ks.length < 64 ∧
    ∀ zs p, zs.Perm ks → sortedS zs = true → H p = none → Q (.ref p) (upd H p (.lst (zs.map V.str)))) [.dic ds] (· = (ssort xs).map D.str) := fun W F G H vs o dd Q q => by
  obtain ⟨v, rfl, h⟩ := d1 dd
  cases h with
  | dic h1 h2 =>
    refine ⟨_, _, xs, rfl, same_rd o.gh h1, (keys_strs h2).trans hk, h64, fun ys p hp hs hn => ?_⟩
    rw [ssort_uniq hp (sorted_pw hs)]
    exact own_of o (dens_strs _) q p hn
/-- dict(list of pairs) -/
def mergeD (ds : List (Key × D)) : List (Key × D) := ds.foldl (fun acc kv => putD acc kv.1 kv.2) []
theorem merge_ok {W : Wd K C Ω} {G : Hp} : ∀ {ds : List (Key × D)} {kvs : List (Key × V)} {as : List (Key × D)} {bs : List (Key × V)}, DenK W G ds kvs → DenK W G as bs → DenK W G (ds.foldl (fun acc kv => putD acc kv.1 kv.2) as) (mergeK bs kvs)
  | _, _, _, _, .nil, h => h
  | (_, _) :: ds, (_, _) :: kvs, _, _, .cons h1 h2, h => merge_ok (ds := ds) (kvs := kvs) h2 (h.put h1)
theorem pairs_ok {W : Wd K C Ω} {G H : Hp} (e : Same G H) : ∀ {ds : List (Key × D)} {vs : List V}, Dens W G (itemsOf ds) vs → ∃ (ps : List Addr) (kvs : List (Key × V)), vs = ps.map V.ref ∧ Paired (fun p kv => SqT K H p [kV kv.1, kv.2]) ps kvs ∧ DenK W G ds kvs
  | [], _, .nil => ⟨[], [], rfl, .nil, .nil⟩
  | (k, d) :: ds, _, .cons h1 h2 => by
    obtain ⟨ps, kvs, e1, e2, e3⟩ := pairs_ok e (ds := ds) h2
    cases h1 with
    | tup h3 h4 =>
      obtain ⟨x, y, e4, h5, h6⟩ := d2 h4
      subst e4
      have ex : x = kV k := keyD_v h5 (by cases k <;> rfl)
      subst ex
      exact ⟨_ :: ps, (k, y) :: kvs, by rw [e1]; rfl, .cons ((Gr.of e).st h3) e2, .cons h6 e3⟩
theorem rd_dict {ds : List (Key × D)} : RCD K C Ω (fun xs H Q => ∃ (a : Addr) (ps : List Addr) (kvs : List (Key × V)), xs = [.ref a] ∧ SqL K H a (ps.map V.ref) ∧ Paired (fun p kv => SqT K H p [kV kv.1, kv.2]) ps kvs ∧
    ∀ p, H p = none → Q (.ref p) (upd H p (.dK (mergeK [] kvs)))) [.lst (itemsOf ds)] (· = mergeD ds) := fun W F G H vs o dd Q q => by
  obtain ⟨v, rfl, h⟩ := d1 dd
  cases h with
  | lst h1 h2 =>
    obtain ⟨ps, kvs, e1, e2, e3⟩ := pairs_ok o.gh h2
    subst e1
    exact ⟨_, ps, kvs, rfl, .inl (.inl (o.gh _ _ h1)), e2, fun p hp => q p _ G _ _ (o.own hp) hp (o.gnone hp) upd_same (merge_ok e3 .nil) rfl⟩

/-! ### isinstance -/
def tyD : D → Option String
  | .non => some "NoneType"
  | .bl _ => some "bool"
  | .int _ => some "int"
  | .str _ => some "str"
  | .lst _ => some "list"
  | .tup _ => some "tuple"
  | .dic _ => some "dict"
  | _ => none
theorem ty_ok {W : Wd K C Ω} {G H : Hp} {v : V} {n : String} (e : Same G H) (h : Den W G d v) (hn : tyD d = some n) : TyX K H v (.type n) := by
  cases h with
  | non =>
    cases hn
    exact .base .non
  | bl b =>
    cases hn
    exact .base (.bl b)
  | int i =>
    cases hn
    exact .base (.int i)
  | str x =>
    cases hn
    exact .base (.str x)
  | stm => cases hn
  | adr a => cases hn
  | lst h1 h2 =>
    cases hn
    exact .base (.lst (e _ _ h1))
  | tup h1 h2 =>
    cases hn
    rcases h1 with (h1 | ⟨o, h1⟩) | ⟨o, its, n, h1, h3, _⟩
    · exact .base (.tup (e _ _ h1))
    · exact .fTuple (e _ _ h1)
    · exact .kTuple h1 h3
  | dic h1 h2 =>
    cases hn
    rcases h1 with h1 | ⟨o, h1⟩
    · exact .base (.dK (e _ _ h1))
    · exact .fDict (e _ _ h1)
  | ins h1 h2 => cases hn
theorem ev_isi {n m : String} {k : Bool} (h : Ev K C Ω c ta δ (· = d)) (hn : tyD d = some n) (hk : kitB n m = some k) : Ev K C Ω c (tCB (rIsi K) (tCons ta (tCons (tC (.ty m)) tNil))) δ (· = .bl k) := fun W F G H σ o s mm Q q =>
  h W F G H σ o s mm _ fun v G1 H1 d1 st dd e => by
    subst e
    exact ⟨v, .ty m, _, _, k, rfl, .ty m, ty_ok st.gh dd hn, kit_ty hk, q _ G1 H1 _ st (.bl k) rfl⟩
/-- isinstance(x, (A, B)) -/
theorem ev_isi2 {n m1 m2 : String} {k1 k2 : Bool} (h : Ev K C Ω c ta δ (· = d)) (hn : tyD d = some n) (hk1 : kitB n m1 = some k1) (hk2 : kitB n m2 = some k2) : Ev K C Ω c (tCB (rIsiT K) (tCons ta (tCons (tTup (tCons (tC (.ty m1)) (tCons (tC (.ty m2)) tNil))) tNil))) δ (· = .bl (k1 || k2)) := fun W F G H σ o s mm Q q =>
  h W F G H σ o s mm _ fun v G1 H1 d1 st dd e => by
    subst e
    have o1 := st.ok o
    refine ⟨by show 2 ≤ sizeLine; decide, fun p hp => ?_⟩
    have st2 := o1.new (o := .tup [.ty m1, .ty m2]) hp
    refine ⟨v, p, [.ty m1, .ty m2], _, [.type m1, .type m2], k1 || k2, rfl, upd_same, .cons (.ty m1) (.cons (.ty m2) .nil), ty_ok (fun a u z => st2.gh a u (st2.gg a u z)) dd hn, ?_, q _ _ _ _ ((st.trans st2).le (by omega)) (.bl _) rfl⟩
    refine kitAny_cons (kit_ty hk1) (fun e1 => ?_) fun e1 => by rw [e1]; rfl
    refine kitAny_cons (kit_ty hk2) (fun e2 => ?_) fun e2 => by rw [e2]; simp
    rw [e1, e2]
    exact kitAny_nil
/-! ### operators on lists -/
theorem rl_cat {tl1 tl2 : TE} {xs ys : List D} (h1 : Ev K C Ω c1 tl1 δ (· = .lst xs)) (h2 : Ev K C Ω c2 tl2 δ (· = .lst ys)) (hl : xs.length + ys.length ≤ sizeLine) : EvL K C Ω (c1 + c2) (tOp rCat tl1 tl2) δ (· = xs ++ ys) := fun W F G H σ o s m Q q =>
  h1 W F G H σ o s (by omega) _ fun x G1 H1 a st1 da ra => h2 W F G1 H1 σ (st1.ok o) (s.step o st1) (cost1 st1 m) _ fun y G2 H2 b st2 db rb => by
    subst ra rb
    cases da with
    | @lst p1 v1 _ a1 a2 =>
      cases db with
      | @lst p2 v2 _ b1 b2 =>
        have o2 := st2.ok (st1.ok o)
        have a3 := a2.mono st2.gg
        refine ⟨_, _, _, _, rfl, rfl, st2.gh _ _ (st2.gg _ _ a1), st2.gh _ _ b1, by rw [← a2.len, ← b2.len]; exact hl, fun p hp => ?_⟩
        have st3 := o2.own (o := .lst (v1 ++ v2)) hp
        exact q p _ G2 _ _ (((st1.trans st2).trans st3).le (by omega)) (none_of_ne fun z => st2.dom (st1.dom z) hp) (o2.gnone hp) upd_same (a3.app b2) rfl
theorem rv_in_strs {neg : Bool} {x : Str} {xs : List Str} : RV K C Ω (rIn K neg) (.str x) (.lst (xs.map D.str)) (· = .bl (if neg then !(decide (x ∈ xs)) else decide (x ∈ xs))) := fun W F G H v w o da db Q q => by
  cases da
  cases db with
  | lst b1 b2 =>
    have e := b2.strs
    subst e
    have fl : ∀ zs : List Str, (zs.map V.str).all flatV = true := fun zs => by
      rw [List.all_eq_true]
      intro y hy
      obtain ⟨z, _, rfl⟩ := List.mem_map.mp hy
      rfl
    have hin : inV (.str x) (xs.map V.str) = decide (x ∈ xs) := by
      rw [Bool.eq_iff_iff, decide_eq_true_eq]
      unfold inV
      rw [List.any_map, List.any_eq_true]
      constructor
      · rintro ⟨y, hy, e⟩
        have e2 : (y == x) = true := e
        rw [← eq_of_beq e2]
        exact hy
      · intro h
        exact ⟨x, h, (beq_self_eq_true x : (x == x) = true)⟩
    exact ⟨_, _, rfl, .inl (.inl (.inl (o.gh _ _ b1))), rfl, fl xs, q _ G H _ o.refl (.bl _) (by rw [hin])⟩
/-! ### subscripts -/
theorem rv_ixl {xs : List D} {i : Int} (h : atI xs i = some d) : RV K C Ω (rIxL K) (.lst xs) (.int i) (· = d) := fun W F G H v w o da db Q q => by
  cases db
  cases da with
  | lst a1 a2 =>
    unfold atI at h
    cases e : ixN xs.length i with
    | none =>
      rw [e] at h
      cases h
    | some j =>
      rw [e] at h
      obtain ⟨u, hu, du⟩ := a2.get h
      exact ⟨_, _, i, u, rfl, rfl, .inl (.inl (o.gh _ _ a1)), by unfold atI; rw [← a2.len, e]; exact hu, q _ G H _ o.refl du rfl⟩
theorem rv_ixt {xs : List D} {i : Int} (h : atI xs i = some d) : RV K C Ω (rIxT K) (.tup xs) (.int i) (· = d) := fun W F G H v w o da db Q q => by
  cases db
  cases da with
  | tup a1 a2 =>
    unfold atI at h
    cases e : ixN xs.length i with
    | none =>
      rw [e] at h
      cases h
    | some j =>
      rw [e] at h
      obtain ⟨u, hu, du⟩ := a2.get h
      exact ⟨_, _, i, u, rfl, rfl, (Gr.of o.gh).st a1, by unfold atI; rw [← a2.len, e]; exact hu, q _ G H _ o.refl du rfl⟩
end Z
set_option Elab.async false
set_option linter.all false
set_option maxRecDepth 100000
set_option maxHeartbeats 4000000
/-! Defs as data: from a body's run to the def's promise; instances. -/
namespace Z
open PySem PySem.Spec PyProof.Rows L2
variable {K : PySem.W.Frag} {C : Addr} {Ω : List (Addr × Str)} {c c1 c2 c3 : Nat} {ta tb te td ty tl tk tv : TE} {t u tt : TT} {ts tu tz : TS} {δ δ' : List Sl} {R R' : D → Prop} {a b d : D} {O O' : Out → Prop} {wi : TI} {g : TG} {RL : List D → Prop}

abbrev FnP (K : PySem.W.Frag) (x q : Str) (st : Stmt) (f : Addr) (fd : FuncData) : Prop := FunD K x q (defArgs st) (defBody st) (defScope st) [] [] f fd
def startS (n : Nat) (ds : List D) : List Sl := ds.map Sl.val ++ List.replicate (n - ds.length) .un
/-- the ways out of a def's body -/
def retO (R : D → Prop) : Out → Prop
  | .nx _ => R .non
  | .rt d => R d
  | .bk _ => False
  | .ct _ => False
theorem slots_start {W : Wd K C Ω} {F : Addr → Prop} {G H : Hp} {N : List Str} {ds : List D} {vs : List V} (h : Dens W G ds vs) : Slots W F G H (L2.start N vs) (startS N.length ds) where
  len := by
    have := h.len
    simp only [L2.start, startS, List.length_append, List.length_map, List.length_replicate]
    omega
  ok := fun i s e => by
    have hl := h.len
    unfold startS at e
    by_cases hi : i < ds.length
    · rw [List.getElem?_append_left (by simpa using hi), List.getElem?_map, List.getElem?_eq_getElem hi] at e
      have es := Option.some.inj e
      subst es
      obtain ⟨v, hv, dv⟩ := h.get (List.getElem?_eq_getElem hi)
      refine ⟨v, ?_, dv⟩
      unfold at_ L2.start
      rw [List.getElem?_append_left (by simp; omega), List.getElem?_map, hv]
      rfl
    · rw [List.getElem?_append_right (by simpa using hi)] at e
      have es : s = .un := by
        rw [List.getElem?_replicate] at e
        split at e
        · exact (Option.some.inj e).symm
        · cases e
      subst es
      trivial
  ne := fun i j s t' l _ e _ hs => by
    exfalso
    unfold startS at e
    by_cases hi : i < ds.length
    · rw [List.getElem?_append_left (by simpa using hi), List.getElem?_map, List.getElem?_eq_getElem hi] at e
      have es := Option.some.inj e
      subst es
      cases hs
    · rw [List.getElem?_append_right (by simpa using hi)] at e
      rw [List.getElem?_replicate] at e
      split at e
      · have es := Option.some.inj e
        subst es
        cases hs
      · cases e
theorem run_fn {N : List Str} {n : Nat} {Pr : List D → Prop} {Rf : List D → D → Prop} (hN : N.length = n) (h : ∀ ds, Pr ds → Run K C Ω c ts (startS n ds) (retO (Rf ds))) (vs : List V) (H : Hp) (Q : VK) (E : XK) (hs : SpD K C Ω c Pr Rf vs H Q E) : ts { nx := fun _ H' => Q .non H', rt := Q } (L2.start N vs) H := by
  obtain ⟨W, F, G, ds, o, dd, hp, m, q⟩ := hs
  subst hN
  exact h ds hp W _ G H _ o.all (slots_start dd) m _ (fun δ' σ' G' H' z st _ => q .non G' H' .non st.all .non z) (fun d v G' H' z st dv => q v G' H' d st.all dv z) (fun _ _ _ _ z _ _ => z.elim) (fun _ _ _ _ z _ _ => z.elim)
section
variable {P : Program} {w : World} {mg : Str → Option Value} {base : Heap} {x : Str} {st : Stmt} {f : Addr} {fd : FuncData} {N ps : List Str} {k n : Nat} {Pr : List D → Prop} {Rf : List D → D → Prop}
theorem fn_of_run {q : Str} (F : FnP K x q st f fd) (S : FnScope N ps (defScope st)) (hN : N.length = n) (hl : ∀ ds, Pr ds → ds.length = ps.length)
    (h : ∀ (cdv : Value) (A : Around) (outer : List Env) (s : Shared) (H : Hp) (E : XK), Room k (A.deeper (envOfC q (defScope st) s.heap.objs.size f cdv)) →
      ∃ ts, PSs (cxOf CX0 P w K mg base N q (defScope st) f cdv A outer s H E).nox (defBody st) ts ∧ ∀ ds, Pr ds → Run K C Ω c ts (startS n ds) (retO (Rf ds))) : FnOk P w K mg base CX0 (k + 1) f fd ps (SpD K C Ω c Pr Rf) := by
  refine F.ok S (fun vs H Q E z => ?_) fun cdv A outer s H vs Q E hr z => ?_
  · obtain ⟨W, F, G, ds, _, dd, hp, _⟩ := z
    rw [← dd.len]
    exact hl ds hp
  · obtain ⟨ts, h1, h2⟩ := h cdv A outer s H E hr
    exact ⟨ts, h1.nox, run_fn hN h2 vs H Q E z⟩
theorem cal_of (F : FnP K x x st f fd) (hm : mg x = some (.ref f)) (S : FnScope N ps (defScope st)) (hN : N.length = n) (hl : ∀ ds, Pr ds → ds.length = ps.length)
    (hb : ∀ (kV doc pm : Value) (an : Option Addr) (cdv ct : Value) (us : List Value), us.length = ps.length → bindArgs (PySem.W.fnOf x x (defArgs st) (defBody st) (defScope st) .none kV doc pm an cdv ct) ⟨us, []⟩ = pure (ps.zip us))
    (h : ∀ (cdv : Value) (A : Around) (outer : List Env) (s : Shared) (H : Hp) (E : XK), Room k (A.deeper (envOfC x (defScope st) s.heap.objs.size f cdv)) →
      ∃ ts, PSs (cxOf CX0 P w K mg base N x (defScope st) f cdv A outer s H E).nox (defBody st) ts ∧ ∀ ds, Pr ds → Run K C Ω c ts (startS n ds) (retO (Rf ds))) : C8.Cal P w K mg base (k + 1) x (SpD K C Ω c Pr Rf) [] :=
  ⟨f, fd, ps, [], fn_of_run F S hN hl h, hm, F.kp, F.bindsN hb, .nil⟩
end
/-! ### instances -/
/-- an __init__ as data -/
def SpI (K : PySem.W.Frag) (C : Addr) (Ω : List (Addr × Str)) (c : Nat) (P : List D → Prop) (R : List D → List (Str × D) → Prop) : Sp := fun vs H Q _ =>
  ∃ (W : Wd K C Ω) (F : Addr → Prop) (G : Hp) (ds : List D) (p dx : Addr) (us : List V), vs = .ref p :: us ∧ Ok W F G H ∧ H p = some (.ins C dx []) ∧ G p = none ∧ ¬ F p ∧ Dens W G ds us ∧ P ds ∧ W.cnt H + c ≤ most ∧
    ∀ G' H' fs, StF W F c G H G' H' → SlOk W F G' H' (some (.ref p)) (.oI p fs) → R ds fs → Q .non H'
def initO (p : Addr) (R : List (Str × D) → Prop) : Out → Prop
  | .nx δ => ∃ fs, δ[0]? = some (.oI p fs) ∧ R fs
  | _ => False
theorem startS_own {n i : Nat} {ds : List D} {s : Sl} (e : (startS n ds)[i]? = some s) : s.own = false := by
  unfold startS at e
  by_cases hi : i < ds.length
  · rw [List.getElem?_append_left (by simpa using hi), List.getElem?_map, List.getElem?_eq_getElem hi] at e
    have es := Option.some.inj e
    subst es
    rfl
  · rw [List.getElem?_append_right (by simpa using hi), List.getElem?_replicate] at e
    split at e
    · have es := Option.some.inj e
      subst es
      rfl
    · cases e
theorem run_init {N : List Str} {n : Nat} {Pr : List D → Prop} {Rf : List D → List (Str × D) → Prop} (hN : N.length = n + 1) (h : ∀ p ds, Pr ds → Run K C Ω c ts (.oI p [] :: startS n ds) (initO p (Rf ds)))
    (vs : List V) (H : Hp) (Q : VK) (E : XK) (hs : SpI K C Ω c Pr Rf vs H Q E) : ts { nx := fun _ H' => Q .non H', rt := Q } (L2.start N vs) H := by
  obtain ⟨W, F, G, ds, p, dx, us, rfl, o, hp, gp, fp, dd, hP, m, q⟩ := hs
  have s0 : Slots W F G H (L2.start N (.ref p :: us)) (.oI p [] :: startS n ds) := by
    have e : L2.start N (.ref p :: us) = some (.ref p) :: (us.map some ++ List.replicate (n - us.length) none) := by
      unfold L2.start
      rw [hN, List.map_cons, List.length_cons, Nat.add_sub_add_right]
      rfl
    have t0 : Slots W F G H (us.map some ++ List.replicate (n - us.length) none) (startS n ds) := by
      have := slots_start (N := List.replicate n "") (F := F) (H := H) dd
      rw [List.length_replicate] at this
      unfold L2.start at this
      rw [List.length_replicate] at this
      exact this
    rw [e]
    refine ⟨congrArg (· + 1) t0.len, fun i s e1 => ?_, fun i j s t l hij e1 e2 h1 h2 => ?_⟩
    · cases i with
      | zero =>
        have es := Option.some.inj e1
        subst es
        exact ⟨p, dx, [], rfl, rfl, hp, gp, fp, .nil⟩
      | succ i => exact t0.ok i s e1
    · exfalso
      cases j with
      | zero =>
        cases i with
        | zero => exact hij rfl
        | succ i =>
          rw [startS_own (show (startS n ds)[i]? = some s from e1)] at h1
          cases h1
      | succ j =>
        rw [startS_own (show (startS n ds)[j]? = some t from e2)] at h2
        cases h2
  refine h p ds hP W F G H _ o s0 m _ (fun δ' σ' G' H' z st sl => ?_) (fun _ _ _ _ z _ _ => z.elim) (fun _ _ _ _ z _ _ => z.elim) (fun _ _ _ _ z _ _ => z.elim)
  obtain ⟨fs, e, r⟩ := z
  obtain ⟨l, dx', kvs, e1, ep, e2⟩ := sl.ok 0 _ e
  subst ep
  exact q G' H' fs st ⟨l, dx', kvs, rfl, rfl, e2⟩ r
theorem ev_make {tA : TA} {Pr : List D → Prop} {Rf : List D → List (Str × D) → Prop} {E : XK} {Rs : List D → Prop} (h : EvA K C Ω c1 tA δ Rs) (hp : ∀ ds, Rs ds → Pr ds) : Ev K C Ω (c1 + c2) (tMake C (SpI K C Ω c2 Pr Rf) [] E tA) δ (fun d => ∃ ds fs, Rs ds ∧ d = .ins fs ∧ Rf ds fs) := fun W F G H σ o s m Q q =>
  h W F G H σ o s (by omega) _ fun vs G1 H1 ds st dds rds x dx hx hdx ne => by
    have o1 := st.ok o
    have st2 := o1.own (o := .own x) hdx
    have o2 := st2.ok o1
    have hx2 : upd H1 dx (.own x) x = none := by
      rw [upd_ne (fun e => ne e.symm)]
      exact hx
    have st3 := o2.own (o := .ins C dx []) hx2
    have o3 := st3.ok o2
    have gx : G1 x = none := o1.gnone hx
    have st13 : Stp W 0 G1 H1 G1 (upd (upd H1 dx (.own x)) x (.ins C dx [])) := st2.trans st3
    have hc := st.ct
    have hc13 := st13.ct
    show SpI K C Ω c2 Pr Rf (.ref x :: (vs ++ [])) _ _ E
    rw [List.append_nil]
    refine ⟨W, fun a => a ≠ x ∧ (upd (upd H1 dx (.own x)) x (.ins C dx [])) a ≠ none, G1, ds, x, dx, vs, rfl, ⟨o3.gh, o3.iv, o3.gs, fun a z => z.2, fun a z => ⟨fun e => ?_, W.inn _ _ o3.iv z⟩⟩, upd_same, gx, fun z => z.1 rfl, dds, hp ds rds, by omega, fun G' H' fs sf sl r => ⟨rfl, ?_⟩⟩
    · subst e
      exact W.inn _ _ o1.iv z hx
    · obtain ⟨l, dx', kvs, e1, ep, hl, gl, fl, hd⟩ := sl
      cases e1
      have up : Same G' (upd G' x (.ins C dx' kvs)) := fun a u z => by
        rw [upd_ne (ne_of_none z gl)]
        exact z
      have hcf := sf.ct
      have h13 : ∀ a o, H1 a = some o → ¬ W.S a → H' a = some o := fun a u z zs => by
        have z2 := st13.hh a u z zs
        refine sf.hh a u ⟨fun e => ?_, by rw [z2]; intro y; cases y⟩ z2 zs
        subst e
        rw [hx] at z
        cases z
      refine q (.ref x) (upd G' x (.ins C dx' kvs)) H' (.ins fs) ⟨fun a u z => up a u (sf.gg a u (st.gg a u z)), fun a u z => ?_, fun a u z zs => h13 a u (st.hh a u z zs) zs, fun a z => ?_, sf.iv, by omega⟩ (.ins upd_same (hd.mono up)) ⟨ds, fs, rds, rfl, r⟩
      · by_cases e : a = x
        · subst e
          rw [upd_same] at z
          rw [hl]
          exact z
        · rw [upd_ne e] at z
          exact sf.gh a u z
      · by_cases e : a = x
        · subst e
          exact .inr (none_of_ne fun z => st.dom z hx)
        · rw [upd_ne e] at z
          rcases sf.fr a z with y | y
          · exact st.fr a y
          · refine .inr (none_of_ne fun w => y ⟨e, ?_⟩)
            exact st13.dom (st.dom w)
end Z
set_option Elab.async false
set_option linter.all false
set_option maxRecDepth 100000
set_option maxHeartbeats 4000000
/-! Rules of the hand layer with the written part by its name; a dict comprehension given to a name; len by an own __len__. -/
namespace Z
open PySem PySem.Spec PyProof.Rows L2
section
variable {X : Cx} (K : PySem.W.Frag) {ta tb te td : TE} {t tA : TA} {e o : Expr} {es : List Expr} {pos apos cpos : Pos}
theorem zix_l (h : X.K = K := by rfl) : IxR X (rIxL K) := h ▸ ix_list
theorem zix_t (h : X.K = K := by rfl) : IxR X (rIxT K) := h ▸ ix_tup
theorem zsl_l (h : X.K = K := by rfl) : SlR X (rSlL K) := h ▸ sl_list
theorem zsl_t (h : X.K = K := by rfl) : SlR X (rSlT K) := h ▸ sl_tup
theorem zin (h : X.K = K := by rfl) : OpR X (compareOp .In) (rIn K false) := h ▸ op_in_seq
theorem znotin (h : X.K = K := by rfl) : OpR X (compareOp .NotIn) (rIn K true) := h ▸ op_notIn_seq
theorem zeqD (hu : X.A.units + 64 < cLine) (h : X.K = K := by rfl) : OpR X (compareOp .Eq) (rEqD K) := h ▸ op_eqD hu
theorem zneD (hu : X.A.units + 64 < cLine) (h : X.K = K := by rfl) : OpR X (compareOp .NotEq) (rNeD K) := h ▸ op_neD hu
def rLenV (K : PySem.W.Frag) : List V → Hp → VK → Prop := fun xs H Q => ∃ x n, xs = [x] ∧ LenV K x H n ∧ Q (.int n) H
theorem zlen (h : X.K = K := by rfl) : CallR X (.builtin "len") (rLenV K) := h ▸ call_len
theorem zisi (h : X.K = K := by rfl) : CallR X (.builtin "isinstance") (rIsi K) := h ▸ call_isi
theorem zisiT (h : X.K = K := by rfl) : CallR X (.builtin "isinstance") (rIsiT K) := h ▸ call_isiT
theorem zsortI (h : X.K = K := by rfl) : CallR X (.builtin "sorted") (rSorted K) := h ▸ cr_sorted
theorem zsortS (h : X.K = K := by rfl) : CallR X (.builtin "sorted") (rSortedS K) := h ▸ cr_sortedS
theorem zall (hc : X.calm = true) (h : X.K = K := by rfl) : CallR X (.builtin "all") (rAll K) := h ▸ cr_all hc
theorem zany (hc : X.calm = true) (h : X.K = K := by rfl) : CallR X (.builtin "any") (rAny K) := h ▸ cr_any hc
theorem zsum (hc : X.calm = true) (h : X.K = K := by rfl) : CallR X (.builtin "sum") (rSum K) := h ▸ cr_sum hc
def rListV (K : PySem.W.Frag) : List V → Hp → VK → Prop := fun ys H Q => ∃ p zs, ys = [.ref p] ∧ (SqL K H p zs ∨ SqT K H p zs) ∧ ∀ l, H l = none → Q (.ref l) (upd H l (.lst zs))
theorem zlist (h : X.K = K := by rfl) : CallR X (.type "list") (rListV K) := h ▸ call_list_of
def rDictV (K : PySem.W.Frag) : List V → Hp → VK → Prop := fun xs H Q => ∃ (a : Addr) (ps : List Addr) (kvs : List (Key × V)), xs = [.ref a] ∧ SqL K H a (ps.map V.ref) ∧ Paired (fun p kv => SqT K H p [kV kv.1, kv.2]) ps kvs ∧
    ∀ p, H p = none → Q (.ref p) (upd H p (.dK (mergeK [] kvs)))
theorem zdict (hc : X.calm = true) (h : X.K = K := by rfl) : CallR X (.type "dict") (rDictV K) := h ▸ call_dictP hc
theorem zfld {f : Str} (he : PE X e ta) (hb : attributeBase e f X.env (eval e X.env) = eval e X.env) (h : X.K = K := by rfl) : PE X (.Attribute e f pos) (tFld K ta f) := h ▸ pe_fld he hb
theorem zbm0 {T id : String} {name : Str} {r : V → List V → Hp → VK → Prop} (pa : PlainAttrs T) (slot : Slot T name id) (hty : typeOf (.builtin id) = pure (.type "method_descriptor")) (hm : MtR X id r) (ho : PE X o ta)
    (hbase : attributeBase o name X.env (eval o X.env) = eval o X.env := by rfl) (hline : (apos.endLine == cpos.line) = true := by rfl) (h : X.K = K := by rfl) : PE X (.Call (.Attribute o name apos) [] [] cpos) (tBM0 K T r ta) := h ▸ pe_bm0 pa slot hty hm ho hbase hline
theorem zbm {T id : String} {name : Str} {r : V → List V → Hp → VK → Prop} (pa : PlainAttrs T) (slot : Slot T name id) (hty : typeOf (.builtin id) = pure (.type "method_descriptor")) (hm : MtR X id r) (ho : PE X o ta) (ha : PA X (e :: es) t)
    (hbase : attributeBase o name X.env (eval o X.env) = eval o X.env := by rfl)
    (hfew : ((backTo cpos (starEach (e :: es) X.env)).all (fun x => !x.1) && (backToKw cpos (keywordEach [] X.env)).all (fun x => x.1.isSome)
      && decide ((e :: es).length + ([] : List Keyword).length + (if ([] : List Keyword).isEmpty then 0 else 1) < 30)) = true := by rfl)
    (hline : (apos.endLine == cpos.line) = true := by rfl) (hst : starEach (e :: es) X.env = (false, eval e X.env) :: starEach es X.env := by rfl) (hpl : (backTo cpos (starEach es X.env)).any (·.1) = false := by rfl) (h : X.K = K := by rfl) : PE X (.Call (.Attribute o name apos) (e :: es) [] cpos) (tBM K T r ta t) := by
  subst h
  first
    | exact pe_bm pa slot hty hm ho ha hbase hfew hline hst hpl
    | exact pe_bm pa slot hty hm ho ha hbase hfew hline hst
    | exact pe_bm pa slot hty hm ho ha hbase hfew hline
theorem zpi_l {tg : Expr} (hl : PE X e ta) (h : X.K = K := by rfl) : PI X tg e (iList K ta) := h ▸ pi_list hl
theorem zpi_t {tg : Expr} (hl : PE X e ta) (h : X.K = K := by rfl) : PI X tg e (iTup K ta) := h ▸ pi_tup hl
theorem zpi_enum {p tpos : Pos} {elts : List Expr} {kk : Nat} (hg : Gl X "enumerate") (hm : X.mg "enumerate" = none) (ha : PA X [e] tA) (hs : starEach [e] X.env = [(false, eval e X.env)] := by rfl) (h : X.K = K := by rfl) :
    PI X (.Tuple elts kk tpos) (.Call (.Name "enumerate" p) [e] [] pos) (iEnum K tA) := h ▸ pi_enum hg hm ha hs
theorem zpg_tup {ts : List Expr} {k n : Nat} {g : TGs} (hc : X.calm = true) (hg : PGs X ts g) (hn : (assignEach ts X.env).length = n := by rfl) (hst : (assignEach ts X.env).findIdx? (·.1) = none := by rfl) (h : X.K = K := by rfl) : PG X (.Tuple ts k pos) (gTup K n g) := h ▸ pg_tup hc hg hn hst
/-- x = {k: v for ..}, x a plain local name -/
theorem ps_setDc {i : Nat} {y : Str} {py : Pos} {kx vx tg iter : Expr} {ifs : List Expr} {scope : Scope} {own : List (Str × Nat)} {spos : Pos} {wi : TI} {g : TG} {tt : TT} {tk tv : TE} (hc : X.calm = true) (hN : X.N.Nodup) (hy : X.N[i]? = some y) (hyl : X.env.scope.names.lookup y = some .local)
    (hsw : swapsWith (.DictComp kx vx [⟨tg, iter, ifs, 0⟩] scope pos) (some (.Name y py)) spos.line X.env = pure true) (hi : PI X tg iter wi) (ok : BlkOk X.N X.env.scope scope own)
    (hg : ∀ (s : Shared) (H : Hp) (C : Addr) (cl : List (Str × Addr)) (fp : List Addr), PG (X.blk s H scope (compEnvC scope cl C X.env) fp) tg g) (ht : ∀ (s : Shared) (H : Hp) (C : Addr) (cl : List (Str × Addr)) (fp : List Addr), PTs (X.blk s H scope (compEnvC scope cl C X.env) fp) ifs tt)
    (hk : ∀ (s : Shared) (H : Hp) (C : Addr) (cl : List (Str × Addr)) (fp : List Addr), PE (X.blk s H scope (compEnvC scope cl C X.env) fp) kx tk)
    (he : ∀ (s : Shared) (H : Hp) (C : Addr) (cl : List (Str × Addr)) (fp : List Addr), PE (X.blk s H scope (compEnvC scope cl C X.env) fp) vx tv) (hs : ∀ x, foldedSetIterable iter X.env x = pure x := by intro _; rfl) :
    PS X (.Assign [.Name y py] (.DictComp kx vx [⟨tg, iter, ifs, 0⟩] scope pos) spos) (tAsg (tDc wi g tt tk tv (own.map (·.2))) (gName i)) := by
  refine ⟨fun pins s σ H Z I hz => ?_⟩
  have hz' : tDc wi g tt tk tv (own.map (·.2)) σ H (fun x H1 => gName i x σ H1 Z.nx) := hz
  have e1 := exec_Assign_Name_used (env := X.env) _ _ (.DictComp kx vx [⟨tg, iter, ifs, 0⟩] scope pos) spos hsw
  rw [e1]
  apply wpAny_bind
  apply wpAny_standAt
  apply wpAny_bind
  have core := dc_core (pos := pos) (pos' := firstIterPos [⟨tg, iter, ifs, 0⟩] pos) (use := some (assign (.Name y py) X.env)) (Qf := fun _ s' => SP X pins Z .next s') hc hN I hi ok hg ht hk he hs hz' (fun L Ca s' m H' I' q hn f => by
    refine wpAny_assign_Name (store_ok2 (v := V.ref L) I' hN hy (.inl hyl) rfl (fun s2 I2 ⟨a, sb, ha⟩ => ?_) (.inr hyl))
    obtain ⟨f0, f1, f2, f3, f4, f5⟩ := f
    have neC : Ca ≠ a := ha.elim (fun z => z ▸ f1) fun z e => f4 y a z e.symm
    exact ⟨m, hn.sameBut sb neC, fun h3 sb3 => ⟨_, H', I2.turned (t' := s2.toks) (fun b o hb e => (sb3.2 b hb).trans e) f0 f1 f3 f4 f5, q⟩⟩)
  exact wpAny_bind (thn core fun _ s' hq => wpAny_pure (wpAny_pure hq))
theorem sw_trueD {kx vx : Expr} {gs : List Comprehension} {scope : Scope} {py : Pos} {y : Str} {l : Nat} {env : Env} (hk : env.scope.kind = .function) (hy : env.scope.names.lookup y = some .local) (hl : (py.line == pos.line) = true)
    (ha : (scope.names.any fun (n, k) => n == y && (k == .local || k == .cell)) = false) : swapsWith (.DictComp kx vx gs scope pos) (some (.Name y py)) l env = pure true := by
  have ky : env.kindOf y = some .local := hy
  have hb : env.blockKind = .function := by
    unfold Env.blockKind
    rw [hk]
    rfl
  unfold swapsWith
  simp only [hb, ky, ha, Expr.pos, hl]
  rfl
/-- a def called somewhere below the body -/
theorem run_at {P : Cx} {A : Around} {pins : List (Addr × Obj)} {σ : L2.St} {H : Hp} {s : Shared} {Q : VK} {us : List Value} {vs : List V} {f : Addr} {fd : FuncData} {ps : List Str} {sp : Sp} {k : Nat} (F : FnOk P.prog P.w P.K P.mg P.base CX0 k f fd ps sp) (hr : Room k A) (fr : A.frames = P.A.frames) (hb : Binds P.K fd ps [])
    (I : Inv P pins σ H s) (r : Vals vs us) (h : sp vs H Q E0) : wpAny (model P.prog P.w) A (call (.ref f) us) (EP P pins σ Q) P.xe s := by
  have z := I.env0
  have hl : us.length = ps.length := r.length ▸ F.len vs H Q E0 h
  have bnd := hb s us I.kIn (by simpa using hl)
  rw [List.append_nil] at bnd
  refine wpAny_call (codeAny_mono (F.run A P.stack s H ⟨us, []⟩ us vs Q E0 hr ⟨fr.trans z.frames, z.mod, z.bs, z.bsz, z.funs, z.frf, z.hok, z.bare⟩ bnd r h) fun res s' hq => ?_)
  match res, hq with
  | .ok (.ret u), hq => exact I.after hq
/-- len of an own instance with an own __len__ -/
theorem call_lenO {k j : Nat} {C : Addr} {sp : Sp} (c : C8.Met X.prog X.w X.K X.mg X.base k C "__len__" sp []) (hr : Room j X.A) (hk : k + 1 ≤ j) : CallR X (.builtin "len") (fun xs H Q => ∃ a dx fs, xs = [.ref a] ∧ H a = some (.ins C dx fs) ∧ sp [.ref a] H (fun v H' => ∃ n : Int, v = .int n ∧ 0 ≤ n ∧ n < 2 ^ 63 ∧ Q (.int n) H') E0) := by
  intro pins s σ H xs us Q I r h
  obtain ⟨a, dx, fs, rfl, ha, h⟩ := h
  obtain ⟨u, rfl, ru⟩ := vals1 r
  cases ru
  obtain ⟨f, fd, ps, ds, cl, me, F, b, dd⟩ := c.ex
  cases dd
  obtain ⟨mA, J, _⟩ := ins_get I.hok ha
  obtain ⟨od, J, _⟩ := J.look
  obtain ⟨m1, m2, m3⟩ := me
  have go := run_at (A := X.A.in1) F ((hr.mono hk).in1) rfl b I (.cons (show RelV (.ref a) (.ref a) from rfl) .nil) h
  refine Calls.call_function_entry kind_len plain_len entry_len (args_len1 (.ref a)) (show wpAny _ _ (Builtin.«len» _) _ _ _ from ?_)
  unfold Builtin.«len»
  apply wpAny_bind (m := oneArg "len" _)
  apply wpAny_pure
  apply wpAny_bind (m := callSpecial? (.ref a) (Str.ofString "__len__"))
  refine PySem.W.special_fn I.kIn J m1 (beq_iff_eq.mp m2) (thn go fun v s' ⟨x, H', I', rx, n, ex, h0, h1, q⟩ => ?_)
  subst ex
  obtain ⟨tk, rfl⟩ := rx
  apply wpAny_bind
  apply wpAny_holding
  apply wpAny_pure
  apply wpAny_bind
  apply wpAny_letGo
  show wpAny _ _ (ite (n < 0) _ _) _ _ _
  rw [if_neg (Int.not_lt.mpr h0)]
  show wpAny _ _ (ite (n ≥ 2 ^ 63) _ _) _ _ _
  rw [if_neg (Int.not_le.mpr h1)]
  exact wpAny_bind (wpAny_mkInt (wpAny_pure ⟨_, rfl, ⟨.int n, H', I'.tok _, ⟨_, rfl⟩, q⟩⟩))
end
end Z
set_option maxRecDepth 100000
set_option linter.all false
namespace Z
open PySem PySem.Spec PyProof.Rows L2 HT
/-! a tuple turned about -/
theorem adj_back (n : Nat) : Builtin.Slice.sliceAdjust none none (-1) (n : Int) = ((n : Int) - 1, -1) := by
  simp [Builtin.Slice.sliceAdjust]
theorem places_back (n : Nat) : Builtin.Slice.slicePlaces ((n : Int) - 1) (-1) (-1) = n := by
  unfold Builtin.Slice.slicePlaces; have h1 : ¬ ((-1 : Int) > 0) := by omega
  simp only [h1, if_false]
  split
  · rename_i h
    have e : ((n : Int) - 1 - -1 - -1 - 1) / (- -1) = (n : Int) := by rw [show (- -1 : Int) = 1 by decide, Int.ediv_one]; omega
    first
    | (rw [e]; omega)
    | (rw [show (- -1 : Int) = 1 by decide, Int.ediv_one]; omega)
    | omega
  · omega
theorem pick_back (xs : Array Value) : ((List.range xs.size).filterMap fun (m : Nat) => xs[(((xs.size : Int) - 1) + (m : Int) * -1).toNat]?).toArray = xs.toList.reverse.toArray := by
  have e : (fun (m : Nat) => xs[(((xs.size : Int) - 1) + (m : Int) * -1).toNat]?) = (xs[·]?) ∘ fun (k : Nat) => (((xs.size : Int) - 1) + (k : Int) * -1).toNat := rfl
  rw [e, ← List.filterMap_map]
  have e2 : (List.range xs.size).map (fun (k : Nat) => (((xs.size : Int) - 1) + (k : Int) * -1).toNat) = (List.range xs.size).map (fun k => xs.size - 1 - k) := by
    apply List.map_congr_left
    intro k hk
    have := List.mem_range.mp hk
    omega
  rw [e2, PySem.W.krv_range, List.filterMap_reverse, PySem.W.krv_all]
section
variable {pr : Program} {ww : World} {B : Around} {F : Value → Shared → Prop} {z : Shared}
theorem applied_back {sl : Addr} {vs : Value} {n : Nat} {Ψ : Int × Int × Nat → Shared → Prop} (slc : z.heap.IsSliceOf sl .none .none vs) (pst : IsPart vs (some (-1)))
    (h : Ψ (((n : Int) - 1), -1, n) z) : wpAny (model pr ww) B (Builtin.Slice.sliceApplied (.ref sl) (pure (n : Int))) Ψ F z := by
  obtain ⟨ob, o1, o2, o3⟩ := id slc
  unfold Builtin.Slice.sliceApplied Builtin.Slice.sliceFields; refine wpAny_bind (wpAny_bind (wpAny_field o1 o3 (x := .none) rfl (wpAny_bind (wpAny_field o1 o3 (x := .none) rfl (wpAny_bind (wpAny_field o1 o3 (x := vs) rfl (wpAny_pure ?_)))))))
  refine wpAny_bind (slicePart_ pst ?_)
  show wpAny _ _ (if ((-1 : Int) == 0) = true then _ else _) _ _ z
  rw [if_neg (by decide)]
  refine wpAny_bind (slicePart_none (wpAny_bind (slicePart_none (wpAny_bind (wpAny_pure ?_)))))
  show wpAny _ _ (match Builtin.Slice.sliceAdjust none none (-1) (n : Int) with | (lo, hi) => pure (lo, (-1 : Int), Builtin.Slice.slicePlaces lo hi (-1))) _ _ z
  rw [adj_back n]
  show wpAny _ _ (pure (((n : Int) - 1), (-1 : Int), Builtin.Slice.slicePlaces ((n : Int) - 1) (-1) (-1))) _ _ z
  rw [places_back]
  exact wpAny_pure h
theorem getItem_back {t sl : Addr} {items : Array Value} {vs : Value} {Ψ : Value → Shared → Prop} (tpl : IsTup z.heap t items) (slc : z.heap.IsSliceOf sl .none .none vs) (pst : IsPart vs (some (-1)))
    (h : Ψ (.ref z.heap.objs.size) { z with heap := z.heap.push { cls := .type "tuple", data := .seq items.toList.reverse.toArray } })
    (fit : items.size ≤ sizeLine) : wpAny (model pr ww) B (getItem (.ref t) (.ref sl)) Ψ F z := by
  have hrev : sizeOk (.seq items.toList.reverse.toArray) := by
    show items.toList.reverse.toArray.size ≤ sizeLine
    rw [List.size_toArray, List.length_reverse, Array.length_toList]
    exact fit
  obtain ⟨ob, o1, o2, o3⟩ := id slc
  have isS : z.TypeIs (.ref sl) "slice" := ⟨ob, o1, o2⟩
  unfold getItem; (try with_reducible refine wpAny_holding ?_); (first | refine wpAny_bind (wpAny_pure ?_) | skip)
  refine wpAny_bind (wpAny_sequenceKey tpl.typeIs (by decide) ?_)
  refine wpAny_bind (wpAny_callSpecial?_slot (name := Str.ofString "__getitem__") tpl.typeIs PyProof.Rows.slot_tuple_getitem
    (wpAny_call_entry PyProof.Rows.slot_tuple_getitem tpl.typeIs entry_tuple_getitem ?_ (args_tuple_getitem _ _)))
  show wpAny _ _ (Builtin.Tuple.tupleItemsOf (.ref t) >>= _) _ _ z
  refine wpAny_bind (tupleItemsOf_ tpl ?_)
  refine wpAny_bind (wpAny_typeOf isS ?_)
  rw [if_pos (by decide)]
  refine wpAny_bind (applied_back slc pst ?_)
  have hno : ¬ ((((items.size : Int) - 1) == 0 && (-1 : Int) == 1 && items.size == items.size) = true) := by
    intro k9
    rw [Bool.and_eq_true, Bool.and_eq_true] at k9
    exact absurd k9.1.2 (by decide)
  show wpAny _ _ (if (((items.size : Int) - 1) == 0 && (-1 : Int) == 1 && items.size == items.size) = true then _ else _) _ _ z
  rw [if_neg hno, pick_back]
  first
    | exact wpAny_bind (m := Builtin.Tuple.tupleExact _) (wpAny_newObj_type (wpAny_pure ⟨_, rfl, wpAny_pure h⟩) hrev)
    | exact wpAny_bind (m := Builtin.Tuple.tupleExact _) (wpAny_newObj_type (wpAny_bind (wpAny_pure (wpAny_pure ⟨_, rfl, wpAny_pure h⟩))) hrev)
    | exact wpAny_bind (wpAny_bind (m := Builtin.Tuple.tupleExact _) (wpAny_newObj_type (wpAny_pure (wpAny_pure ⟨_, rfl, wpAny_pure h⟩)) hrev))
    | exact wpAny_bind (wpAny_bind (m := Builtin.Tuple.tupleExact _) (wpAny_newObj_type (wpAny_pure ⟨_, rfl, wpAny_pure h⟩) hrev))
end
def tRevT (K : PySem.W.Frag) (te : TE) : TE := fun ν G Ψ => te ν G fun x G1 => ∃ a xs, x = .ref a ∧ SqT K G1 a xs ∧ ∀ p, G1 p = none → Ψ (.ref p) (upd G1 p (.tup xs.reverse))
theorem pe_revT {X : Cx} {e : Expr} {te : TE} {k : Nat} {p1 p2 p3 pos : Pos} (he : PE X e te) : PE X (.Subscript e (.Slice none none (some (.UnaryOp .USub (.Constant (.int 1) k p1) p2)) p3) pos) (tRevT X.K te) := by
  refine ⟨fun pp z ν G Ψ J h => ?_⟩
  refine Subscript_ (thn (he.run pp z ν G _ J h) fun v z1 ⟨x, G1, J1, r1, k1⟩ => ?_)
  obtain ⟨a, xs, ex, hx, k9⟩ := k1
  subst ex
  cases r1
  have hst : PO X (some (.UnaryOp .USub (.Constant (.int 1) k p1) p2)) (tPart (tUn (rU fun i => .int (-i)) (tC (.int 1)))) := po_some (pe_un un_neg pe_int)
  refine wpAny_Slice (thn (po_none.run pp z1 ν G1 (fun o G2 => o = none ∧ G2 = G1) J1 ⟨rfl, rfl⟩) fun vl z2 ⟨l, G2, J2, pl, el, e2⟩ => ?_)
  subst el e2
  cases pl
  refine thn (po_none.run pp z2 ν G2 (fun o G3 => o = none ∧ G3 = G2) J2 ⟨rfl, rfl⟩) fun vu z3 ⟨u, G3, J3, pu, eu, e3⟩ => ?_
  subst eu e3
  cases pu
  refine thn (hst.run pp z3 ν G3 (fun o G4 => o = some (-1) ∧ G4 = G3) J3 ⟨1, rfl, -1, rfl, rfl, rfl⟩) fun vs z4 ⟨o, G4, J4, pst, eo, e4⟩ => ?_
  subst eo e4
  have J5 : Inv X pp ν G4 { z4 with heap := z4.heap.push { cls := .type "slice", data := .fields #[.none, .none, vs] } } := J4.kept (t' := z4.toks) fun b ob k9 => Heap.get?_push_of_some _ k9
  obtain ⟨its, r, tpl, hz⟩ := J5.tuple hx
  have hlen := r.length
  show wpAny (model X.prog X.w) X.A (subscriptTail e (.Slice none none (some (.UnaryOp .USub (.Constant (.int 1) k p1) p2)) p3) (.ref a) (.ref z4.heap.objs.size)) (EP X pp ν Ψ) X.xe { z4 with heap := z4.heap.push { cls := .type "slice", data := .fields #[.none, .none, vs] } }
  refine tail_any (ops := [.ref a, .ref z4.heap.objs.size]) tpl.typeIs (PyProof.Rows.slot_tuple_getitem.lookup) ?_ (by with_unfolding_all rfl)
  refine getItem_back tpl (Heap.IsSliceOf.new _ .none .none vs) pst ?_ (by rw [List.size_toArray]; omega)
  refine ⟨.ref _, _, J5.laid (t' := z4.toks) (o := .tup xs.reverse) (fun b ob k9 => Heap.get?_push_of_some _ k9) (Nat.le_refl _) ?_, rfl, k9 _ (J5.hok.fresh (Nat.le_refl _))⟩
  exact ⟨by rw [List.length_reverse]; exact hz, _, r.reverse, IsTup.new _ _⟩
end Z
set_option maxRecDepth 100000
set_option maxHeartbeats 1000000
set_option linter.all false
namespace Z
open PySem PySem.Spec
open PyProof.Rows L2
/-! min of a list by a key -/
/-- q, called from within a built-in with an item, answers with its key and leaves all as it is -/
def KeyAt (X : Cx) (pins : List (Addr × Obj)) (ν : L2.St) (G : Hp) (q : Addr) (xs : List V) (kf : Nat → Int) : Prop :=
  ∀ (i : Nat) (x : V) (v : Value) (pl : List (Addr × Obj)) (z : Shared), xs[i]? = some x → RelV x v → L2.Inv X (pins ++ pl) ν G z →
    wpAny (model X.prog X.w) X.A.in1 (call (.ref q) [v]) (fun u y => ∃ t, u = .int (kf i) t ∧ L2.Inv X (pins ++ pl) ν G y) (fun _ _ => False) z
structure MinAt (X : Cx) (pins : List (Addr × Obj)) (ν : L2.St) (G : Hp) (a S T : Addr) (xs : List V) (kf : Nat → Int) (i j : Nat) (z : Shared) : Prop where
  inv : L2.Inv X pins ν G z
  best : ∃ (vb : Value) (tb : Tok) (c : Nat) (x : V), xs[i]? = some x ∧ RelV x vb ∧ z.heap.get? S = some (seqObj "list" #[vb, .int (kf i) tb] c)
  iter : z.heap.IsListIter T a (j + 1)
def OnlyRet (R : Value → Shared → Prop) : Result → Shared → Prop := fun r z => match r with
  | .ok (.ret v) => R v z
  | _ => False
section
variable {X : Cx} {pins : List (Addr × Obj)} {ν : L2.St} {G : Hp} {a S T q : Addr} {xs : List V} {kf : Nat → Int} {R : Value → Shared → Prop}
/-- two records of ours are pinned while something is called -/
theorem pin2 {z : Shared} (J : L2.Inv X pins ν G z) (fS : FpOk X pins G S) (fT : FpOk X pins G T) {oS oT : Obj} (eS : z.heap.get? S = some oS) (eT : z.heap.get? T = some oT) (dS : ∀ v, oS.data ≠ .cell v) (dT : ∀ v, oT.data ≠ .cell v) :
    L2.Inv X (pins ++ pinsAt [S, T] z.heap) ν G z ∧ (S, oS) ∈ pinsAt [S, T] z.heap ∧ (T, oT) ∈ pinsAt [S, T] z.heap := by
  refine ⟨J.pinned (fun b hb => ?_) fun b hb => ?_, mem_pinsAt (by simp) eS, mem_pinsAt (by simp) eT⟩
  · rcases List.mem_cons.mp hb with e | e
    · rw [e]; exact fS
    · rw [List.mem_singleton.mp e]; exact fT
  · rcases List.mem_cons.mp hb with e | e
    · rw [e]; exact ⟨oS, eS, dS⟩
    · rw [List.mem_singleton.mp e]; exact ⟨oT, eT, dT⟩
theorem turn1 {z : Shared} {h' : Heap} {tk : Nat} {b : Addr} (J : L2.Inv X pins ν G z) (f : FpOk X pins G b) (k : ∀ c o, c ≠ b → z.heap.get? c = some o → h'.get? c = some o) : L2.Inv X pins ν G { z with heap := h', toks := tk } :=
  J.turnedL (ch := [b]) (fun c o hc e => k c o (fun e2 => hc (by simp [e2])) e) fun c hc => by rw [List.mem_singleton.mp hc]; exact f
theorem min_turns (hc : X.calm = true) (hx : SqL X.K G a xs) (Kq : KeyAt X pins ν G q xs kf) (fS : FpOk X pins G S) (fT : FpOk X pins G T) (hST : S ≠ T) (haT : a ≠ T)
    (fin : ∀ (i : Nat) (x : V) (v : Value) (z : Shared), xs[i]? = some x → RelV x v → (∀ j, j < xs.length → kf i ≤ kf j ∧ (j < i → kf i < kf j)) → L2.Inv X pins ν G z → R v z) :
    ∀ (r j i : Nat) (z : Shared), xs.length - (j + 1) = r → j + 1 ≤ xs.length → i ≤ j → (∀ j', j' ≤ j → kf i ≤ kf j' ∧ (j' < i → kf i < kf j')) → MinAt X pins ν G a S T xs kf i j z →
      codeAny (model X.prog X.w) X.A (.builtin "min.loop" ⟨[.ref T, .ref q, .ref S], []⟩) (OnlyRet R) z := by
  have nm : (toString "min" ++ toString ".loop" : String) = "min.loop" := by decide
  intro r
  induction r with
  | zero =>
    intro j i z hr hj hij hb M
    obtain ⟨vb, tb, c, x, ex, rx, eS⟩ := M.best
    obtain ⟨its, rv, hl, hz⟩ := M.inv.list hx
    have n1 : its.toArray.size = xs.length := by rw [List.size_toArray]; exact rv.length.symm
    have W := Walks.list (prog := X.prog) (w := X.w) (A := X.A.in1) (M.inv.ok.hd hc) T a haT its.toArray
    refine codeAny_builtin PySem.F.entry_min_loop ?_
    rw [Around.under_plainId PySem.F.plain_min_loop _]
    show wpAny _ X.A.in1 (seqItems? (.ref S) >>= _) _ _ z
    refine wpAny_bind (wpAny_seqItems eS rfl ?_)
    show wpAny _ X.A.in1 (tryCatch (pyNext (.ref T)) _ >>= _) _ _ z
    refine wpAny_bind (wpAny_tryCatch (W.done z _ _ ⟨by rw [n1, show xs.length = j + 1 by omega]; exact M.iter, hl.isList⟩ fun h' tk' kp => ?_))
    have J1 : L2.Inv X pins ν G { z with heap := h', toks := tk' } := turn1 M.inv fT fun c o hn e => kp c o (by simpa using hn) e
    have eS' : h'.get? S = _ := kp S _ (by simpa using hST) eS
    have sb := Heap.SameBut.update h' S (Obj.mapSeq fun _ => (#[] : Array Value))
    show wpAny _ X.A.in1 (updateSeq S (fun _ => #[]) >>= _) _ _ _
    refine wpAny_bind (wpAny_updateSeq eS' rfl (wpAny_bind (wpAny_letGo (wpAny_pure ?_))))
    exact fin i x vb _ ex rx (fun j' hj' => hb j' (by omega)) (turn1 J1 fS fun c o hn e => (sb.2 c hn).trans e)
  | succ r ih =>
    intro j i z hr hj hij hb M
    obtain ⟨vb, tb, c, x, ex, rx, eS⟩ := M.best
    obtain ⟨its, rv, hl, hz⟩ := M.inv.list hx
    have n1 : its.toArray.size = xs.length := by rw [List.size_toArray]; exact rv.length.symm
    have W := Walks.list (prog := X.prog) (w := X.w) (A := X.A.in1) (M.inv.ok.hd hc) T a haT its.toArray
    refine codeAny_builtin PySem.F.entry_min_loop ?_
    rw [Around.under_plainId PySem.F.plain_min_loop _]
    show wpAny _ X.A.in1 (seqItems? (.ref S) >>= _) _ _ z
    refine wpAny_bind (wpAny_seqItems eS rfl ?_)
    show wpAny _ X.A.in1 (tryCatch (pyNext (.ref T)) _ >>= _) _ _ z
    refine wpAny_bind (wpAny_tryCatch (W.item (j + 1) z _ _ (by omega) ⟨M.iter, hl.isList⟩ fun v h' tk' hP st kp => ?_))
    have J1 : L2.Inv X pins ν G { z with heap := h', toks := tk' } := turn1 M.inv fT fun c o hn e => kp c o (by simpa using hn) e
    have eS' : h'.get? S = _ := kp S _ (by simpa using hST) eS
    obtain ⟨oT, eT, cT, dT⟩ := id st.1
    obtain ⟨x2, ex2, rx2⟩ : ∃ x2, xs[j + 1]? = some x2 ∧ RelV x2 v := by
      obtain ⟨x2, e2⟩ : ∃ x2, xs[j + 1]? = some x2 := ⟨_, List.getElem?_eq_getElem (by omega)⟩
      obtain ⟨u, hu, ru⟩ := rv.get e2
      have hP' : its[j + 1]? = some v := by simpa using hP
      rw [hP'] at hu
      cases hu
      exact ⟨x2, e2, ru⟩
    obtain ⟨J2, mS, mT⟩ := pin2 J1 fS fT eS' eT (fun v e => by cases e) (fun v e => by rw [dT] at e; cases e)
    show wpAny _ X.A.in1 (tryCatch (holding [v] (call (.ref q) [v])) _ >>= _) _ _ _
    refine wpAny_bind (wpAny_tryCatch (wpAny_holding (wpAny_mono (Kq (j + 1) x2 v _ _ ex2 rx2 J2) (fun u y hy => ?_) fun _ _ no => no.elim)))
    obtain ⟨t2, rfl, J3⟩ := hy
    have J4 : L2.Inv X pins ν G y := J3.unpinned
    have eS3 := (J3.pin _ (List.mem_append_right _ (List.mem_append_right _ mS))).1
    have eT3 := (J3.pin _ (List.mem_append_right _ (List.mem_append_right _ mT))).1
    have it3 : y.heap.IsListIter T a (j + 1 + 1) := ⟨oT, eT3, cT, dT⟩
    show wpAny _ X.A.in1 (tryCatch (holding [v, .int (kf (j + 1)) t2] (richCompare .Lt (.int (kf (j + 1)) t2) (.int (kf i) tb) >>= _)) _ >>= _) _ _ _
    refine wpAny_bind (wpAny_tryCatch (wpAny_holding (wpAny_bind (CmpOf.ints_lt (prog := X.prog) (w := X.w) (A := X.A.in1) (P := fun i v => ∃ t, v = .int (kf i) t) kf (fun i v h => h) (j + 1) i _ _ _ _ _ ⟨t2, rfl⟩ ⟨tb, rfl⟩ ?_))))
    refine wpAny_bind (wpAny_holding (wpAny_truthy_bool ?_))
    refine wpAny_bind (wpAny_letGo (wpAny_pure ?_))
    by_cases less : kf (j + 1) < kf i
    · have sb := Heap.SameBut.update y.heap S (Obj.mapSeq fun _ => #[v, .int (kf (j + 1)) t2])
      have new := get?_update_seq eS3 fun _ => #[v, .int (kf (j + 1)) t2]
      simp only [less, decide_true, if_true]
      refine wpAny_bind (wpAny_updateSeq eS3 rfl (wpAny_bind (wpAny_letGo ?_)))
      rw [nm]
      refine wpAny_pure ⟨plainId_quiet PySem.F.plain_min_loop _, ih (j + 1) (j + 1) _ (by omega) (by omega) (Nat.le_refl _) (fun j' hj' => ?_) ⟨turn1 J4 fS fun c o hn e => (sb.2 c hn).trans e, ⟨v, t2, _, x2, ex2, rx2, new⟩, ⟨oT, (sb.2 T hST.symm).trans eT3, cT, dT⟩⟩⟩
      by_cases e : j' = j + 1
      · subst e
        exact ⟨Int.le_refl _, fun w => absurd w (Nat.lt_irrefl _)⟩
      · have b1 := hb j' (by omega)
        have b2 := b1.1
        exact ⟨by omega, fun _ => by omega⟩
    · simp only [less, decide_false, Bool.false_eq_true, if_false]
      refine wpAny_bind (wpAny_letGo ?_)
      rw [nm]
      refine wpAny_pure ⟨plainId_quiet PySem.F.plain_min_loop _, ih (j + 1) i _ (by omega) (by omega) (by omega) (fun j' hj' => ?_) ⟨J4, ⟨vb, tb, c, x, ex, rx, eS3⟩, it3⟩⟩
      by_cases e : j' = j + 1
      · subst e
        exact ⟨by omega, fun w => by omega⟩
      · exact hb j' (by omega)
end
end Z
set_option maxRecDepth 100000
set_option maxHeartbeats 1000000
set_option linter.all false
namespace Z
open PySem PySem.Spec
open PyProof.Rows L2
section
variable {X : Cx} {pins : List (Addr × Obj)} {ν : L2.St} {G : Hp} {a q : Addr} {xs : List V} {kf : Nat → Int} {R : Value → Shared → Prop} {F : Value → Shared → Prop} {z : Shared}
theorem min_go (hc : X.calm = true) (J : L2.Inv X pins ν G z) (hx : SqL X.K G a xs) (hne : 0 < xs.length) (Kq : KeyAt X pins ν G q xs kf)
    (fin : ∀ (i : Nat) (x : V) (v : Value) (z : Shared), xs[i]? = some x → RelV x v → (∀ j, j < xs.length → kf i ≤ kf j ∧ (j < i → kf i < kf j)) → L2.Inv X pins ν G z → R v z) :
    wpAny (model X.prog X.w) X.A (call (.builtin "min") [.ref a] [(Str.ofString "key", .ref q)]) R F z := by
  have nm : (toString "min" ++ toString ".loop" : String) = "min.loop" := by decide
  obtain ⟨its, rv, hl, hz⟩ := J.list hx
  obtain ⟨oa, ea, _⟩ := id hl.isList
  have alt : a < z.heap.objs.size := Heap.lt_size ea
  refine kmk_tree PySem.F.kind_min PySem.F.plain_min PySem.F.entry_min (kmk_min_key _ _) ?_
  show wpAny _ X.A.in1 (Builtin.Builtins.bindParams "min" ["key", "default"] 0 ⟨[], [(Str.ofString "key", .ref q)]⟩ >>= _) _ _ z
  refine wpAny_bind (wpAny_of_eq (show Builtin.Builtins.bindParams "min" ["key", "default"] 0 ⟨[], [(Str.ofString "key", .ref q)]⟩ = pure [some (.ref q), none] from rfl) ?_)
  refine wpAny_bind (wpAny_pure (wpAny_bind (wpAny_pyIter_list hl.isList ?_)))
  refine wpAny_bind (wpAny_newList ?_ (Nat.zero_le _))
  rw [nm]
  let T : Addr := z.heap.objs.size
  let h1 : Heap := z.heap.push { cls := .type "list_iterator", data := .fields #[.ref a, .int 0 0] }
  let S : Addr := h1.objs.size
  let h2 : Heap := h1.push (seqObj "list" #[] 0)
  have sS : S = T + 1 := size_push' ..
  have eT : h2.get? T = some { cls := .type "list_iterator", data := .fields #[.ref a, .int 0 0] } := Heap.get?_push_of_some _ (Heap.get?_push_size _ rfl)
  have eS : h2.get? S = some (seqObj "list" #[] 0) := Heap.get?_push_size _ rfl
  have hST : S ≠ T := by rw [sS]; exact Nat.succ_ne_self _
  have haT : a ≠ T := Nat.ne_of_lt alt
  have J2 : L2.Inv X pins ν G { z with heap := h2 } := J.kept (t' := z.toks) fun b u e => Heap.get?_push_of_some _ (Heap.get?_push_of_some _ e)
  have fT : FpOk X pins G T := J.fpOk (Nat.le_refl _) (J.hok.fresh (Nat.le_refl _))
  have leS : z.heap.objs.size ≤ S := by rw [sS]; exact Nat.le_succ _
  have fS : FpOk X pins G S := J.fpOk leS (J.hok.fresh leS)
  refine wpAny_pure ⟨plainId_quiet PySem.F.plain_min_loop _, ?_⟩
  obtain ⟨its2, rv2, hl2, _⟩ := J2.list hx
  have n1 : its2.toArray.size = xs.length := by rw [List.size_toArray]; exact rv2.length.symm
  have W := Walks.list (prog := X.prog) (w := X.w) (A := X.A.in1) (J.ok.hd hc) T a haT its2.toArray
  refine codeAny_builtin PySem.F.entry_min_loop ?_
  rw [Around.under_plainId PySem.F.plain_min_loop _]
  show wpAny _ X.A.in1 (seqItems? (.ref S) >>= _) _ _ { z with heap := h2 }
  refine wpAny_bind (wpAny_seqItems eS rfl ?_)
  show wpAny _ X.A.in1 (tryCatch (pyNext (.ref T)) _ >>= _) _ _ { z with heap := h2 }
  refine wpAny_bind (wpAny_tryCatch (W.item 0 { z with heap := h2 } _ _ (by omega) ⟨⟨_, eT, rfl, rfl⟩, hl2.isList⟩ fun v h' tk' hP st kp => ?_))
  have J3 : L2.Inv X pins ν G { z with heap := h', toks := tk' } := turn1 (z := { z with heap := h2 }) J2 fT fun c o hn e => kp c o (by simpa using hn) e
  have eS' : h'.get? S = _ := kp S _ (by simpa using hST) eS
  obtain ⟨oT, eT', cT, dT⟩ := id st.1
  obtain ⟨x2, ex2, rx2⟩ : ∃ x2, xs[0]? = some x2 ∧ RelV x2 v := by
    obtain ⟨x2, e2⟩ : ∃ x2, xs[0]? = some x2 := ⟨_, List.getElem?_eq_getElem hne⟩
    obtain ⟨u, hu, ru⟩ := rv2.get e2
    have hP' : its2[0]? = some v := by simpa using hP
    rw [hP'] at hu
    cases hu
    exact ⟨x2, e2, ru⟩
  obtain ⟨J4, mS, mT⟩ := pin2 J3 fS fT eS' eT' (fun v e => by cases e) (fun v e => by rw [dT] at e; cases e)
  show wpAny _ X.A.in1 (tryCatch (holding [v] (call (.ref q) [v])) _ >>= _) _ _ _
  refine wpAny_bind (wpAny_tryCatch (wpAny_holding (wpAny_mono (Kq 0 x2 v _ _ ex2 rx2 J4) (fun u y hy => ?_) fun _ _ no => no.elim)))
  obtain ⟨t2, rfl, J5⟩ := hy
  have eS3 := (J5.pin _ (List.mem_append_right _ (List.mem_append_right _ mS))).1
  have eT3 := (J5.pin _ (List.mem_append_right _ (List.mem_append_right _ mT))).1
  have sb := Heap.SameBut.update y.heap S (Obj.mapSeq fun _ => #[v, .int (kf 0) t2])
  have new := get?_update_seq eS3 fun _ => #[v, .int (kf 0) t2]
  show wpAny _ X.A.in1 (updateSeq S (fun _ => #[v, .int (kf 0) t2]) >>= _) _ _ _
  refine wpAny_bind (wpAny_updateSeq eS3 rfl ?_)
  rw [nm]
  refine wpAny_pure ⟨plainId_quiet PySem.F.plain_min_loop _, codeAny_mono (min_turns hc hx Kq fS fT hST haT fin _ 0 0 _ rfl hne (Nat.le_refl _) (fun j' hj' => ?_) ⟨turn1 J5.unpinned fS fun c o hn e => (sb.2 c hn).trans e, ⟨v, t2, _, x2, ex2, rx2, new⟩, ⟨oT, (sb.2 T hST.symm).trans eT3, cT, dT⟩⟩) fun r z' hr => ?_⟩
  · have e : j' = 0 := by omega
    subst e
    exact ⟨Int.le_refl _, fun w => absurd w (Nat.lt_irrefl _)⟩
  · cases r with
    | error e => exact hr.elim
    | ok fl => cases fl with
      | ret u => exact hr
      | next => exact hr.elim
      | brk => exact hr.elim
      | cont => exact hr.elim
end
end Z
set_option maxRecDepth 100000
set_option maxHeartbeats 1000000
set_option linter.all false
namespace Z
open PySem PySem.Spec
open PyProof.Rows L2 LamX
/-! a lambda of one parameter, called by a built-in -/
structure LamP (sc scope : Scope) (p : Str) : Prop where
  fnK : scope.kind = .function
  co : scope.isCoroutine = false
  ge : scope.isGenerator = false
  par : scope.names.lookup p = some .local
  own : ∀ y ∈ scope.names, y.2 = .local → y.1 = p
  noc : ∀ y ∈ scope.names, y.2 ≠ .cell
  fre : ∀ y ∈ scope.names, y.2 = .free → sc.names.lookup y.1 = some .cell ∨ sc.names.lookup y.1 = some .free
def lamPB (sc scope : Scope) (p : Str) : Bool :=
  decide (scope.kind = .function) && (!scope.isCoroutine && (!scope.isGenerator && (decide (scope.names.lookup p = some .local) && scope.names.all fun y =>
    (!decide (y.2 = .local) || decide (y.1 = p)) && (!decide (y.2 = .cell) && (!decide (y.2 = .free) || (decide (sc.names.lookup y.1 = some .cell) || decide (sc.names.lookup y.1 = some .free)))))))
theorem lamP_by {sc scope : Scope} {p : Str} (h : lamPB sc scope p = true) : LamP sc scope p := by
  simp only [lamPB, Bool.and_eq_true, Bool.or_eq_true, Bool.not_eq_true', decide_eq_true_eq, decide_eq_false_iff_not, List.all_eq_true] at h
  obtain ⟨a, b, c, d, e⟩ := h
  exact ⟨a, b, c, d, fun y hy q => ((e y hy).1.resolve_left fun n => n q), fun y hy => (e y hy).2.1, fun y hy q => ((e y hy).2.2.resolve_left fun n => n q)⟩
/-- the context of its body, entered at z from a built-in that X called -/
def lamP (X : Cx) (z : Shared) (G : Hp) (scope : Scope) (f c' : Addr) (p : Str) : Cx := { lamCx X X.A.in1 X.stack z G (fun _ _ _ => False) scope f c' with N := X.N ++ [p] }
section
variable {X : Cx} {pins : List (Addr × Obj)} {ν : L2.St} {G : Hp} {z : Shared} {scope : Scope} {f c' : Addr} {p : Str} {x : V} {v : Value}
theorem lamP_start {h1 : Heap} {tk : Nat} (J : L2.Inv X pins ν G z) (L : LamP X.env.scope scope p) (hp : p ∉ X.N) (hc : X.calm = true) (rx : RelV x v)
    (hns : h1.Ns z.heap.objs.size fun y => [(p, v)].reverse.lookup y) (kp : ∀ b o, z.heap.get? b = some o → h1.get? b = some o) :
    L2.Inv (lamP X z G scope f c' p) [] (ν ++ [some x]) G { z with heap := h1, toks := tk } := by
  have e0 := J.env0.in1
  have has : ∀ y ∈ scope.names, y.2 = .free → ∃ c, X.env.cells.lookup y.1 = some c := fun y hy e => J.ok.has _ (L.fre y hy e)
  have up : ∀ {y : Str} {c : Addr}, (cloFrom X.env.cells scope.names []).lookup y = some c → X.env.cells.lookup y = some c := fun {y c} e => by
    rcases cloFrom_mem (PySem.mem_of_lookup e) with m | ⟨m1, m2⟩
    · cases m
    · obtain ⟨d, hd⟩ := has _ m1 rfl
      have hd : X.env.cells.lookup y = some d := hd
      rw [hd, m2, hd] <;> rfl
  have down : ∀ {y : Str}, scope.names.lookup y = some .free → ∃ c, (cloFrom X.env.cells scope.names []).lookup y = some c := fun {y} hl =>
    mem_lookup (cloFrom_has (cells := X.env.cells) (acc := []) (show (y, NameKind.free) ∈ scope.names from PySem.mem_of_lookup hl))
  have keepC : ∀ {c : Addr} {u : Option Value}, z.heap.IsCell c u → h1.IsCell c u := fun {c u} ⟨o, ho, hd⟩ => ⟨o, kp _ _ ho, hd⟩
  have none9 : ∀ b : Addr, b ∉ (lamP X z G scope f c' p).ex := fun b q => absurd (show b ∈ ([] : List Addr) from q) (by simp)
  refine ⟨⟨e0.mod, L.fnK, rfl, rfl, Nat.le_refl _, fun y y2 c e1 e2 => J.ok.inj y y2 c (up e1) (up e2), fun y hy => ?_, fun y c q _ => ?_, fun _ => J.ok.hd hc, Around.frames_deeper e0.frames, .inr ⟨rfl, rfl⟩, fun b q => absurd q (none9 b), e0.bs, e0.bsz, fun b _ _ => none9 b,
      fun b q => absurd q (none9 b), e0.funs, e0.frf⟩, rfl, e0.bare, Un.kept kp, ⟨_, hns, fun i y u e1 e2 e3 => ?_⟩, fun y c e => ?_, e0.hok.fresh (Nat.le_refl _), fun y c e => J.freeC y c (up e), fun o ho => absurd (show o ∈ ([] : List (Addr × Obj)) ++ [] from ho) (by simp), e0.hok.kept kp, ?_⟩
  · have hy : scope.names.lookup y = some .cell ∨ scope.names.lookup y = some .free := hy
    rcases hy with hy | hy
    · exact absurd rfl (L.noc _ (PySem.mem_of_lookup hy))
    · exact down hy
  · exact absurd (show false = true from q) (by simp)
  · have e1 : (X.N ++ [p])[i]? = some y := e1
    have e3 : Vis scope y := e3
    have len := J.len
    by_cases lt : i < X.N.length
    · rw [List.getElem?_append_left lt] at e1
      rw [List.getElem?_append_left (by omega)] at e2
      have ny : y ≠ p := fun q => hp (q ▸ List.mem_of_getElem? e1)
      rcases e3 with k | k | k
      · exact absurd (L.own _ (PySem.mem_of_lookup k) rfl) ny
      · exact absurd rfl (L.noc _ (PySem.mem_of_lookup k))
      · obtain ⟨m, hn, hl⟩ := J.loc
        have vis : Vis X.env.scope y := (L.fre _ (PySem.mem_of_lookup k) rfl).elim (fun k => .inr (.inl k)) fun k => .inr (.inr k)
        obtain ⟨w9, r, lk⟩ := hl i y u e1 e2 vis
        obtain ⟨c2, h2⟩ := down k
        refine ⟨w9, r, .inr ⟨.inr k, c2, h2, ?_⟩⟩
        rcases lk with ⟨k9, _⟩ | ⟨_, c3, e9, q⟩
        · have k9 : X.env.scope.names.lookup y = some .local := k9
          rcases L.fre _ (PySem.mem_of_lookup k) rfl with k2 | k2 <;> rw [show X.env.scope.names.lookup y = _ from k2] at k9 <;> cases k9
        · rw [up h2] at e9
          cases e9
          exact keepC q
    · rw [List.getElem?_append_right (by omega)] at e1 e2
      have i0 : i - X.N.length = 0 := by
        rcases Nat.eq_zero_or_pos (i - X.N.length) with q | q
        · exact q
        · rw [List.getElem?_eq_none (by simp; omega)] at e1
          cases e1
      rw [i0] at e1
      rw [show i - ν.length = 0 by omega] at e2
      cases e1
      cases e2
      refine ⟨v, rx, .inl ⟨L.par, ?_⟩⟩
      simp [List.lookup]
  · obtain ⟨u, q⟩ := J.cell y c (up e)
    exact ⟨u, keepC q⟩
  · show (ν ++ [some x]).length = (X.N ++ [p]).length
    rw [List.length_append, List.length_append, J.len]
    rfl
/-- the lambda at f answers with its key -/
theorem lamP_key {params : Arguments} {body : Expr} {pm ctv : Value} {xs : List V} {kf : Nat → Int} {tb : TE} {k : Nat} (L : LamP X.env.scope scope p) (hp : p ∉ X.N) (hc : X.calm = true) (hr : Room (k + 2) X.A)
    (hcode : G c' = some (CodeO c' (X.env.qual ++ "<lambda>")))
    (hbind : ∀ u, bindArgs (PySem.W.kla_fn "<lambda>" (X.env.qual ++ "<lambda>") params body scope (cloFrom X.env.cells scope.names []) pm (.ref c') ctv) ⟨[u], []⟩ = pure [(p, u)])
    (hbody : ∀ (z : Shared), Room k (X.A.in1.deeper (lamEnv X scope z.heap.objs.size f c')) → PE (lamP X z G scope f c' p) body tb)
    (hk : ∀ (i : Nat) (x : V), xs[i]? = some x → tb (ν ++ [some x]) G fun u G' => u = .int (kf i) ∧ G' = G) :
    KeyAt X (pins ++ [(f, PySem.W.kla_obj "<lambda>" (X.env.qual ++ "<lambda>") params body scope (cloFrom X.env.cells scope.names []) pm c' ctv)]) ν G f xs kf := by
  intro i x v pl z ex rx J
  have ef := (J.pin _ (List.mem_append_right _ (List.mem_append_left _ (List.mem_append_right _ (List.mem_singleton.mpr rfl))))).1
  obtain ⟨⟨oc, vs, t, hoc, hdc, hvc⟩, _, _⟩ := J.hok c' _ hcode
  have rc : codeAny (model X.prog X.w) X.A.in1 (.call (.ref f) ⟨[v], []⟩) (CR (L2.CX X.prog X.w) X.stack X.prog X.w G z (fun u G' => u = .int (kf i) ∧ G' = G) (fun _ _ _ => False)) z := by
    refine PySem.W.kla_callFunE hr.in1.depth ef rfl L.co L.ge rfl ⟨c', oc, vs, t, rfl, hoc, hdc, hvc⟩ ?_
    rw [hbind]
    refine wpAny_pure (wpAny_newFunctionEnv L.noc (fun y hy => by rw [List.mem_singleton.mp hy]; exact L.par) (fun h1 hns hsb => ⟨J.nolimit.fresh _ hsb, ?_⟩) L.fnK)
    have kp : ∀ b o, z.heap.get? b = some o → h1.get? b = some o := fun b o e => hsb.extBut b o (Nat.ne_of_lt (Heap.lt_size e)) (Heap.get?_push_of_some _ e)
    have S9 : L2.Inv (lamP X z G scope f c' p) [] (ν ++ [some x]) G { z with heap := h1, toks := z.toks + [(p, v)].length } := lamP_start J L hp hc rx hns kp
    refine PySem.W.kla_codeExpr (wpAny_mono ((hbody z (hr.in1.deeper _)).run [] _ _ G _ S9 (hk i x ex)) (fun u y hq => ?_) fun e y hq => hq)
    obtain ⟨w9, G9, J9, rv, q⟩ := hq
    exact ⟨w9, G9, J9.os, J9.bare, J9.base, J9.hok, rv, q⟩
  refine wpAny_call (codeAny_mono rc fun r y hq => ?_)
  cases r with
  | error e =>
    obtain ⟨_, _, _, _, _, _, _, _, _, _, _, _, no⟩ := hq
    exact no.elim
  | ok fl => cases fl with
    | ret u =>
      obtain ⟨w9, G9, J9, rv, rfl, rfl⟩ := J.after hq
      obtain ⟨t, rfl⟩ := rv
      exact ⟨t, rfl, J9⟩
    | next => exact False.elim hq
    | brk => exact False.elim hq
    | cont => exact False.elim hq
end
end Z
set_option maxRecDepth 100000
set_option maxHeartbeats 1000000
set_option linter.all false
namespace Z
open PySem PySem.Spec
open PyProof.Rows L2 LamX
/-- all is kept but what lies at P -/
def ButP (P : Addr) (G G' : Hp) : Prop := ∀ b o, G b = some o → b ≠ P → G' b = some o
section
variable {X : Cx} {pins : List (Addr × Obj)} {ν : L2.St} {G : Hp} {z : Shared}
/-- a lambda is made: nothing that is tracked turns but its table -/
theorem lam_at {Ω : List (Addr × Str)} {c P : Addr} {params : Arguments} {body : Expr} {scope : Scope} {pos : Pos} {F : Value → Shared → Prop} {R : Value → Shared → Prop} (J : L2.Inv X pins ν G z) (B : TabB X.base X.mg c P) (hcode : X.env.code = .ref c)
    (hm : (P, X.env.qual ++ "<lambda>") ∈ Ω) (hu : ∀ p ∈ Ω, p.1 = P → p.2 = X.env.qual ++ "<lambda>") (hT : Tabs Ω G) (hdef : defaultsOf params X.env = ([], [])) (hfree : ∀ y ∈ scope.names, y.2 = .free → ∃ c, X.env.cells.lookup y.1 = some c)
    (go : ∀ (f k : Addr) (pm ctv : Value) (G1 : Hp) (y : Shared), L2.Inv X pins ν G1 y → ButP P G G1 → Tabs Ω G1 →
      y.heap.get? f = some (PySem.W.kla_obj "<lambda>" (X.env.qual ++ "<lambda>") params body scope (cloFrom X.env.cells scope.names []) pm k ctv) → G1 f = none → f ∉ frs X.stack → G1 k = some (CodeO k (X.env.qual ++ "<lambda>")) → R (.ref f) y) :
    wpAny (model X.prog X.w) X.A (eval (.Lambda params body scope pos) X.env) R F z := by
  obtain ⟨ps, gP, tri, among⟩ := hT _ hm
  have atP : z.heap.get? P = some { cls := .none, data := .fields ps } := J.hok P _ gP
  have bP : z.heap.BuiltinsAt X.mg P := B.bm.keeps J.bk
  have apart : ∀ f, z.heap.objs.size ≤ f → f ∉ frs X.stack := fun f hf q => by
    rcases List.mem_cons.mp (J.stkSub _ q) with e | e
    · exact Nat.not_lt.mpr hf (e ▸ J.lt)
    · exact J.nofs hf e
  refine PySem.W.kla_eval hdef ?_
  cases hc : codeAmong pos ps.toList with
  | some cv =>
    obtain ⟨k, rfl, ek⟩ := among pos cv hc
    refine PySem.W.kla_makeFunctionHit (mg := X.mg) (c := c) (P := P) (ps := ps) (closure_ok hfree) J.ok.glob (J.mod.glob.keeps J.bk) hcode (B.code.keeps J.bk) atP tri hc bP fun ctv h tk kp big => ?_
    exact go h.objs.size k _ ctv G _ (J.kept (t' := tk) fun b o e => Heap.get?_push_of_some _ (kp b o e)) (fun _ _ e _ => e) hT (Heap.get?_push_size _ rfl) (J.hok.fresh big) (apart _ big) ek
  | none =>
    refine PySem.W.kla_makeFunction (mg := X.mg) (c := c) (P := P) (ps := ps) (closure_ok hfree) J.ok.glob (J.mod.glob.keeps J.bk) hcode (B.code.keeps J.bk) atP tri hc B.gP bP fun k ctv h tk kp ge lt rec tb => ?_
    obtain ⟨k2, oc, vs, t, e2, hoc, hd, hv⟩ := rec
    cases e2
    have gk : G k = none := J.hok.fresh ge
    have big : z.heap.objs.size ≤ h.objs.size := Nat.le_trans ge (Nat.le_of_lt lt)
    have nPk : P ≠ k := ne_of_none gP gk
    let more : Array Value := #[rawInt pos.line, rawInt pos.col, .ref k]
    let G1 : Hp := upd (upd G P (.tbl (ps ++ more))) k (CodeO k (X.env.qual ++ "<lambda>"))
    have but : ButP P G G1 := fun b o e n => by
      show upd (upd G P (.tbl (ps ++ more))) k _ b = some o
      rw [upd_ne (ne_of_none e gk), upd_ne n]
      exact e
    have J1 := inv_table (t' := tk) (more := more) (h' := h.push (PySem.W.kla_obj "<lambda>" (X.env.qual ++ "<lambda>") params body scope (cloFrom X.env.cells scope.names []) ((X.mg "__name__").getD .none) k ctv)) J gP
      (fun b o hb e => Heap.get?_push_of_some _ (kp b o hb e)) (Heap.get?_push_of_some _ tb) ge ⟨oc, vs, t, Heap.get?_push_of_some _ hoc, hd, hv⟩
    have app : (ps ++ more).toList = ps.toList ++ [rawInt pos.line, rawInt pos.col, .ref k] := by simp [more]
    refine go h.objs.size k _ ctv G1 _ J1 but (fun p hp => ?_) (Heap.get?_push_size _ rfl) ?_ (apart _ big) upd_same
    · by_cases hb : p.1 = P
      · rw [hu p hp hb, hb]
        refine ⟨ps ++ more, (upd_ne nPk).trans upd_same, by rw [app]; exact PySem.TriplesOk_snoc _ _ _ _ tri, fun q cv hq => ?_⟩
        rw [app] at hq
        rcases among_app _ tri hq with w | w
        · obtain ⟨d, e1, e3⟩ := among q cv w
          refine ⟨d, e1, but _ _ e3 fun e => ?_⟩
          rw [e, gP] at e3
          exact codeO_ne ps (Option.some.inj e3).symm
        · exact ⟨k, w, upd_same⟩
      · obtain ⟨ps', a1, a2, a3⟩ := hT p hp
        refine ⟨ps', but _ _ a1 hb, a2, fun q cv hq => ?_⟩
        obtain ⟨d, e1, e3⟩ := a3 q cv hq
        refine ⟨d, e1, but _ _ e3 fun e => ?_⟩
        rw [e, gP] at e3
        exact codeO_ne ps (Option.some.inj e3).symm
    · show upd (upd G P (.tbl (ps ++ more))) k _ h.objs.size = none
      rw [upd_ne (Nat.ne_of_gt lt), upd_ne (Nat.ne_of_gt (Nat.lt_of_lt_of_le (Heap.lt_size atP) big))]
      exact J.hok.fresh big
end
/-- min(e, key=lambda p: body): the first of the items whose keys are the least -/
def restMin (K : PySem.W.Frag) (Ω : List (Addr × Str)) (P : Addr) (tb : TE) (ν : L2.St) (Q : VK) : V → Hp → Prop := fun x G1 =>
  ∃ (a : Addr) (xs : List V) (kf : Nat → Int), x = .ref a ∧ 0 < xs.length ∧ Tabs Ω G1 ∧ ∀ G2, ButP P G1 G2 → Tabs Ω G2 → SqL K G2 a xs ∧
    (∀ (i : Nat) (y : V), xs[i]? = some y → tb (ν ++ [some y]) G2 fun u G' => u = .int (kf i) ∧ G' = G2) ∧
    ∀ (i : Nat) (y : V), xs[i]? = some y → (∀ j, j < xs.length → kf i ≤ kf j ∧ (j < i → kf i < kf j)) → Q y G2
def tMinL (K : PySem.W.Frag) (Ω : List (Addr × Str)) (P : Addr) (te tb : TE) : TE := fun ν G Q => te ν G (restMin K Ω P tb ν Q)
def one1 (F : V → Hp → Prop) : List V → Hp → Prop := fun vs G => match vs with
  | [x] => F x G
  | _ => False
section
variable {X : Cx} {e body : Expr} {te tb : TE} {scope : Scope} {params : Arguments} {p : Str} {Ω : List (Addr × Str)} {c P : Addr} {k : Nat} {kpos lpos np pos : Pos}
theorem pe_minL (hc : X.calm = true) (hg : Gl X "min") (hm : X.mg "min" = none) (ha : PE X e te) (B : TabB X.base X.mg c P) (hcode : X.env.code = .ref c) (hT : (P, X.env.qual ++ "<lambda>") ∈ Ω) (hu : ∀ t ∈ Ω, t.1 = P → t.2 = X.env.qual ++ "<lambda>")
    (hr : Room (k + 2) X.A) (L : LamP X.env.scope scope p) (hp : p ∉ X.N) (hdef : defaultsOf params X.env = ([], []))
    (hbind : ∀ (q : Str) (cl : List (Str × Addr)) (pm cv ctv u : Value), bindArgs (PySem.W.kla_fn "<lambda>" q params body scope cl pm cv ctv) ⟨[u], []⟩ = pure [(p, u)])
    (hbody : ∀ (z : Shared) (G : Hp) (f c' : Addr), Room k (X.A.in1.deeper (lamEnv X scope z.heap.objs.size f c')) → PE (lamP X z G scope f c' p) body tb)
    (st1 : starEach [e] X.env = (false, eval e X.env) :: starEach [] X.env := by rfl) (he : backTo pos (starEach [e] X.env) = (false, eval e X.env) :: backTo pos (starEach [] X.env) := by rfl) (hpl : (backTo pos (starEach [e] X.env)).any (·.1) = false := by rfl) :
    PE X (.Call (.Name "min" np) [e] [⟨some "key", .Lambda params body scope lpos, kpos⟩] pos) (tMinL X.K Ω P te tb) := by
  refine ⟨fun pins z ν G Q J h => ?_⟩
  refine wpAny_Call_Name_kw (ld_blt (u := .builtin "min") J hg hm (by decide +kernel) ?_)
  have h9 : tCons te tNil ν G (one1 (restMin X.K Ω P tb ν Q)) := h
  refine PyProof.Rows.callWith_kw (thn ((pa_cons ha pa_nil st1).run pos pins z ν G _ J h9) fun us z1 ⟨vs, G1, J1, r1, q1⟩ => ?_) he hpl
  cases r1 with
  | nil => exact False.elim q1
  | cons ru rn => cases rn with
    | cons _ _ => exact False.elim q1
    | nil =>
      obtain ⟨a, xs, kf, rfl, hne, hTb, go⟩ : restMin X.K Ω P tb ν Q _ G1 := q1
      cases ru
      show wpAny _ _ (evalAll [do let v ← eval (.Lambda params body scope lpos) X.env; standAt pos; pure v]) _ _ z1
      refine wpAny_evalAll_cons (wpAny_bind (lam_at J1 B hcode hT hu hTb hdef (fun y hy e => J1.ok.has _ (L.fre y hy e)) fun f c' pm ctv G2 z2 J2 eN T2 hf hfn hfr hco => wpAny_bind (wpAny_standAt (wpAny_pure (wpAny_evalAll_nil ?_)))))
      obtain ⟨hx, hk, fin⟩ := go G2 eN T2
      have J3 : L2.Inv X (pins ++ [(f, PySem.W.kla_obj "<lambda>" (X.env.qual ++ "<lambda>") params body scope (cloFrom X.env.cells scope.names []) pm c' ctv)]) ν G2 z2 := J2.pins_of fun t ht => by
        rcases List.mem_append.mp ht with m | m
        · exact J2.pin t (List.mem_append_right _ m)
        · rw [List.mem_singleton.mp m]
          refine ⟨hf, hfn, fun q => ?_, fun q => hfr ?_, fun v q => by cases q⟩
          · obtain ⟨m, ⟨o, es, ep, ho, hd, _⟩, _⟩ := J2.loc
            have q : f = X.env.locals := q
            rw [← q, hf] at ho
            cases ho
            cases hd
          · rcases J2.ok.stk with k9 | ⟨k9, k8⟩
            · rw [k9]
              exact q
            · rw [k9]
              unfold frs
              rw [List.filterMap_cons, k8]
              exact List.mem_cons_of_mem _ q
      show wpAny _ _ (call (.builtin "min") [.ref a] [(Str.ofString "key", .ref f)]) _ _ z2
      exact min_go hc J3 hx hne (lamP_key (pins := pins) L hp hc hr hco (fun u => hbind _ _ _ _ _ u) (fun z hr9 => hbody z G2 f c' hr9) hk) fun i y v z ey ry mn J9 => ⟨y, G2, J9.unpinned, ry, fin i y ey mn⟩
end
end Z
set_option maxRecDepth 100000
set_option maxHeartbeats 1000000
set_option linter.all false
namespace Z
open PySem PySem.Spec
open PyProof.Rows L2 LamX
/-! readings as data: a lambda's key, a tuple turned about, a def that was passed -/
/-- it is so at the very heap -/
def EvP (K : PySem.W.Frag) (C : Addr) (Ω : List (Addr × Str)) (te : TE) (δ : List Sl) (d : D) : Prop :=
  ∀ (W : Wd K C Ω) (F : Addr → Prop) (G H : Hp) (σ : L2.St), Ok W F G H → Slots W F G H σ δ → ∀ Q : VK, (∀ v, Den W G d v → Q v H) → te σ H Q
section
variable {K : PySem.W.Frag} {C : Addr} {Ω : List (Addr × Str)} {c c1 c2 : Nat} {te tb ta : TE} {δ : List Sl} {R : D → Prop} {d a : D}
theorem Slots.snoc {W : Wd K C Ω} {F : Addr → Prop} {G H : Hp} {σ : L2.St} {v : V} (L : Slots W F G H σ δ) (h : Den W G d v) : Slots W F G H (σ ++ [some v]) (δ ++ [.val d]) where
  len := by rw [List.length_append, List.length_append, L.len]; rfl
  ok i s e := by
    by_cases lt : i < δ.length
    · rw [List.getElem?_append_left lt] at e
      have : at_ (σ ++ [some v]) i = at_ σ i := by
        unfold at_
        rw [List.getElem?_append_left (by rw [L.len]; exact lt)]
      rw [this]
      exact L.ok i s e
    · rw [List.getElem?_append_right (by omega)] at e
      have i0 : i - δ.length = 0 := by
        rcases Nat.eq_zero_or_pos (i - δ.length) with z | z
        · exact z
        · rw [List.getElem?_eq_none (by simp; omega)] at e
          cases e
      rw [i0] at e
      cases e
      refine ⟨v, ?_, h⟩
      unfold at_
      rw [List.getElem?_append_right (by rw [L.len]; omega), L.len, i0]
      rfl
  ne i j s t l hij e1 e2 o1 o2 e3 := by
    have own : ∀ {k : Nat} {u : Sl}, (δ ++ [Sl.val d])[k]? = some u → u.own = true → k < δ.length := fun {k u} e ou => by
      by_cases lt : k < δ.length
      · exact lt
      · rw [List.getElem?_append_right (by omega)] at e
        rcases Nat.eq_zero_or_pos (k - δ.length) with z | z
        · rw [z] at e
          cases e
          cases ou
        · rw [List.getElem?_eq_none (by simp; omega)] at e
          cases e
    have l1 := own e1 o1
    have l2 := own e2 o2
    have at1 : ∀ {k : Nat}, k < δ.length → at_ (σ ++ [some v]) k = at_ σ k := fun {k} lt => by
      unfold at_
      rw [List.getElem?_append_left (by rw [L.len]; exact lt)]
    rw [List.getElem?_append_left l1] at e1
    rw [List.getElem?_append_left l2] at e2
    rw [at1 l1] at e3
    rw [at1 l2]
    exact L.ne i j s t l hij e1 e2 o1 o2 e3
theorem evp_dget {i j : Nat} {ds : List (Key × D)} {k : Key} (h1 : δ[i]? = some (.val (.dic ds))) (h2 : δ[j]? = some (.val a)) (hk : keyD a = some k) (hl : lookK ds k = some d) : EvP K C Ω (tDGet (tVar i) (tVar j)) δ d := fun W F G H σ o s Q q => by
  obtain ⟨v1, e1, d1⟩ := s.val h1
  obtain ⟨v2, e2, d2⟩ := s.val h2
  refine ⟨v1, e1, v2, e2, ?_⟩
  cases d1 with
  | dic r1 r2 =>
    obtain ⟨v, hv, dv⟩ := r2.look hl
    rw [keyD_v d2 hk]
    exact ⟨_, v, rfl, .inl ⟨_, k, same_rd o.gh r1, rfl, hv.symm⟩, q v dv⟩
theorem ev_minL {P : Addr} {q : Str} {xs : List D} (hP : (P, q) ∈ Ω) (h : Ev K C Ω c te δ (· = .lst xs)) (hne : 0 < xs.length) (kf : Nat → Int) (hk : ∀ (i : Nat) (y : D), xs[i]? = some y → EvP K C Ω tb (δ ++ [.val y]) (.int (kf i)))
    (hR : ∀ (i : Nat) (y : D), xs[i]? = some y → (∀ j, j < xs.length → kf i ≤ kf j ∧ (j < i → kf i < kf j)) → R y) : Ev K C Ω c (tMinL K Ω P te tb) δ R := fun W F G H σ o s m Q q9 =>
  h W F G H σ o s m _ fun v G1 H1 d st dd re => by
    subst re
    cases dd with
    | lst g1 g2 =>
      rename_i a vs
      have lenv := g2.len
      have o1 := st.ok o
      have gP : G1 P = none := o1.gs P (W.tS _ hP)
      refine ⟨a, vs, kf, rfl, by omega, W.tab H1 st.iv, fun H2 but tab2 => ?_⟩
      have kg : ∀ b u, G1 b = some u → H2 b = some u := fun b u e => but b u (st.gh b u e) fun z => by
        rw [z, gP] at e
        cases e
      have st2 : Stp W 0 G1 H1 G1 H2 := ⟨fun _ _ z => z, kg, fun b u e ns => but b u e fun z => ns (by rw [z]; exact W.tS _ hP), fun _ z => .inl z, W.tloc H1 H2 P ⟨q, hP⟩ but tab2 st.iv, Nat.le_of_eq (W.tcnt H1 H2 P ⟨q, hP⟩ but tab2 st.iv)⟩
      have s1 := s.step o st
      refine ⟨.inl (.inl (kg _ _ g1)), fun i y hy => ?_, fun i y hy mn => ?_⟩
      · obtain ⟨dy, hd, den⟩ := g2.getV hy
        exact hk i dy hd W F G1 H2 _ (st2.ok o1) ((s1.step o1 st2).snoc den) _ fun v dv => by
          cases dv
          exact ⟨rfl, rfl⟩
      · obtain ⟨dy, hd, den⟩ := g2.getV hy
        exact q9 y G1 H2 dy (st.trans st2) den (hR i dy hd fun j hj => mn j (by omega))
theorem ev_revT {xs : List D} (h : Ev K C Ω c te δ (· = .tup xs)) (hl : xs.length ≤ sizeLine) : Ev K C Ω c (tRevT K te) δ (· = .tup xs.reverse) := fun W F G H σ o s m Q q9 =>
  h W F G H σ o s m _ fun v G1 H1 d st dd re => by
    subst re
    cases dd with
    | tup g1 g2 =>
      rename_i a vs
      refine ⟨a, vs, rfl, Gr.st (Gr.of st.gh) g1, fun p hp => ?_⟩
      have st2 := (st.ok o).new (o := .tup vs.reverse) hp
      refine q9 _ _ _ _ (st.trans st2) (.tup (vs := vs.reverse) (.inl (.inl upd_same)) ?_) rfl
      have rev : ∀ {ds : List D} {us : List V}, Dens W G1 ds us → Dens W G1 ds.reverse us.reverse := fun {ds us} z => by
        induction ds generalizing us with
        | nil =>
          cases z
          exact .nil
        | cons y ys ih =>
          cases z with
          | cons z1 z2 =>
            rw [List.reverse_cons, List.reverse_cons]
            exact (ih z2).snoc z1
      exact (rev g2).mono st2.gg
theorem ev_callA {i : Nat} {f : Addr} {S : Addr → Option Sp} {tt : TA} {P : List D → Prop} {Rf : List D → D → Prop} {ds : List D} (hi : δ[i]? = some (.val (.adr f))) (hS : S f = some (SpD K C Ω c2 P Rf)) (h : EvA K C Ω c1 tt δ (· = ds)) (hp : P ds) :
    Ev K C Ω (c1 + c2) (tCallA i S tt) δ (Rf ds) := fun W F G H σ o s m Q q9 => by
  obtain ⟨v, e, d1⟩ := s.val hi
  cases d1
  exact ⟨f, _, e, hS, h W F G H σ o s (by omega) _ fun vs G1 H1 es st dds re => ⟨W, F, G1, es, st.ok o, dds, by rw [re]; exact hp, cost1 st m, fun v G2 H2 d st2 dd rd => q9 v G2 H2 d (st.trans st2) dd (by rw [← re]; exact rd)⟩⟩
end
end Z
set_option maxRecDepth 100000
set_option maxHeartbeats 1000000
set_option linter.all false
namespace Z
open PySem PySem.Spec
open PyProof.Rows L2 LamX
/-! a draw -/
def asInt : List V → Hp → VK → Prop := fun xs H Q => (∃ i, xs = [V.int i] ∧ Q (V.int i) H) ∨ ∃ k, xs = [V.bl k] ∧ Q (V.int (if k = true then 1 else 0)) H
def plus : R2 := rI0 fun i j => V.int (i + j)
def times : R2 := rI CMul fun i j => V.int (i * j)
def rest : R2 := rI (fun _ j => 0 < j) fun i j => V.int (i % j)
def powr : R2 := rI CPow fun i j => V.int (i ^ j.toNat)
def nr (i : Int) : TE := tC (V.int i)
def fieldS (K : PySem.W.Frag) (k : Int) : TE := tOp (rIxL K) (tVar 0) (nr k)
def goS (k : Int) : TG := gSub (tVar 0) (nr k) rSetL
def tDraw1 : PySem.W.Frag → TS := fun K => tAsg (tOp plus (fieldS K 2) (nr 1)) (goS 2)
def tDrawC (K : PySem.W.Frag) : TT := tAnd (tTest (tOp rEq (fieldS K 1) (nr 0))) (tTest (tOp (rNeD K) (fieldS K 0) (tLst tNil)))
def tDrawB (K : PySem.W.Frag) : TS := tSeq (tAsg (tBM K "list" rPopAt (fieldS K 0) (tCons (nr 0) tNil)) (gName 2))
  (tSeq (tAsg (tOp rest (tCB asInt (tCons (tOp plus (tOp plus (tOp times (fieldS K 3) (nr 8191)) (tVar 2)) (nr 3)) tNil)) (nr 2147483647)) (goS 3))
    (tAsg (tIf (tTest (tOp (rI0 fun i j => V.bl (decide (j ≤ i))) (tVar 2) (tOp powr (nr 10) (nr 18)))) (tVar 2) (nr 0)) (goS 1)))
def tDraw2 (K : PySem.W.Frag) : TS := tIfS (tTest (tOp (rI0 fun i j => V.bl (decide (j < i))) (fieldS K 1) (nr 0)))
  (tSeq (tAsg (tOp rest (tCB asInt (tCons (fieldS K 1) tNil)) (tVar 1)) (gName 3)) (tSeq (tAsg (tOp (rI CDiv fun i j => V.int (i / j)) (fieldS K 1) (tVar 1)) (goS 1)) (tRet (tVar 3)))) tNext
def tDraw3 (K : PySem.W.Frag) : TS := tSeq (tAsg (tOp rest (tCB asInt (tCons (tOp powr (tOp plus (tOp plus (fieldS K 3) (tOp times (nr 7919) (fieldS K 2))) (nr 104729)) (nr 5)) tNil)) (nr 2147483629)) (gName 4))
  (tRet (tOp rest (tOp rest (tCB asInt (tCons (tOp powr (tOp plus (tOp plus (tOp times (tVar 4) (nr 48271)) (tOp times (nr 30011) (fieldS K 2))) (nr 29)) (nr 3)) tNil)) (nr 1000000007)) (tVar 1)))
def tDraw (K : PySem.W.Frag) : TS := tSeq (tDraw1 K) (tSeq (tWhile (tDrawC K) (tDrawB K)) (tSeq (tDraw2 K) (tDraw3 K)))
section
variable {K : PySem.W.Frag} {C : Addr} {Ω : List (Addr × Str)} {W : Wd K C Ω} {F : Addr → Prop} {G H H' : Hp} {σ : L2.St} {cells : List Int} {a b c : Int}
/-- all is kept but the spring -/
def Mv (W : Wd K C Ω) (H H' : Hp) : Prop := ∀ x o, H x = some o → x ≠ W.s → x ≠ W.cl → H' x = some o
theorem Mv.refl : Mv W H H := fun _ _ e _ _ => e
theorem Mv.trans {H1 H2 : Hp} (m : Mv W H H1) (n : Mv W H1 H2) : Mv W H H2 := fun x o e p q => n x o (m x o e p q) p q
theorem Mv.tabs (m : Mv W H H') (g : Sprg W H cells a b c) (t : Tabs Ω H) : Tabs Ω H' := fun p hp => by
  obtain ⟨ps, h1, h2, h3⟩ := t p hp
  refine ⟨ps, m _ _ h1 (W.out p hp).1 (W.out p hp).2, h2, fun pos cv e => ?_⟩
  obtain ⟨d, e1, e2⟩ := h3 pos cv e
  refine ⟨d, e1, m _ _ e2 (fun z => ?_) fun z => ?_⟩
  · rw [z, g.top] at e2
    exact HO.noConfusion (Option.some.inj e2)
  · rw [z, g.low] at e2
    exact HO.noConfusion (Option.some.inj e2)
theorem Mv.s {o : HO} : Mv W H (upd H W.s o) := fun x u e p _ => by rw [upd_ne p]; exact e
theorem Mv.cl {o : HO} : Mv W H (upd H W.cl o) := fun x u e _ p => by rw [upd_ne p]; exact e
theorem Mv.new {p : Addr} {o : HO} (hp : H p = none) : Mv W H (upd H p o) := fun x u e _ _ => by rw [upd_ne (ne_of_none e hp)]; exact e
theorem Sprg.set (g : Sprg W H cells a b c) {a' b' c' : Int} (ha : 0 ≤ a') (hb : 0 ≤ b') (hc : 0 ≤ c') (hc2 : c' < 2147483647) : Sprg W (upd H W.s (.lst [.ref W.cl, .int a', .int b', .int c'])) cells a' b' c' :=
  ⟨upd_same, by rw [upd_ne (fun e => W.ne e.symm)]; exact g.low, g.few, ha, hb, hc, hc2⟩
theorem Sprg.new (g : Sprg W H cells a b c) {p : Addr} {o : HO} (hp : H p = none) : Sprg W (upd H p o) cells a b c :=
  ⟨by rw [upd_ne (ne_of_none g.top hp)]; exact g.top, by rw [upd_ne (ne_of_none g.low hp)]; exact g.low, g.few, g.a0, g.b0, g.c0, g.c1⟩
theorem Sprg.pop {x : Int} (g : Sprg W H (x :: cells) a b c) : Sprg W (upd H W.cl (.lst (cells.map V.int))) cells a b c :=
  ⟨by rw [upd_ne W.ne]; exact g.top, upd_same, Nat.le_trans (Nat.le_succ _) g.few, g.a0, g.b0, g.c0, g.c1⟩
theorem rd_ix (s0 : σ[0]? = some (some (.ref W.s))) (g : Sprg W H cells a b c) {k : Int} {v : V} {Q : VK} (hv : atI [V.ref W.cl, .int a, .int b, .int c] k = some v) (q : Q v H) : fieldS K k σ H Q :=
  ⟨.ref W.s, s0, W.s, _, k, v, rfl, rfl, .inl (.inl g.top), hv, q⟩
theorem wr_ix (s0 : σ[0]? = some (some (.ref W.s))) (g : Sprg W H cells a b c) {k : Int} {j : Nat} {v : V} {Q : L2.St → Hp → Prop} (hj : ixN 4 k = some j) (q : Q σ (upd H W.s (.lst ([V.ref W.cl, .int a, .int b, .int c].set j v)))) : goS k v σ H Q :=
  ⟨.ref W.s, s0, W.s, _, k, j, rfl, rfl, g.top, hj, q⟩
/-- read off, the heap as it is -/
abbrev Pu (te : TE) (σ : L2.St) (H : Hp) (v : V) : Prop := ∀ Q : VK, Q v H → te σ H Q
section
variable {ta tb te : TE} {i j : Int} {v : V}
theorem pu_var {k : Nat} (h : σ[k]? = some (some v)) : Pu (tVar k) σ H v := fun Q q => ⟨v, h, q⟩
theorem pu_nr : Pu (nr i) σ H (.int i) := fun Q q => q
theorem pu_ix (s0 : σ[0]? = some (some (.ref W.s))) (g : Sprg W H cells a b c) {k : Int} (hv : atI [V.ref W.cl, .int a, .int b, .int c] k = some v) : Pu (fieldS K k) σ H v := fun Q q => rd_ix s0 g hv q
theorem pu_plus (ha : Pu ta σ H (.int i)) (hb : Pu tb σ H (.int j)) : Pu (tOp plus ta tb) σ H (.int (i + j)) := fun Q q => ha _ (hb _ ⟨i, j, rfl, rfl, q⟩)
theorem pu_times (hc : CMul i j) (ha : Pu ta σ H (.int i)) (hb : Pu tb σ H (.int j)) : Pu (tOp times ta tb) σ H (.int (i * j)) := fun Q q => ha _ (hb _ ⟨i, j, rfl, rfl, hc, q⟩)
theorem pu_rest (hc : 0 < j) (ha : Pu ta σ H (.int i)) (hb : Pu tb σ H (.int j)) : Pu (tOp rest ta tb) σ H (.int (i % j)) := fun Q q => ha _ (hb _ ⟨i, j, rfl, rfl, hc, q⟩)
theorem pu_powr (hc : CPow i j) (ha : Pu ta σ H (.int i)) (hb : Pu tb σ H (.int j)) : Pu (tOp powr ta tb) σ H (.int (i ^ j.toNat)) := fun Q q => ha _ (hb _ ⟨i, j, rfl, rfl, hc, q⟩)
theorem pu_div (hc : CDiv i j) (ha : Pu ta σ H (.int i)) (hb : Pu tb σ H (.int j)) : Pu (tOp (rI CDiv fun i j => V.int (i / j)) ta tb) σ H (.int (i / j)) := fun Q q => ha _ (hb _ ⟨i, j, rfl, rfl, hc, q⟩)
theorem pu_int (ha : Pu te σ H (.int i)) : Pu (tCB asInt (tCons te tNil)) σ H (.int i) := fun Q q => ha _ (.inl ⟨i, rfl, q⟩)
theorem asg_n {k : Nat} {Z : Ends} (ha : Pu te σ H v) (h : Z.nx (σ.set k (some v)) H) : tAsg te (gName k) Z σ H := ha _ h
theorem asg_s {k : Int} {n : Nat} {Z : Ends} (s0 : σ[0]? = some (some (.ref W.s))) (g : Sprg W H cells a b c) (hj : ixN 4 k = some n) (ha : Pu te σ H v) (h : Z.nx σ (upd H W.s (.lst ([V.ref W.cl, .int a, .int b, .int c].set n v)))) : tAsg te (goS k) Z σ H := ha _ (wr_ix s0 g hj h)
end
/-- the digits of a number are the spring's, or none -/
theorem draw_cond {Q : Bool → Hp → Prop} (s0 : σ[0]? = some (some (.ref W.s))) (g : Sprg W H cells a b c) (h1 : a ≠ 0 → Q false H) (h2 : a = 0 → ∀ p, H p = none → Q (!cells.isEmpty) (upd H p (.lst []))) : tDrawC K σ H Q := by
  refine pu_ix s0 g (k := 1) rfl _ (And.intro rfl (Exists.intro _ (And.intro rfl ?_)))
  show if decide (V.int a = V.int 0) = true then tTest (tOp (rNeD K) (fieldS K 0) (tLst tNil)) σ H Q else Q false H
  by_cases e : a = 0
  · rw [if_pos (by rw [e]; exact decide_eq_true rfl)]
    refine pu_ix s0 g (k := 0) rfl _ (And.intro (by decide) fun p hp => ?_)
    have g2 := g.new (o := .lst []) hp
    have all : ∀ l : List Int, DpAll K (upd H p (.lst [])) (l.map V.int) (l.map PyData.int) := fun l => by
      induction l with
      | nil => exact .nil
      | cons x r ih => exact .cons (.int x) ih
    refine ⟨.list (cells.map .int), .list [], .lst (.inl (.inl g2.low)) (all cells), .lst (.inl (.inl upd_same)) .nil, PySem.W.ke_shaped_ints _, by decide +kernel, _, rfl, ?_⟩
    have ev : (!PyData.eqv (.list (cells.map .int)) (.list [])) = !cells.isEmpty := by
      cases cells with
      | nil => simp [PyData.eqv, PyData.eqvAll]
      | cons x r => simp [PyData.eqv, PyData.eqvAll]
    rw [ev]
    exact h2 e p hp
  · rw [if_neg (by
      intro z
      have z := of_decide_eq_true z
      cases z
      exact e rfl)]
    exact h1 e

theorem pu_if {x : Int} (s2 : σ[2]? = some (some (.int x))) : Pu (tIf (tTest (tOp (rI0 fun i j => V.bl (decide (j ≤ i))) (tVar 2) (tOp powr (nr 10) (nr 18)))) (tVar 2) (nr 0)) σ H (.int (if 10 ^ 18 ≤ x then x else 0)) := fun Q q => by
  have pw : Pu (tOp powr (nr 10) (nr 18)) σ H (.int (10 ^ (18 : Int).toNat)) := pu_powr ⟨by decide, by decide, by decide⟩ pu_nr pu_nr
  refine pu_var s2 (fun y H1 => tOp powr (nr 10) (nr 18) σ H1 fun z H2 => rI0 (fun i j => V.bl (decide (j ≤ i))) y z H2 fun u H3 => ∃ k, u = .bl k ∧ (if k = true then tVar 2 σ H3 Q else nr 0 σ H3 Q)) ?_
  refine pw _ (Exists.intro x (Exists.intro _ (And.intro rfl (And.intro rfl (Exists.intro _ (And.intro rfl ?_))))))
  show if decide ((10 : Int) ^ (18 : Int).toNat ≤ x) = true then tVar 2 σ H Q else nr 0 σ H Q
  have e18 : (10 : Int) ^ (18 : Int).toNat = 10 ^ 18 := by decide
  rw [e18]
  by_cases h : (10 : Int) ^ 18 ≤ x
  · rw [if_pos h] at q
    rw [if_pos (decide_eq_true h)]
    exact pu_var s2 _ q
  · rw [if_neg h] at q
    rw [if_neg (by rw [decide_eq_false h]; exact Bool.false_ne_true)]
    exact q
/-- A DRAW: below the many asked for; the spring alone turns -/
theorem draw_reads (o : Ok W F G H) {m : Int} (h1 : 1 ≤ m) (h2 : m < 1073741824) (s0 : σ[0]? = some (some (.ref W.s))) (s1 : σ[1]? = some (some (.int m))) (sl : 5 ≤ σ.length) {Z : Ends} (ct : W.cnt H + 1 ≤ most)
    (q : ∀ (r : Int) (H' : Hp), 0 ≤ r → r < m → Stp W 1 G H G H' → Z.rt (.int r) H') : tDraw K Z σ H := by
  obtain ⟨⟨cells, a, b, c, g⟩, t⟩ := o.iv
  have cb : W.cnt H = b.toNat := by
    unfold Wd.cnt
    rw [g.top]
    rfl
  have hb := g.b0
  have bm : b + 1 ≤ 2 ^ 40 := by
    unfold most at ct
    omega
  have fin : ∀ (H' : Hp) (cells' : List Int) (a' c' : Int), Mv W H H' → Sprg W H' cells' a' (b + 1) c' → Stp W 1 G H G H' := fun H' cells' a' c' mv g' => by
    refine ⟨fun _ _ e => e, fun x u e => mv x u (o.gh x u e) (fun z => ?_) fun z => ?_, fun x u e ns => mv x u e (fun z => ns (.inl z)) fun z => ns (.inr (.inl z)), fun _ e => .inl e, ⟨⟨_, _, _, _, g'⟩, mv.tabs g t⟩, ?_⟩
    · rw [z, o.gs W.s (.inl rfl)] at e
      cases e
    · rw [z, o.gs W.cl (.inr (.inl rfl))] at e
      cases e
    · have : W.cnt H' = (b + 1).toNat := by
        unfold Wd.cnt
        rw [g'.top]
        rfl
      omega
  -- what comes behind the walk over the numbers
  have after : ∀ (σ' : L2.St) (H' : Hp) (cells' : List Int) (a' c' : Int), Sprg W H' cells' a' (b + 1) c' → Mv W H H' → σ'[0]? = some (some (.ref W.s)) → σ'[1]? = some (some (.int m)) → 5 ≤ σ'.length → tSeq (tDraw2 K) (tDraw3 K) Z σ' H' := fun σ' H' cells' a' c' g' mv e0 e1 el => by
    have ha := g'.a0
    refine pu_ix e0 g' (k := 1) rfl _ (Exists.intro a' (Exists.intro 0 (And.intro rfl (And.intro rfl (Exists.intro _ (And.intro rfl ?_))))))
    show if decide (0 < a') = true then _ else _
    by_cases pos : 0 < a'
    · rw [if_pos (decide_eq_true pos)]
      refine asg_n (pu_rest (by omega) (pu_int (pu_ix e0 g' rfl)) (pu_var e1)) ?_
      have f0 : (σ'.set 3 (some (V.int (a' % m))))[0]? = some (some (.ref W.s)) := by rw [List.getElem?_set_ne (by decide)]; exact e0
      have f1 : (σ'.set 3 (some (V.int (a' % m))))[1]? = some (some (.int m)) := by rw [List.getElem?_set_ne (by decide)]; exact e1
      have f3 : (σ'.set 3 (some (V.int (a' % m))))[3]? = some (some (V.int (a' % m))) := List.getElem?_set_self (by omega)
      refine asg_s f0 g' (n := 1) rfl (pu_div ⟨by omega, h2⟩ (pu_ix f0 g' rfl) (pu_var f1)) ?_
      exact pu_var f3 _ (q _ _ (Int.emod_nonneg _ (by omega)) (Int.emod_lt_of_pos _ (by omega)) (fin _ cells' (a' / m) c' (mv.trans Mv.s) (g'.set (Int.ediv_nonneg ha (by omega)) (by omega) g'.c0 g'.c1)))
    · rw [if_neg (by rw [decide_eq_false pos]; exact Bool.false_ne_true)]
      have hc0 := g'.c0
      have hc1 := g'.c1
      refine asg_n (pu_rest (by decide) (pu_int (pu_powr (i := c' + 7919 * (b + 1) + 104729) ⟨by decide, by decide, by omega⟩ (pu_plus (pu_plus (pu_ix e0 g' rfl) (pu_times (.inl ⟨by decide, by decide⟩) pu_nr (pu_ix e0 g' rfl))) pu_nr) pu_nr)) pu_nr) ?_
      generalize hx : (c' + 7919 * (b + 1) + 104729) ^ (5 : Int).toNat % 2147483629 = x
      have x0 : 0 ≤ x := by rw [← hx]; exact Int.emod_nonneg _ (by decide)
      have x1 : x < 2147483629 := by rw [← hx]; exact Int.emod_lt_of_pos _ (by decide)
      have f0 : (σ'.set 4 (some (V.int x)))[0]? = some (some (.ref W.s)) := by rw [List.getElem?_set_ne (by decide)]; exact e0
      have f1 : (σ'.set 4 (some (V.int x)))[1]? = some (some (.int m)) := by rw [List.getElem?_set_ne (by decide)]; exact e1
      have f4 : (σ'.set 4 (some (V.int x)))[4]? = some (some (V.int x)) := List.getElem?_set_self (by omega)
      refine pu_rest (i := (x * 48271 + 30011 * (b + 1) + 29) ^ (3 : Int).toNat % 1000000007) (j := m) (by omega) (pu_rest (by decide) (pu_int (pu_powr (i := x * 48271 + 30011 * (b + 1) + 29) ⟨by decide, by decide, by omega⟩ (pu_plus (pu_plus (pu_times (.inr ⟨by decide, by decide⟩) (pu_var f4) pu_nr) (pu_times (.inl ⟨by decide, by decide⟩) pu_nr (pu_ix f0 g' rfl))) pu_nr) pu_nr)) pu_nr) (pu_var f1) _ ?_
      exact q _ _ (Int.emod_nonneg _ (by omega)) (Int.emod_lt_of_pos _ (by omega)) (fin _ cells' a' c' mv g')
  refine asg_s s0 g (n := 2) rfl (pu_plus (pu_ix s0 g rfl) pu_nr) ?_
  have g1 : Sprg W (upd H W.s (.lst ([V.ref W.cl, .int a, .int b, .int c].set 2 (.int (b + 1))))) cells a (b + 1) c := g.set g.a0 (by omega) g.c0 g.c1
  refine ⟨fun n σ' H' => ∃ cells' a' c', Sprg W H' cells' a' (b + 1) c' ∧ cells'.length = n ∧ Mv W H H' ∧ σ'[0]? = some (some (.ref W.s)) ∧ σ'[1]? = some (some (.int m)) ∧ 5 ≤ σ'.length, ⟨_, cells, a, c, g1, rfl, Mv.s, s0, s1, sl⟩, ?_⟩
  rintro n σ' H' ⟨cells', a', c', g', hn, mv, e0, e1, el⟩
  refine draw_cond e0 g' (fun _ => ?_) fun _ p hp => ?_
  · show if false = true then _ else _
    rw [if_neg Bool.false_ne_true]
    exact after σ' H' cells' a' c' g' mv e0 e1 el
  · have g2 := g'.new (o := .lst []) hp
    have mv2 : Mv W H (upd H' p (.lst [])) := mv.trans (Mv.new hp)
    cases cells' with
    | nil =>
      show if (!([] : List Int).isEmpty) = true then _ else _
      rw [if_neg (by decide)]
      exact after σ' _ [] a' c' g2 mv2 e0 e1 el
    | cons x r =>
      show if (!(x :: r).isEmpty) = true then _ else _
      rw [if_pos (by rfl)]
      refine ⟨fun σ'' H'' => ∃ cells' a' c', Sprg W H'' cells' a' (b + 1) c' ∧ cells'.length = r.length ∧ Mv W H H'' ∧ σ''[0]? = some (some (.ref W.s)) ∧ σ''[1]? = some (some (.int m)) ∧ 5 ≤ σ''.length, fun σ'' H'' z => ⟨r.length, by rw [← hn]; exact Nat.lt_succ_self _, z⟩, ?_⟩
      refine pu_ix e0 g2 (k := 0) rfl _ (And.intro (Or.inl ⟨rfl, _, .inl (.inl g2.low)⟩) ?_)
      refine Exists.intro W.cl (Exists.intro _ (Exists.intro 0 (Exists.intro 0 (Exists.intro (V.int x) (And.intro rfl (And.intro rfl (And.intro g2.low (And.intro (by decide) (And.intro (by decide) (And.intro (by simp [seqIndex?]) (And.intro rfl ?_)))))))))))
      have g3 := g2.pop
      have f0 : (σ'.set 2 (some (V.int x)))[0]? = some (some (.ref W.s)) := by rw [List.getElem?_set_ne (by decide)]; exact e0
      have f1 : (σ'.set 2 (some (V.int x)))[1]? = some (some (.int m)) := by rw [List.getElem?_set_ne (by decide)]; exact e1
      have f2 : (σ'.set 2 (some (V.int x)))[2]? = some (some (V.int x)) := List.getElem?_set_self (by omega)
      have fl : 5 ≤ (σ'.set 2 (some (V.int x))).length := by rw [List.length_set]; exact el
      refine asg_s f0 g3 (n := 3) rfl (pu_rest (by decide) (pu_int (pu_plus (pu_plus (pu_times (.inr ⟨by decide, by decide⟩) (pu_ix f0 g3 rfl) pu_nr) (pu_var f2)) pu_nr)) pu_nr) ?_
      have g4 : Sprg W (upd (upd (upd H' p (.lst [])) W.cl (.lst (r.map V.int))) W.s (.lst ([V.ref W.cl, .int a', .int (b + 1), .int c'].set 3 (.int ((c' * 8191 + x + 3) % 2147483647))))) r a' (b + 1) ((c' * 8191 + x + 3) % 2147483647) :=
        g3.set g3.a0 (by omega) (Int.emod_nonneg _ (by decide)) (Int.emod_lt_of_pos _ (by decide))
      refine asg_s f0 g4 (n := 1) rfl (pu_if f2) ?_
      refine ⟨r, _, _, g4.set ?_ (by omega) g4.c0 g4.c1, rfl, ((mv2.trans Mv.cl).trans Mv.s).trans Mv.s, f0, f1, fl⟩
      split
      · rename_i big
        exact Int.le_trans (by decide) big
      · decide
end
end Z
set_option maxRecDepth 100000
set_option maxHeartbeats 1000000
set_option linter.all false
namespace Z
open PySem PySem.Spec
open PyProof.Rows L2 LamX
/-! the laws' own defs: draw, pick, mixed -/
section
variable {P : Program} {w : World} {K : PySem.W.Frag} {C : Addr} {Ω : List (Addr × Str)} {mg : Str → Option Value} {base : Heap} {x q : Str} {st : Stmt} {f : Addr} {fd : FuncData} {N ps : List Str} {k n c c1 c2 : Nat} {δ : List Sl}
abbrev spDraw (K : PySem.W.Frag) (C : Addr) (Ω : List (Addr × Str)) : Sp := SpD K C Ω 1 (fun ds => ∃ m : Int, ds = [.stm, .int m] ∧ 1 ≤ m ∧ m < 1073741824) fun ds d => ∃ m r : Int, ds = [.stm, .int m] ∧ d = .int r ∧ 0 ≤ r ∧ r < m
theorem cal_draw (F : FnP K x x st f fd) (hm : mg x = some (.ref f)) (S : FnScope N ps (defScope st)) (hN : 5 ≤ N.length) (hp : ps.length = 2)
    (hb : ∀ (kV doc pm : Value) (an : Option Addr) (cdv ct : Value) (us : List Value), us.length = ps.length → bindArgs (PySem.W.fnOf x x (defArgs st) (defBody st) (defScope st) .none kV doc pm an cdv ct) ⟨us, []⟩ = pure (ps.zip us))
    (h : ∀ (cdv : Value) (A : Around) (outer : List Env) (s : Shared) (H : Hp) (E : XK), Room k (A.deeper (envOfC x (defScope st) s.heap.objs.size f cdv)) → PSs (cxOf CX0 P w K mg base N x (defScope st) f cdv A outer s H E).nox (defBody st) (tDraw K)) :
    C8.Cal P w K mg base (k + 1) x (spDraw K C Ω) [] := by
  refine ⟨f, fd, ps, [], F.ok S (fun vs H Q E z => ?_) (fun cdv A outer s H vs Q E hr z => ⟨_, (h cdv A outer s H E hr).nox, ?_⟩), hm, F.kp, F.bindsN hb, .nil⟩
  · obtain ⟨W, F9, G, ds, _, dd, ⟨m, rfl, _⟩, _⟩ := z
    rw [hp, ← dd.len]
    rfl
  · obtain ⟨W, F9, G, ds, o, dd, ⟨m, rfl, m1, m2⟩, ct, go⟩ := z
    cases dd with
    | cons d1 dd => cases dd with
      | cons d2 dd =>
        cases dd
        cases d1
        cases d2
        have sl : (L2.start N [.ref W.s, .int m]).length = N.length := by
          unfold L2.start
          rw [List.length_append, List.length_map, List.length_replicate]
          simp
          omega
        exact draw_reads o m1 m2 (by simp [L2.start]) (by simp [L2.start]) (by omega) ct fun r H' r0 r1 sp => go _ _ _ (.int r) sp (.int r) ⟨m, r, rfl, rfl, r0, r1⟩

/-! one of some -/
def tPick (K : PySem.W.Frag) (C : Addr) (Ω : List (Addr × Str)) : TS := tRet (tOp (rIxL K) (tVar 1) (tCall (spDraw K C Ω) [] C8.E0 (tCons (tVar 0) (tCons (tCB (rLenV K) (tCons (tVar 1) tNil)) tNil))))
theorem ev_lenL {i : Nat} {xs : List D} (h : δ[i]? = some (.val (.lst xs))) : Ev K C Ω 0 (tCB (rLenV K) (tCons (tVar i) tNil)) δ (· = .int xs.length) :=
  ev_cb (ea1 (ev_var h) ea_nil) fun ds e => by
    subst e
    exact rc_len_l
theorem at_nat {α : Type} {xs : List α} {r : Int} (h0 : 0 ≤ r) (h1 : r < xs.length) : atI xs r = xs[r.toNat]? := by
  unfold atI ixN
  rw [if_pos h0, if_pos h1]
  rfl
theorem pick_run {xs : List D} (hne : 0 < xs.length) (hl : xs.length < 1073741824) : Run K C Ω 1 (tPick K C Ω) (startS 2 [.stm, .lst xs]) (retO fun d => d ∈ xs) := by
  have e0 : (startS 2 [.stm, .lst xs])[0]? = some (.val .stm) := rfl
  have e1 : (startS 2 [.stm, .lst xs])[1]? = some (.val (.lst xs)) := rfl
  have hc : Ev K C Ω 1 (tCall (spDraw K C Ω) [] C8.E0 (tCons (tVar 0) (tCons (tCB (rLenV K) (tCons (tVar 1) tNil)) tNil))) (startS 2 [.stm, .lst xs]) (fun d => ∃ r : Int, d = .int r ∧ 0 ≤ r ∧ r < xs.length) :=
    ((ev_call1 (ds := [.stm, .int xs.length]) (ea1 (ev_var e0) (ea1 (ev_lenL e1) ea_nil)) ⟨_, rfl, by omega, by omega⟩).imp fun d ⟨m, r, q, z, r0, r1⟩ => by
      cases q
      exact ⟨r, z, r0, r1⟩).le (by omega)
  refine run_ret (R := fun d => d ∈ xs) ((ev_op (ev_var e1) hc fun a b ha hb => ?_).le (by omega)) fun d hd => hd
  obtain ⟨r, rfl, r0, r1⟩ := hb
  subst ha
  intro W F G H x y o da db Q q
  have lt : r.toNat < xs.length := by omega
  exact rv_ixl (d := xs[r.toNat]) ((at_nat r0 r1).trans (List.getElem?_eq_getElem lt)) W F G H x y o da db Q fun v G' H' d st dd e => q v G' H' d st dd (e ▸ List.getElem_mem lt)
/-! all, in some order -/
theorem erase_perm {α : Type} {d : α} : ∀ {l : List α} {i : Nat}, l[i]? = some d → (d :: l.eraseIdx i).Perm l
  | [], _, e => by simp at e
  | x :: r, 0, e => by
    cases e
    exact .refl _
  | x :: r, i + 1, e => (List.Perm.swap x d (r.eraseIdx i)).trans ((erase_perm (l := r) (i := i) (by simpa using e)).cons x)
def tPopD (K : PySem.W.Frag) (C : Addr) (Ω : List (Addr × Str)) : TE := tBM K "list" rPopAt (tVar 2) (tCons (tCall (spDraw K C Ω) [] C8.E0 (tCons (tVar 0) (tCons (tCB (rLenV K) (tCons (tVar 2) tNil)) tNil))) tNil)
def tMixR (K : PySem.W.Frag) (C : Addr) (Ω : List (Addr × Str)) : TE := tLc (iRng1 (tCons (tCB (rLenV K) (tCons (tVar 2) tNil)) tNil)) (gName 3) tYes (tPopD K C Ω) [3]
def tMix (K : PySem.W.Frag) (C : Addr) (Ω : List (Addr × Str)) : TS := tSeq (tAsg (tCB (rListV K) (tCons (tVar 1) tNil)) (gName 2)) (tRet (tMixR K C Ω))
theorem mix_ret {xs : List D} (hl : xs.length ≤ 1000000) (e0 : δ[0]? = some (.val .stm)) (e2 : δ[2]? = some (.oL xs)) (e3 : 3 < δ.length) : Run K C Ω xs.length (tRet (tMixR K C Ω)) δ (retO fun d => ∃ ys, d = .lst ys ∧ ys.Perm xs) := fun W F G H σ o L m Z n r b e => by
  obtain ⟨l, lv, el, hl1, gl, fl, hd⟩ := L.ok 2 _ e2
  have lenv := hd.len
  have nS : ¬ W.S l := fun q => fl (o.sf l q)
  have it := it_rng1 (K := K) (C := C) (Ω := Ω) (c := 0) (δ := δ) (n := (xs.length : Int)) (tA := tCons (tCB (rLenV K) (tCons (tVar 2) tNil)) tNil)
    (ea1 (ev_peek e2 rfl (ev_lenL (xs := xs) (by rw [List.getElem?_set_self (by omega)]; rfl)) fun d z => by rw [z]; rfl) ea_nil) ⟨by omega, by omega⟩
  show tMixR K C Ω σ H Z.rt
  unfold tMixR tLc
  refine it W F G H σ o L (by omega) _ fun J G1 H1 ns st1 hy hns => ?_
  intro Dd hD
  have hns : ns = intsD 0 (xs.length : Int).toNat := hns
  subst hns
  have o1 := st1.ok o
  have nlen : (intsD 0 (xs.length : Int).toNat).length = xs.length := by rw [intsD_len]; omega
  have hD0 : H Dd = none := none_of_ne fun q => st1.dom q hD
  have fD : ¬ F Dd := fun q => o.fd Dd q hD0
  have nSD : ¬ W.S Dd := fun q => fD (o.sf Dd q)
  have hl2 : H1 l = some (.lst lv) := st1.hh l _ hl1 nS
  have gl1 : G1 l = none := none_of_ne fun q => by
    rcases st1.fr l q with z | z
    · exact z gl
    · rw [hl1] at z
      cases z
  have neq : Dd ≠ l := fun q => by
    rw [q, hl1] at hD0
    cases hD0
  let St : Nat → Hp → Prop := fun i H' => ∃ G' leftD leftV accD accV, StF W F i G H G' H' ∧ Same G1 G' ∧ H' l = some (.lst leftV) ∧ G' l = none ∧ Dens W G' leftD leftV ∧ H' Dd = some (.lst accV) ∧ G' Dd = none ∧ Dens W G' accD accV ∧ (accD ++ leftD).Perm xs ∧ leftD.length + i = xs.length ∧ accD.length = i
  have start : St 0 (upd H1 Dd (.lst [])) := by
    have so := o1.own (o := .lst []) hD
    refine ⟨G1, xs, lv, [], [], ((st1.trans so).f o).le (by omega), fun _ _ z => z, by rw [upd_ne (Ne.symm neq)]; exact hl2, gl1, hd.mono st1.gg, upd_same, o1.gnone hD, .nil, .refl _, by omega, rfl⟩
  refine ⟨fun i mm H' => mm = xs.length - i ∧ i ≤ xs.length ∧ St i H', ⟨_, rfl, Nat.zero_le _, start⟩, ?_⟩
  rintro i mm H' ⟨rfl, hi, G', leftD, leftV, accD, accV, sf, sg, hL, gL, dL, hA, gA, dA, perm, n1, n2⟩
  have o' := sf.ok o
  obtain ⟨y1, y2⟩ := hy F G' H' sg o' i
  by_cases lt : i < xs.length
  · obtain ⟨jgo, jy⟩ := y1 _ (intsD_get (lo := 0) (n := (xs.length : Int).toNat) (i := i) (by omega))
    refine .inr ⟨jgo, fun H2 => St (i + 1) H2, fun H2 z => ⟨_, by omega, rfl, by omega, z⟩, fun x H3 hyx => ?_⟩
    obtain ⟨G3, dx, st3⟩ := jy x H3 hyx
    have o3 := st3.ok o'
    show wipe ((wipe σ [3]).set 3 (some x)) [3] = wipe σ [3] ∧ _
    refine ⟨(wipe_set (by simp)).trans (wipe_wipe σ [3] [3] fun _ z => z), ?_⟩
    show tPopD K C Ω ((wipe σ [3]).set 3 (some x)) H3 _
    have wl : ∀ k, k ≠ 3 → ((wipe σ [3]).set 3 (some x))[k]? = σ[k]? := fun k hk => by
      rw [List.getElem?_set_ne (Ne.symm hk)]
      show (σ.set 3 none)[k]? = σ[k]?
      rw [List.getElem?_set_ne (Ne.symm hk)]
    obtain ⟨vs0, ev0, dv0⟩ := L.val e0
    cases dv0
    have hL3 : H3 l = some (.lst leftV) := st3.hh l _ hL nS
    have hA3 : H3 Dd = some (.lst accV) := st3.hh Dd _ hA nSD
    have lenL := dL.len
    have cnt3 := st3.ct
    have cnt' := sf.ct
    refine ⟨.ref l, (wl 2 (by decide)).trans (at_some el), Or.inl ⟨rfl, leftV, .inl (.inl hL3)⟩, ?_⟩
    refine ⟨.ref W.s, (wl 0 (by decide)).trans ev0, .ref l, (wl 2 (by decide)).trans (at_some el), .ref l, leftV.length, rfl, .inl ⟨leftV, .inl (.inl hL3), rfl⟩, ?_⟩
    refine ⟨W, F, G3, [.stm, .int leftV.length], o3, .cons .stm (.cons (.int _) .nil), ⟨_, rfl, by omega, by omega⟩, by omega, fun v G4 H4 d st4 dd hr => ?_⟩
    obtain ⟨mm, rr, e1, rfl, r0, r1⟩ := hr
    cases e1
    cases dd
    have z4 := st3.trans st4
    have hL4 : H4 l = some (.lst leftV) := st4.hh l _ hL3 nS
    have hA4 : H4 Dd = some (.lst accV) := st4.hh Dd _ hA3 nSD
    have ltr : rr.toNat < leftD.length := by omega
    obtain ⟨y, hy4, dy⟩ := (dL.mono z4.gg).get (List.getElem?_eq_getElem ltr)
    refine ⟨l, leftV, rr, rr.toNat, y, rfl, rfl, hL4, by omega, by omega, ?_, hy4, ?_⟩
    · unfold seqIndex?
      simp only [if_neg (show ¬ rr < 0 by omega)]
      rw [if_pos (by simp; omega)]
    have keepN : ∀ {a : Addr} {vv : List V}, G' a = none → H' a = some (.lst vv) → G4 a = none := fun {a vv} ga ha => none_of_ne fun q => by
      rcases z4.fr a q with z | z
      · exact z ga
      · rw [ha] at z
        cases z
    have gL4 := keepN gL hL
    have gA4 := keepN gA hA
    have lenA := dA.len
    refine ⟨accV, by rw [upd_ne neq]; exact hA4, by show accV.length < sizeLine; have : (1000000 : Nat) < sizeLine := by decide
                                                    omega, ?_⟩
    have o4 := z4.ok o'
    have p1 := o4.put (o := .lst (leftV.eraseIdx rr.toNat)) gL4 fl (by rw [hL4]; intro φ z; cases z)
    have o5 := p1.ok o4
    have p2 := o5.put (p := Dd) (o := .lst (accV ++ [y])) gA4 fD (by rw [upd_ne neq, hA4]; intro φ z; cases z)
    refine ⟨G4, leftD.eraseIdx rr.toNat, leftV.eraseIdx rr.toNat, accD ++ [leftD[rr.toNat]], accV ++ [y], (((sf.trans (z4.f o')).trans p1).trans p2).le (by omega), fun a u z => z4.gg a u (sg a u z), by rw [upd_ne (Ne.symm neq), upd_same], gL4, (dL.mono z4.gg).erase _, upd_same, gA4, (dA.mono z4.gg).snoc dy, ?_, ?_, ?_⟩
    · refine List.Perm.trans ?_ perm
      rw [List.append_assoc]
      exact (erase_perm (List.getElem?_eq_getElem ltr)).append_left accD
    · rw [List.length_eraseIdx, if_pos ltr]
      omega
    · rw [List.length_append, n2]
      rfl
  · have ei : i = xs.length := by omega
    subst ei
    have nil : leftD = [] := List.length_eq_zero_iff.mp (by omega)
    subst nil
    rw [List.append_nil] at perm
    have kp := o'.keep (p := Dd) hA gA fD
    refine .inl ⟨y2 (by omega), r (.lst accD) (.ref Dd) _ _ ⟨accD, rfl, perm⟩ ((sf.trans kp).le (by omega)) (.lst upd_same (dA.mono fun a u z => ?_))⟩
    rw [upd_ne (ne_of_none z gA)]
    exact z
theorem mix_run {xs : List D} (hl : xs.length ≤ 1000000) : Run K C Ω xs.length (tMix K C Ω) (startS 4 [.stm, .lst xs]) (retO fun d => ∃ ys, d = .lst ys ∧ ys.Perm xs) := by
  have h : EvL K C Ω 0 (tCB (rListV K) (tCons (tVar 1) tNil)) (startS 4 [.stm, .lst xs]) (· = xs) := el_cb (ea1 (ev_var rfl) ea_nil) fun ds e => by
    subst e
    exact rl_list_l
  exact (row_asgL h fun ys e => by
    subst e
    exact mix_ret hl rfl rfl (by simp [startS])).le (by omega)
end
end Z
set_option maxRecDepth 100000
set_option maxHeartbeats 1000000
set_option linter.all false
namespace Z
open PySem PySem.Spec
open PyProof.Rows L2 LamX
/-! promises by an index -/
section
variable {K : PySem.W.Frag} {C : Addr} {Ω : List (Addr × Str)} {c c1 c2 : Nat} {δ : List Sl} {ι : Type} {A : ι → List D} {Rx : ι → D → Prop} {cc : ι → Nat} {te ta : TE} {tt : TA} {E : XK}
/-- a def as data: handed A i, it hands back what Rx i says, with at most cc i draws -/
def SpX (K : PySem.W.Frag) (C : Addr) (Ω : List (Addr × Str)) {ι : Type} (cc : ι → Nat) (A : ι → List D) (Rx : ι → D → Prop) : Sp := fun vs H Q _ =>
  ∃ (i : ι) (W : Wd K C Ω) (F : Addr → Prop) (G : Hp), Ok W F G H ∧ Dens W G (A i) vs ∧ W.cnt H + cc i ≤ most ∧ ∀ v G' H' d, Stp W (cc i) G H G' H' → Den W G' d v → Rx i d → Q v H'
theorem ev_callX (i : ι) (h : EvA K C Ω c1 tt δ (· = A i)) : Ev K C Ω (c1 + cc i) (tCall (SpX K C Ω cc A Rx) [] E tt) δ (Rx i) := fun W F G H σ o s m Q q =>
  h W F G H σ o s (by omega) _ fun vs G1 H1 ds st dds e => by
    show SpX K C Ω cc A Rx (vs ++ []) H1 Q E
    rw [List.append_nil]
    subst e
    exact ⟨i, W, F, G1, st.ok o, dds, cost1 st m, fun v G2 H2 d st2 dd rd => q v G2 H2 d (st.trans st2) dd rd⟩
theorem ev_callAX {k : Nat} {f : Addr} {S : Addr → Option Sp} (hi : δ[k]? = some (.val (.adr f))) (hS : S f = some (SpX K C Ω cc A Rx)) (i : ι) (h : EvA K C Ω c1 tt δ (· = A i)) : Ev K C Ω (c1 + cc i) (tCallA k S tt) δ (Rx i) := fun W F G H σ o s m Q q9 => by
  obtain ⟨v, e, d1⟩ := s.val hi
  cases d1
  refine ⟨f, _, e, hS, h W F G H σ o s (by omega) _ fun vs G1 H1 es st dds re => ?_⟩
  subst re
  exact ⟨i, W, F, G1, st.ok o, dds, cost1 st m, fun v G2 H2 d st2 dd rd => q9 v G2 H2 d (st.trans st2) dd rd⟩
theorem ev_methX {fs : List (Str × D)} {nm : Str} (i : ι) (h : Ev K C Ω c1 ta δ (· = .ins fs)) (hn : fs.lookup nm = none) (hA : A i = [.ins fs]) : Ev K C Ω (c1 + cc i) (tMeth C nm (SpX K C Ω cc A Rx) [] E ta tNil) δ (Rx i) := fun W F G H σ o s m Q q =>
  h W F G H σ o s (by omega) _ fun v G1 H1 d st dd e => by
    subst e
    cases dd with
    | ins h1 h2 =>
      refine ⟨_, _, _, rfl, st.gh _ _ h1, h2.no hn, ?_⟩
      show SpX K C Ω cc A Rx [_] H1 Q E
      exact ⟨i, W, F, G1, st.ok o, by rw [hA]; exact .cons (.ins h1 h2) .nil, cost1 st m, fun v G2 H2 d st2 dd rd => q v G2 H2 d (st.trans st2) dd rd⟩
theorem runX {N : List Str} {n : Nat} {ts : TS} (hN : N.length = n) (h : ∀ i, Run K C Ω (cc i) ts (startS n (A i)) (retO (Rx i))) (vs : List V) (H : Hp) (Q : VK) (E : XK) (hs : SpX K C Ω cc A Rx vs H Q E) : ts { nx := fun _ H' => Q .non H', rt := Q } (L2.start N vs) H := by
  obtain ⟨i, W, F, G, o, dd, m, q⟩ := hs
  subst hN
  exact h i W _ G H _ o.all (slots_start dd) m _ (fun δ' σ' G' H' z st _ => q .non G' H' .non st.all .non z) (fun d v G' H' z st dv => q v G' H' d st.all dv z) (fun _ _ _ _ z _ _ => z.elim) (fun _ _ _ _ z _ _ => z.elim)
section
variable {P : Program} {w : World} {mg : Str → Option Value} {base : Heap} {x : Str} {st : Stmt} {f : Addr} {fd : FuncData} {N ps : List Str} {k n : Nat}
/-- a def keeps its promise, its code object known -/
theorem fnX {q : Str} (F : FnP K x q st f fd) (S : FnScope N ps (defScope st)) (hN : N.length = n) (hl : ∀ i, (A i).length = ps.length)
    (h : ∀ (cdv : Value) (B : Around) (outer : List Env) (s : Shared) (H : Hp) (E : XK), fd.code = cdv → Room k (B.deeper (envOfC q (defScope st) s.heap.objs.size f cdv)) →
      ∃ ts, PSs (cxOf CX0 P w K mg base N q (defScope st) f cdv B outer s H E).nox (defBody st) ts ∧ ∀ i, Run K C Ω (cc i) ts (startS n (A i)) (retO (Rx i))) : FnOk P w K mg base CX0 (k + 1) f fd ps (SpX K C Ω cc A Rx) := by
  obtain ⟨oc, od, dV, kV, doc, pm, an, cdv, ct, osl, rfl, lk, hcd, _, _⟩ := F.ex
  refine fn_of lk hcd S (fun vs H Q E z => ?_) fun B outer s H vs Q E hr z => ?_
  · obtain ⟨i, W, F, G, _, dd, _⟩ := z
    rw [← dd.len]
    exact hl i
  · obtain ⟨ts, h1, h2⟩ := h cdv B outer s H E rfl hr
    exact ⟨ts, h1.nox, runX hN h2 vs H Q E z⟩
theorem calX (F : FnP K x x st f fd) (hm : mg x = some (.ref f)) (S : FnScope N ps (defScope st)) (hN : N.length = n) (hl : ∀ i, (A i).length = ps.length)
    (hb : ∀ (kV doc pm : Value) (an : Option Addr) (cdv ct : Value) (us : List Value), us.length = ps.length → bindArgs (PySem.W.fnOf x x (defArgs st) (defBody st) (defScope st) .none kV doc pm an cdv ct) ⟨us, []⟩ = pure (ps.zip us))
    (h : ∀ (cdv : Value) (B : Around) (outer : List Env) (s : Shared) (H : Hp) (E : XK), fd.code = cdv → Room k (B.deeper (envOfC x (defScope st) s.heap.objs.size f cdv)) →
      ∃ ts, PSs (cxOf CX0 P w K mg base N x (defScope st) f cdv B outer s H E).nox (defBody st) ts ∧ ∀ i, Run K C Ω (cc i) ts (startS n (A i)) (retO (Rx i))) : C8.Cal P w K mg base (k + 1) x (SpX K C Ω cc A Rx) [] :=
  ⟨f, fd, ps, [], fnX F S hN hl h, hm, F.kp, F.bindsN hb, .nil⟩
end
end
/-! dicts by names; houses; the plain defs -/
section
variable {α : Type}
def dicS (m : List (Str × α)) (g : α → D) : List (Key × D) := m.map fun p => (Sum.inr p.1, g p.2)
def putS (m : List (Str × α)) (x : Str) (y : α) : List (Str × α) := if m.any (fun p => decide (p.1 = x)) then m.map (fun p => if p.1 = x then (x, y) else p) else m ++ [(x, y)]
theorem look_dicS (g : α → D) (x : Str) : ∀ m : List (Str × α), lookK (dicS m g) (Sum.inr x) = (m.lookup x).map g
  | [] => rfl
  | (y, b) :: r => by
    have ih := look_dicS g x r
    unfold lookK dicS at ih ⊢
    rw [List.map_cons, List.find?_cons, List.lookup_cons]
    by_cases e : y = x
    · subst e
      simp
    · have e1 : decide ((Sum.inr y : Key) = Sum.inr x) = false := decide_eq_false fun h => e (Sum.inr.inj h)
      have e2 : (x == y) = false := beq_eq_false_iff_ne.mpr (Ne.symm e)
      simp only [e1, e2]
      exact ih
theorem has_dicS (g : α → D) (x : Str) (m : List (Str × α)) : (lookK (dicS m g) (Sum.inr x)).isSome = (m.lookup x).isSome := by
  rw [look_dicS, Option.isSome_map]
theorem put_dicS (g : α → D) (x : Str) (y : α) (m : List (Str × α)) : putD (dicS m g) (Sum.inr x) (g y) = dicS (putS m x y) g := by
  have an : ((dicS m g).any fun kv => decide (kv.1 = Sum.inr x)) = m.any fun p => decide (p.1 = x) := by
    unfold dicS
    rw [List.any_map]
    congr 1
    funext p
    show decide ((Sum.inr p.1 : Key) = Sum.inr x) = decide (p.1 = x)
    by_cases e : p.1 = x
    · rw [e, decide_eq_true rfl, decide_eq_true rfl]
    · rw [decide_eq_false e, decide_eq_false fun h => e (Sum.inr.inj h)]
  unfold putD putS
  rw [an]
  by_cases h : (m.any fun p => decide (p.1 = x)) = true
  · rw [if_pos h, if_pos h]
    unfold dicS
    rw [List.map_map, List.map_map]
    apply List.map_congr_left
    intro p _
    show (if (Sum.inr p.1 : Key) = Sum.inr x then ((Sum.inr p.1 : Key), g y) else (Sum.inr p.1, g p.2)) = _
    by_cases e : p.1 = x
    · rw [if_pos (by rw [e])]
      simp [e]
    · rw [if_neg fun z => e (Sum.inr.inj z)]
      simp [e]
  · rw [if_neg h, if_neg h]
    unfold dicS
    rw [List.map_append]
    rfl
end
def strsD (xs : List Str) : D := .lst (xs.map .str)
def prsD (ds : List (Str × Str)) : D := .lst (ds.map fun p => .tup [.str p.1, .str p.2])
structure Hs where
  rooms : List Str
  near : List (Str × List Str)
  doors : List (Str × Str)
def Hs.fs (h : Hs) : List (Str × D) := [("_rooms", strsD h.rooms), ("_near", .dic (dicS h.near strsD)), ("_doors", prsD h.doors)]
def Hs.d (h : Hs) : D := .ins h.fs
structure HouseK (K : PySem.W.Frag) (C : Addr) : Prop where
  cl : Cls K C
  r : NoAttr K C "_rooms"
  n : NoAttr K C "_near"
  d : NoAttr K C "_doors"
section
variable {K : PySem.W.Frag} {C : Addr} {Ω : List (Addr × Str)} {c c1 c2 : Nat} {δ : List Sl}
theorem run_is_integer (i : Int) : Run K C Ω 0 (tRet (tAndV (tCB (rIsi K) (tCons (tVar 0) (tCons (tC (V.ty "int")) tNil))) (tNotV (tCB (rIsi K) (tCons (tVar 0) (tCons (tC (V.ty "bool")) tNil)))))) (startS 1 [.int i]) (retO (· = .bl true)) := by
  have v0 : Ev K C Ω 0 (tVar 0) (startS 1 [.int i]) (· = .int i) := ev_var rfl
  refine run_ret (R := fun d => ∃ k, d = .bl k ∧ k = true) ((ev_and (RT := (· = true)) (RU := (· = true)) ((ev_isi v0 rfl rfl).imp fun d e => ⟨_, e, rfl⟩) (fun _ => ev_not ((ev_isi v0 rfl rfl).imp fun d e => ⟨_, e, rfl⟩)) fun e => by cases e).le (by omega)) ?_
  rintro d ⟨k, rfl, rfl⟩
  rfl
abbrev spTrueI (K : PySem.W.Frag) (C : Addr) (Ω : List (Addr × Str)) : Sp := SpX K C Ω (fun _ => 0) (fun i : Int => [.int i]) fun _ d => d = .bl true
theorem run_is_from_one (i : Int) : Run K C Ω 0 (tRet (tAndV (tCall (spTrueI K C Ω) [] C8.E0 (tCons (tVar 0) tNil)) (tOp (rI0 fun i j => V.bl (decide (j ≤ i))) (tVar 0) (tC (V.int 1))))) (startS 1 [.int i]) (retO (· = .bl (decide (1 ≤ i)))) := by
  have v0 : Ev K C Ω 0 (tVar 0) (startS 1 [.int i]) (· = .int i) := ev_var rfl
  refine run_ret (R := fun d => ∃ k, d = .bl k ∧ k = decide (1 ≤ i)) ((ev_and (RT := (· = true)) (RU := (· = decide (1 ≤ i))) ((ev_callX i (ea1 v0 ea_nil)).imp fun d e => ⟨_, e, rfl⟩) (fun _ => (ev_op1 v0 ev_int (rv_bl (g := fun i j => decide (j ≤ i)))).imp fun d e => ⟨_, e, rfl⟩) fun e => by cases e).le (by omega)) ?_
  rintro d ⟨k, rfl, rfl⟩
  rfl
theorem run_is_row {d : D} (h : tyD d = some "list" ∨ tyD d = some "tuple") : Run K C Ω 0 (tRet (tCB (rIsiT K) (tCons (tVar 0) (tCons (tTup (tCons (tC (V.ty "list")) (tCons (tC (V.ty "tuple")) tNil))) tNil)))) (startS 1 [d]) (retO (· = .bl true)) := by
  have v0 : Ev K C Ω 0 (tVar 0) (startS 1 [d]) (· = d) := ev_var rfl
  rcases h with h | h
  · exact run_ret (ev_isi2 v0 h rfl rfl) fun d e => e
  · exact run_ret (ev_isi2 v0 h rfl rfl) fun d e => e
section
variable {h : Hs} {n : Nat}
theorem ev_near {i : Nat} (hk : HouseK K C) (e : δ[i]? = some (.val h.d)) : Ev K C Ω 0 (tFld K (tVar i) "_near") δ (· = .dic (dicS h.near strsD)) := ev_fld (ev_var e) hk.cl hk.n rfl
theorem run_is_room (hk : HouseK K C) (x : Str) : Run K C Ω 0 (tRet (tAndV (tCB (rIsi K) (tCons (tVar 1) (tCons (tC (V.ty "str")) tNil))) (tDIn (tVar 1) (tFld K (tVar 0) (Str.ofString "_near"))))) (startS 2 [h.d, .str x]) (retO (· = .bl (h.near.lookup x).isSome)) := by
  have v1 : Ev K C Ω 0 (tVar 1) (startS 2 [h.d, .str x]) (· = .str x) := ev_var rfl
  refine run_ret (R := fun d => ∃ k, d = .bl k ∧ k = (h.near.lookup x).isSome) ((ev_and (RT := (· = true)) (RU := (· = (h.near.lookup x).isSome)) ((ev_isi v1 rfl rfl).imp fun d e => ⟨_, e, rfl⟩) (fun _ => (ev_din v1 (ev_near hk rfl) rfl).imp fun d e => ⟨_, e, has_dicS _ _ _⟩) fun e => by cases e).le (by omega)) ?_
  rintro d ⟨k, rfl, rfl⟩
  rfl
abbrev spIsRoom (K : PySem.W.Frag) (C : Addr) (Ω : List (Addr × Str)) : Sp := SpX K C Ω (fun _ => 0) (fun i : Hs × Str => [i.1.d, .str i.2]) fun i d => d = .bl (i.1.near.lookup i.2).isSome
theorem run_rooms_near (hk : HouseK K C) : Run K C Ω 0 (tRet (tFld K (tVar 0) (Str.ofString "_near"))) (startS 1 [h.d]) (retO (· = .dic (dicS h.near strsD))) := run_ret (ev_near hk rfl) fun d e => e
theorem run_len (hk : HouseK K C) : Run K C Ω 0 (tRet (tCB (rLenV K) (tCons (tFld K (tVar 0) (Str.ofString "_rooms")) tNil))) (startS 1 [h.d]) (retO (· = .int h.rooms.length)) := by
  refine run_ret (ev_cb (Rs := (· = [strsD h.rooms])) (ea1 (ev_fld (ev_var rfl) hk.cl hk.r rfl) ea_nil) fun ds e => ?_) fun d e => e
  subst e
  have := rc_len_l (K := K) (C := C) (Ω := Ω) (xs := h.rooms.map D.str)
  rw [List.length_map] at this
  exact this
theorem run_rooms (hk : HouseK K C) : Run K C Ω 0 (tRet (tCB (rListV K) (tCons (tFld K (tVar 0) (Str.ofString "_rooms")) tNil))) (startS 1 [h.d]) (retO (· = strsD h.rooms)) := by
  refine run_ret (ev_l (el_cb (Rs := (· = [strsD h.rooms])) (ea1 (ev_fld (ev_var rfl) hk.cl hk.r rfl) ea_nil) fun ds e => ?_)) fun d e => e
  subst e
  exact rl_list_l
theorem run_doors (hk : HouseK K C) : Run K C Ω 0 (tRet (tCB (rListV K) (tCons (tFld K (tVar 0) (Str.ofString "_doors")) tNil))) (startS 1 [h.d]) (retO (· = prsD h.doors)) := by
  refine run_ret (ev_l (el_cb (Rs := (· = [prsD h.doors])) (ea1 (ev_fld (ev_var rfl) hk.cl hk.d rfl) ea_nil) fun ds e => ?_)) fun d e => e
  subst e
  exact rl_list_l
theorem run_need_room {x : Str} (e : (h.near.lookup x).isSome = true) : Run K C Ω 0 (tIfS (tNot (tB (tCall (spIsRoom K C Ω) [] C8.E0 (tCons (tVar 0) (tCons (tVar 1) tNil))))) tNever tNext) (startS 2 [h.d, .str x]) (retO (· = .non)) := by
  have v0 : Ev K C Ω 0 (tVar 0) (startS 2 [h.d, .str x]) (· = h.d) := ev_var rfl
  have v1 : Ev K C Ω 0 (tVar 1) (startS 2 [h.d, .str x]) (· = .str x) := ev_var rfl
  have hc : Ev K C Ω (0 + (0 + 0) + 0) (tCall (spIsRoom K C Ω) [] C8.E0 (tCons (tVar 0) (tCons (tVar 1) tNil))) (startS 2 [h.d, .str x]) (· = .bl (h.near.lookup x).isSome) := ev_callX (cc := fun _ => 0) (Rx := fun i d => d = .bl (i.1.near.lookup i.2).isSome) (h, x) (ea1 v0 (ea1 v1 ea_nil))
  exact (run_if (O := retO (· = .non)) (RT := (· = false)) (et_not (et_ofB (hc.imp fun d r => ⟨true, by rw [r, e], rfl⟩))) (c2 := 0) (c3 := 0) (fun z => by cases z) fun _ => run_next (show (D.non : D) = .non from rfl)).le (by omega)
end
end
end Z
set_option maxRecDepth 100000
set_option maxHeartbeats 1000000
set_option linter.all false
namespace Z
open PySem PySem.Spec
open PyProof.Rows L2 LamX
/-! a dict of one pair, i += n; ways from a room -/
section
variable {K : PySem.W.Frag} {C : Addr} {Ω : List (Addr × Str)} {c c1 c2 : Nat} {δ : List Sl} {O : Out → Prop} {te : TE} {tz : TS}
theorem ed_disp1 {i : Nat} {a : D} {k : Key} (h : δ[i]? = some (.val a)) (hk : keyD a = some k) : EvD K C Ω 0 (tDisp [(tVar i, tC .non)]) δ (· = [(k, .non)]) := fun W F G H σ o s m Q q => by
  intro p hp
  obtain ⟨v, ev, dv⟩ := s.val h
  have gp := o.gnone hp
  refine ⟨v, ev, upd_same, [(k, .non)], ?_, by simp, ?_⟩
  · show [(v, V.non)] = _
    rw [keyD_v dv hk]
    rfl
  · have s1 := o.own (o := .dK []) hp
    have s2 := s1.putN (o := .dK [(k, .non)]) o hp gp (by rw [upd_same]; intro φ z; cases z)
    exact q p _ G _ [(k, .non)] s2 hp gp upd_same (.cons .non .nil) rfl
theorem ed_newK : EvD K C Ω 0 tDNewK δ (· = []) := fun W F G H σ o s m Q q => by
  intro p hp
  exact q p _ G _ [] (o.own hp) hp (o.gnone hp) upd_same .nil rfl
theorem run_aug {i : Nat} {a b : Int} (h : δ[i]? = some (.val (.int a))) (he : Ev K C Ω c te δ (· = .int b)) (n : O (.nx (δ.set i (.val (.int (a + b)))))) : Run K C Ω c (tAug i te (ipI fun i j => i + j)) δ O := fun W F G H σ o s m Z nn r b e => by
  obtain ⟨v, ev, dv⟩ := s.val h
  cases dv
  refine ⟨_, ev, he W F G H σ o s m _ fun y G1 H1 d st dd ed => ?_⟩
  subst ed
  cases dd
  exact ⟨a, _, rfl, rfl, nn _ _ _ _ n (st.f o) ((s.step o st).set (.int _))⟩
end
/-! the ways ahead, as lists -/
def optD : Option Str → D
  | none => .non
  | some x => .str x
/-- m: the rooms met, each with the one it was met from; the first with none -/
structure Met (near : List (Str × List Str)) (first : Str) (m : List (Str × Option Str)) : Prop where
  hd : ∃ r, m = (first, none) :: r ∧ ∀ p ∈ r, p.2 ≠ none
  nd : (m.map (·.1)).Nodup
  par : ∀ pre r b suf, m = pre ++ (r, some b) :: suf → b ∈ pre.map (·.1) ∧ ∃ ns, near.lookup b = some ns ∧ r ∈ ns
/-- all beside the first n of m are met -/
def Done (near : List (Str × List Str)) (m : List (Str × Option Str)) (n : Nat) : Prop := ∀ j p, j < n → m[j]? = some p → ∀ ns, near.lookup p.1 = some ns → ∀ x ∈ ns, x ∈ m.map (·.1)
/-- rooms and what is beside them hang together as a house's do -/
structure NearOk (rooms : List Str) (near : List (Str × List Str)) : Prop where
  all : ∀ x ∈ rooms, ∃ ns, near.lookup x = some ns ∧ ns.length ≤ 1000 ∧ ∀ y ∈ ns, y ∈ rooms
  few : rooms.length ≤ 1000
theorem Met.start {near : List (Str × List Str)} {first : Str} : Met near first [(first, none)] where
  hd := ⟨[], rfl, fun p h => absurd h (by simp)⟩
  nd := by simp
  par := fun pre r b suf e => by
    cases pre with
    | nil => cases e
    | cons p pre =>
      have := congrArg List.length e
      simp at this
theorem Met.add {near : List (Str × List Str)} {first here x : Str} {ns : List Str} {m : List (Str × Option Str)} (M : Met near first m) (hh : here ∈ m.map (·.1)) (hn : near.lookup here = some ns) (hx : x ∈ ns) (nx : x ∉ m.map (·.1)) : Met near first (m ++ [(x, some here)]) where
  hd := by
    obtain ⟨r, e, hr⟩ := M.hd
    refine ⟨r ++ [(x, some here)], by rw [e]; rfl, fun p hp => ?_⟩
    rcases List.mem_append.mp hp with z | z
    · exact hr p z
    · rw [List.mem_singleton.mp z]
      exact fun q => by cases q
  nd := by
    rw [List.map_append, List.nodup_append]
    refine ⟨M.nd, by simp, fun a ha b hb e => ?_⟩
    have hb : b = x := by simpa using hb
    exact nx (by rw [← hb, ← e]; exact ha)
  par := fun pre r b suf e => by
    rcases List.eq_nil_or_concat suf with rfl | ⟨suf', last, rfl⟩
    · have z : pre ++ [(r, some b)] = m ++ [(x, some here)] := e.symm
      have z1 := List.append_inj' z (by simp)
      obtain ⟨z2, z3⟩ := z1
      cases z3
      rw [z2]
      exact ⟨hh, ns, hn, hx⟩
    · rw [List.concat_eq_append] at e
      have z : (pre ++ (r, some b) :: suf') ++ [last] = m ++ [(x, some here)] := by rw [List.append_assoc]; exact e.symm
      obtain ⟨z2, _⟩ := List.append_inj' z (by simp)
      exact M.par pre r b suf' z2.symm

theorem pigeon {α : Type} [DecidableEq α] : ∀ {l r : List α}, l.Nodup → (∀ x ∈ l, x ∈ r) → l.length ≤ r.length
  | [], _, _, _ => Nat.zero_le _
  | x :: l, r, n, h => by
    have hx : x ∈ r := h x List.mem_cons_self
    have n1 := (List.nodup_cons.mp n)
    have ih := pigeon (l := l) (r := r.erase x) n1.2 fun y hy => (List.mem_erase_of_ne (fun (e : y = x) => n1.1 (by rw [← e]; exact hy))).mpr (h y (List.mem_cons_of_mem _ hy))
    rw [List.length_erase_of_mem hx] at ih
    have := List.length_pos_of_mem hx
    rw [List.length_cons]
    omega
theorem put_new {α : Type} {m : List (Str × α)} {x : Str} {y : α} (h : x ∉ m.map (·.1)) : putS m x y = m ++ [(x, y)] := by
  unfold putS
  rw [if_neg]
  intro z
  obtain ⟨p, hp, e⟩ := List.any_eq_true.mp z
  exact h (List.mem_map.mpr ⟨p, hp, of_decide_eq_true e⟩)
theorem look_mem {α : Type} {x : Str} : ∀ {m : List (Str × α)}, (m.lookup x).isSome = true ↔ x ∈ m.map (·.1)
  | [] => by simp
  | (y, b) :: r => by
    rw [List.lookup_cons, List.map_cons, List.mem_cons]
    by_cases e : x = y
    · subst e
      simp
    · have e2 : (x == y) = false := beq_eq_false_iff_ne.mpr e
      simp only [e2]
      rw [look_mem (m := r)]
      exact ⟨.inr, fun z => z.resolve_left e⟩
/-! the reading of ahead_from -/
def tAhC (K : PySem.W.Frag) : TT := tTest (tOp (rI0 fun i j => V.bl (decide (i < j))) (tVar 5) (tCB (rLenV K) (tCons (tVar 4) tNil)))
def tAhF (K : PySem.W.Frag) : TS := tFor (iList K (tDGet (tVar 2) (tVar 6))) (gName 7)
  (tIfS (tB (tDNotIn (tVar 7) (tVar 3))) (tSeq (sDPut (tVar 3) (tVar 7) (tVar 6)) (tDrop (tBM K "list" rAppend (tVar 4) (tCons (tVar 7) tNil)))) tNext)
def tAhB (K : PySem.W.Frag) : TS := tSeq (tAsg (tOp (rIxL K) (tVar 4) (tVar 5)) (gName 6)) (tSeq (tAhF K) (tAug 5 (tC (V.int 1)) (ipI fun i j => i + j)))
/-- the slots: near, ahead, found, at -/
structure AS (near : List (Str × List Str)) (m : List (Str × Option Str)) (at_ : Int) (δ : List Sl) : Prop where
  len : δ.length = 8
  n : δ[2]? = some (.val (.dic (dicS near strsD)))
  a : δ[3]? = some (.oD (dicS m optD))
  f : δ[4]? = some (.oL (m.map fun p => D.str p.1))
  i : δ[5]? = some (.val (.int at_))
theorem AS.upd {near : List (Str × List Str)} {m : List (Str × Option Str)} {i : Int} {δ : List Sl} (h : AS near m i δ) {k : Nat} {s : Sl} (hk : 6 ≤ k) : AS near m i (δ.set k s) :=
  ⟨by rw [List.length_set]; exact h.len, by rw [List.getElem?_set_ne (by omega)]; exact h.n, by rw [List.getElem?_set_ne (by omega)]; exact h.a, by rw [List.getElem?_set_ne (by omega)]; exact h.f, by rw [List.getElem?_set_ne (by omega)]; exact h.i⟩
section
variable {K : PySem.W.Frag} {C : Addr} {Ω : List (Addr × Str)} {δ : List Sl} {O : Out → Prop} {near : List (Str × List Str)} {rooms : List Str} {first here : Str} {m : List (Str × Option Str)} {i : Nat}
theorem ah_cond (h : AS near m i δ) : EvT K C Ω 0 (tAhC K) δ (· = decide ((i : Int) < (m.length : Int))) := by
  refine et_peek h.f rfl ?_
  have e5 : (δ.set 4 (.val (Sl.oL (m.map fun p => D.str p.1)).thing))[5]? = some (.val (.int (i : Int))) := by rw [List.getElem?_set_ne (by decide)]; exact h.i
  have e4 : (δ.set 4 (.val (Sl.oL (m.map fun p => D.str p.1)).thing))[4]? = some (.val (.lst (m.map fun p => D.str p.1))) := by
    rw [List.getElem?_set_self (by rw [h.len]; decide)]
    rfl
  have ev := ev_op1 (K := K) (C := C) (Ω := Ω) (ev_var e5) (ev_lenL e4) (rv_bl (g := fun i j => decide (i < j)))
  rw [List.length_map] at ev
  exact (et1 ev).le (by omega)
/-- one round: all beside here are met -/
theorem ah_for {ns : List Str} (ok : NearOk rooms near) (M : Met near first m) (sub : ∀ x ∈ m.map (·.1), x ∈ rooms) (h : AS near m i δ) (h6 : δ[6]? = some (.val (.str here))) (hh : here ∈ m.map (·.1)) (hn : near.lookup here = some ns)
    (hO : ∀ m' δ', Met near first m' → (∃ ext, m' = m ++ ext) → (∀ x ∈ ns, x ∈ m'.map (·.1)) → (∀ x ∈ m'.map (·.1), x ∈ rooms) → AS near m' i δ' → O (.nx δ')) : Run K C Ω 0 (tAhF K) δ O := by
  obtain ⟨ns', e1, few, inr⟩ := ok.all here (sub here hh)
  rw [hn] at e1
  cases e1
  have big : (1000 : Nat) < sizeLine := by decide
  have it : IterR K C Ω 0 (iList K (tDGet (tVar 2) (tVar 6))) δ (· = ns.map D.str) := it_list1 ((ev_dget (ev_var h.n) (ev_var h6) rfl (by rw [look_dicS, hn]; rfl)).le (by omega))
  refine (run_for (n := 1000) (c2 := 0) (Pv := fun _ k δ1 => ∃ m', Met near first m' ∧ (∃ ext, m' = m ++ ext) ∧ (∀ j x, j < k → ns[j]? = some x → x ∈ m'.map (·.1)) ∧ (∀ x ∈ m'.map (·.1), x ∈ rooms) ∧ AS near m' i δ1 ∧ δ1[6]? = some (.val (.str here))) it (fun xs e => by rw [e, List.length_map]; exact few)
    (fun xs e => ⟨m, M, ⟨[], by simp⟩, fun j x hj => absurd hj (Nat.not_lt_zero j), sub, h, h6⟩) (fun xs k x δ1 e hx hp => ?_) fun xs δ1 e hp => ?_).le (by omega)
  · subst e
    obtain ⟨m', M', ⟨ext, ee⟩, dn, sub', h', h6'⟩ := hp
    rw [List.getElem?_map] at hx
    obtain ⟨y, hy, rfl⟩ := Option.map_eq_some_iff.mp hx
    refine ⟨_, tf_name, ?_⟩
    have hA : AS near m' i (δ1.set 7 (.val (.str y))) := h'.upd (by decide)
    have g6 : (δ1.set 7 (.val (.str y)))[6]? = some (.val (.str here)) := by rw [List.getElem?_set_ne (by decide)]; exact h6'
    have g7 : (δ1.set 7 (.val (.str y)))[7]? = some (.val (.str y)) := List.getElem?_set_self (by rw [h'.len]; decide)
    generalize δ1.set 7 (.val (.str y)) = δ2 at hA g6 g7 ⊢
    have yn : y ∈ ns := List.mem_of_getElem? hy
    have hh' : here ∈ m'.map (·.1) := by rw [ee, List.map_append]; exact List.mem_append_left _ hh
    have ct : EvT K C Ω 0 (tB (tDNotIn (tVar 7) (tVar 3))) δ2 (· = !(m'.lookup y).isSome) := by
      refine et_peek hA.a rfl ?_
      have e7 : (δ2.set 3 (.val (Sl.oD (dicS m' optD)).thing))[7]? = some (.val (.str y)) := by rw [List.getElem?_set_ne (by decide)]; exact g7
      have e3 : (δ2.set 3 (.val (Sl.oD (dicS m' optD)).thing))[3]? = some (.val (.dic (dicS m' optD))) := by
        rw [List.getElem?_set_self (by rw [hA.len]; decide)]
        rfl
      have ev := ev_dnot (K := K) (C := C) (Ω := Ω) (k := Sum.inr y) (ev_var e7) (ev_var e3) rfl
      rw [has_dicS] at ev
      exact (et1B ev).le (by omega)
    have lm : m'.length ≤ 1000 := by
      have := pigeon M'.nd sub'
      rw [List.length_map] at this
      exact Nat.le_trans this ok.few
    refine (run_if ct (c2 := 0) (c3 := 0) (fun z => ?_) fun z => ?_).le (by omega)
    · have nx : y ∉ m'.map (·.1) := fun q => by
        rw [look_mem.mpr q] at z
        cases z
      have M2 := M'.add hh' hn yn nx
      refine (run_seq (c1 := 0) (c2 := 0) (N := fun δ3 => AS near m' i (δ3.set 3 (.oD (dicS m' optD))) ∧ δ3[3]? = some (.oD (dicS (m' ++ [(y, some here)]) optD)) ∧ δ3[6]? = some (.val (.str here)) ∧ δ3[7]? = some (.val (.str y)) ∧ δ3.length = 8)
        ((run_dput (R := (· = optD (some here))) hA.a (by unfold dicS; rw [List.length_map]; omega) (ev_var g6) (ev_var g7) (k := Sum.inr y) rfl fun d e => ?_).le (by omega)) fun δ3 hN => ?_).le (by omega)
      · rw [e, put_dicS, put_new nx]
        refine ⟨?_, List.getElem?_set_self (by rw [hA.len]; decide), by rw [List.getElem?_set_ne (by decide)]; exact g6, by rw [List.getElem?_set_ne (by decide)]; exact g7, by rw [List.length_set]; exact hA.len⟩
        rw [List.set_set]
        have e3 := hA.a
        have : (δ2.set 3 (.oD (dicS m' optD))) = δ2 := by
          apply List.ext_getElem?
          intro j
          by_cases ej : j = 3
          · subst ej
            rw [List.getElem?_set_self (by rw [hA.len]; decide), e3]
          · rw [List.getElem?_set_ne (Ne.symm ej)]
        rw [this]
        exact hA
      · obtain ⟨hB, b3, b6, b7, bl⟩ := hN
        have b4 : δ3[4]? = some (.oL (m'.map fun p => D.str p.1)) := by
          have := hB.f
          rwa [List.getElem?_set_ne (by decide)] at this
        refine run_app b4 (by rw [List.length_map]; omega) (ev_var b7) fun d e => ?_
        subst e
        refine ⟨m' ++ [(y, some here)], M2, ⟨ext ++ [(y, some here)], by rw [ee, List.append_assoc]⟩, fun j x hj hxx => ?_, fun x hx => ?_, ⟨by rw [List.length_set]; exact bl, ?_, by rw [List.getElem?_set_ne (by decide)]; exact b3, by rw [List.getElem?_set_self (by rw [bl]; decide), List.map_append]; rfl, ?_⟩, by rw [List.getElem?_set_ne (by decide)]; exact b6⟩
        · rw [List.map_append]
          rcases Nat.lt_or_ge j k with q | q
          · exact List.mem_append_left _ (dn j x q hxx)
          · have : j = k := by omega
            rw [this, hy] at hxx
            cases hxx
            simp
        · rw [List.map_append] at hx
          rcases List.mem_append.mp hx with q | q
          · exact sub' x q
          · have q : x = y := by simpa using q
            rw [q]
            exact inr y yn
        · have := hB.n
          rw [List.getElem?_set_ne (by decide)] at this ⊢
          exact this
        · have := hB.i
          rw [List.getElem?_set_ne (by decide)] at this ⊢
          exact this
    · have yx : y ∈ m'.map (·.1) := look_mem.mp (by cases q : (m'.lookup y).isSome with
        | true => rfl
        | false =>
          rw [q] at z
          cases z)
      refine run_next ⟨m', M', ⟨ext, ee⟩, fun j x hj hxx => ?_, sub', hA, g6⟩
      rcases Nat.lt_or_ge j k with q | q
      · exact dn j x q hxx
      · have : j = k := by omega
        rw [this, hy] at hxx
        cases hxx
        exact yx
  · subst e
    obtain ⟨m', M', ee, dn, sub', h', _⟩ := hp
    refine hO m' δ1 M' ee (fun x hx => ?_) sub' h'
    obtain ⟨j, hj⟩ := List.getElem?_of_mem hx
    exact dn j x (by rw [List.length_map]; exact (List.getElem?_eq_some_iff.mp hj).1) hj
end
end Z
set_option maxRecDepth 100000
set_option maxHeartbeats 1000000
set_option linter.all false
namespace Z
open PySem PySem.Spec
open PyProof.Rows L2 LamX
abbrev spNear (K : PySem.W.Frag) (C : Addr) (Ω : List (Addr × Str)) : Sp := SpX K C Ω (fun _ => 0) (fun h : Hs => [h.d]) fun h d => d = .dic (dicS h.near strsD)
def tAhead (K : PySem.W.Frag) (C : Addr) (Ω : List (Addr × Str)) : TS := tSeq (tAsg (tCall (spNear K C Ω) [] C8.E0 (tCons (tVar 0) tNil)) (gName 2)) (tSeq (tAsg (tDisp [(tVar 1, tC V.non)]) (gName 3))
  (tSeq (tAsg (tLst (tCons (tVar 1) tNil)) (gName 4)) (tSeq (tAsg (tC (V.int 0)) (gName 5)) (tSeq (tWhile (tAhC K) (tAhB K)) (tRet (tVar 3))))))
/-- what ahead_from tells -/
def Ahead (h : Hs) (first : Str) (m : List (Str × Option Str)) : Prop := Met h.near first m ∧ Done h.near m m.length ∧ ∀ x ∈ m.map (·.1), x ∈ h.rooms
section
variable {K : PySem.W.Frag} {C : Addr} {Ω : List (Addr × Str)} {δ : List Sl} {O : Out → Prop} {h : Hs} {first : Str}
theorem ah_while (ok : NearOk h.rooms h.near) (hf : first ∈ h.rooms) (s0 : AS h.near [(first, none)] 0 δ) (hO : ∀ m i δ', Ahead h first m → AS h.near m i δ' → O (.nx δ')) : Run K C Ω 0 (tWhile (tAhC K) (tAhB K)) δ O := by
  refine run_while (n0 := h.rooms.length) (Pv := fun n δ1 => ∃ (m : List (Str × Option Str)) (i : Nat), Met h.near first m ∧ Done h.near m i ∧ i ≤ m.length ∧ (∀ x ∈ m.map (·.1), x ∈ h.rooms) ∧ AS h.near m i δ1 ∧ n = h.rooms.length - i)
    ⟨_, 0, Met.start, fun j p hj => absurd hj (Nat.not_lt_zero j), Nat.zero_le _, fun x hx => by simp at hx; rw [hx]; exact hf, s0, rfl⟩ ?_
  rintro n δ1 ⟨m, i, M, dn, le, sub, s1, rfl⟩
  refine ⟨_, ah_cond s1, fun z => ?_, fun z => ?_⟩
  · have lt : i < m.length := by
      have := of_decide_eq_true z.symm
      omega
    have lm : m.length ≤ h.rooms.length := by
      have := pigeon M.nd sub
      rwa [List.length_map] at this
    obtain ⟨p, hp⟩ : ∃ p, m[i]? = some p := ⟨_, List.getElem?_eq_getElem lt⟩
    have pm : p.1 ∈ m.map (·.1) := List.mem_map.mpr ⟨p, List.mem_of_getElem? hp, rfl⟩
    obtain ⟨ns, hn, _, _⟩ := ok.all p.1 (sub _ pm)
    have ev : Ev K C Ω 0 (tOp (rIxL K) (tVar 4) (tVar 5)) δ1 (· = .str p.1) := by
      refine ev_peek s1.f rfl ?_ fun d e => by rw [e]; rfl
      have e5 : (δ1.set 4 (.val (Sl.oL (m.map fun p => D.str p.1)).thing))[5]? = some (.val (.int (i : Int))) := by rw [List.getElem?_set_ne (by decide)]; exact s1.i
      have e4 : (δ1.set 4 (.val (Sl.oL (m.map fun p => D.str p.1)).thing))[4]? = some (.val (.lst (m.map fun p => D.str p.1))) := by
        rw [List.getElem?_set_self (by rw [s1.len]; decide)]
        rfl
      refine (ev_op1 (ev_var e4) (ev_var e5) (rv_ixl ?_)).le (by omega)
      rw [at_nat (by omega) (by rw [List.length_map]; omega), List.getElem?_map, show ((i : Int)).toNat = i by omega, hp]
      rfl
    refine (row_asg1 (c2 := 0) ev ?_).le (by omega)
    have s2 := s1.upd (k := 6) (s := .val (.str p.1)) (by decide)
    have g6 : (δ1.set 6 (.val (.str p.1)))[6]? = some (.val (.str p.1)) := List.getElem?_set_self (by rw [s1.len]; decide)
    generalize δ1.set 6 (.val (.str p.1)) = δ2 at s2 g6 ⊢
    refine (run_seq (c1 := 0) (c2 := 0) (N := fun δ3 => ∃ m', Met h.near first m' ∧ (∃ ext, m' = m ++ ext) ∧ (∀ x ∈ ns, x ∈ m'.map (·.1)) ∧ (∀ x ∈ m'.map (·.1), x ∈ h.rooms) ∧ AS h.near m' i δ3)
      (ah_for ok M sub s2 g6 pm hn fun m' δ' a b c d e => ⟨m', a, b, c, d, e⟩) fun δ3 ⟨m', M', ⟨ext, ee⟩, all, sub', s3⟩ => ?_).le (by omega)
    refine run_aug s3.i ev_int ⟨h.rooms.length - (i + 1), by omega, m', i + 1, M', fun j q hj hq ns' hns x hx => ?_, by rw [ee, List.length_append]; omega, sub', ⟨by rw [List.length_set]; exact s3.len, by rw [List.getElem?_set_ne (by decide)]; exact s3.n, by rw [List.getElem?_set_ne (by decide)]; exact s3.a, by rw [List.getElem?_set_ne (by decide)]; exact s3.f, by rw [List.getElem?_set_self (by rw [s3.len]; decide)]; rfl⟩, rfl⟩
    have hq2 : m[j]? = some q := by rwa [ee, List.getElem?_append_left (by omega)] at hq
    rcases Nat.lt_or_ge j i with c | c
    · rw [ee, List.map_append]
      exact List.mem_append_left _ (dn j q c hq2 ns' hns x hx)
    · have : j = i := by omega
      rw [this, hp] at hq2
      cases hq2
      rw [hn] at hns
      cases hns
      exact all x hx
  · have ge : i = m.length := by
      have := of_decide_eq_false z.symm
      omega
    subst ge
    exact hO m _ δ1 ⟨M, dn, sub⟩ s1
theorem run_ahead (ok : NearOk h.rooms h.near) (hf : first ∈ h.rooms) : Run K C Ω 0 (tAhead K C Ω) (startS 8 [h.d, .str first]) (retO fun d => ∃ m, d = .dic (dicS m optD) ∧ Ahead h first m) := by
  refine (row_asg1 (c1 := 0) (c2 := 0) (d := .dic (dicS h.near strsD)) ((ev_callX (cc := fun _ => 0) (A := fun h : Hs => [h.d]) (Rx := fun h d => d = .dic (dicS h.near strsD)) h (ea1 (ev_var rfl) ea_nil)).le (by omega)) ?_).le (by omega)
  refine (row_asgD (c1 := 0) (c2 := 0) (ed_disp1 (i := 1) (a := .str first) (k := Sum.inr first) rfl rfl) fun xs e => ?_).le (by omega)
  subst e
  refine (row_asgL (c1 := 0) (c2 := 0) ((el_lst (Rs := (· = [.str first])) (ea1 (ev_var (i := 1) rfl) ea_nil) fun ds e => by rw [e]; show 1 ≤ sizeLine; decide).le (by omega)) fun xs e => ?_).le (by omega)
  subst e
  refine (row_asg1 (c1 := 0) (c2 := 0) ev_int ?_).le (by omega)
  refine (run_seq (c1 := 0) (c2 := 0) (N := fun δ' => ∃ m i, Ahead h first m ∧ AS h.near m i δ') (ah_while ok hf ⟨by simp [startS], rfl, rfl, rfl, rfl⟩ fun m i δ' a b => ⟨m, i, a, b⟩) fun δ' ⟨m, i, a, s⟩ => ?_).le (by omega)
  refine run_keep s.a rfl (run_ret (ev_var (i := 3) (d := .dic (dicS m optD)) ?_) fun d e => ⟨m, e, a⟩)
  rw [List.getElem?_set_self (by rw [s.len]; decide)]
  rfl

/-! back to where it began -/
theorem look_at {α : Type} : ∀ {m : List (Str × α)} {n : Nat} {x : Str} {v : α}, (m.map (·.1)).Nodup → m[n]? = some (x, v) → m.lookup x = some v
  | [], _, _, _, _, e => by simp at e
  | (y, b) :: r, 0, x, v, _, e => by
    cases e
    simp
  | (y, b) :: r, n + 1, x, v, nd, e => by
    rw [List.map_cons, List.nodup_cons] at nd
    have e : r[n]? = some (x, v) := by simpa using e
    have hx : x ∈ r.map (·.1) := List.mem_map.mpr ⟨(x, v), List.mem_of_getElem? e, rfl⟩
    rw [List.lookup_cons, show (x == y) = false from beq_eq_false_iff_ne.mpr fun z => nd.1 (z ▸ hx)]
    exact look_at nd.2 e
/-- bs goes from room, each behind the one it was met from, to last -/
inductive Wk (m : List (Str × Option Str)) (room : Str) : List Str → Str → Prop
  | one : Wk m room [room] room
  | snoc {bs : List Str} {x y : Str} : Wk m room bs x → m.lookup x = some (some y) → Wk m room (bs ++ [y]) y
theorem Wk.last {m : List (Str × Option Str)} {room x : Str} {bs : List Str} (k : Wk m room bs x) : ∃ r, bs = r ++ [x] := by
  cases k with
  | one => exact ⟨[], rfl⟩
  | snoc h _ => exact ⟨_, rfl⟩
theorem at_last {xs : List D} {d : D} : atI (xs ++ [d]) (-1) = some d := by
  unfold atI ixN
  rw [if_neg (by decide), if_pos (by rw [List.length_append]; simp; omega)]
  show (xs ++ [d])[((-1 : Int) + ((xs ++ [d]).length : Int)).toNat]? = some d
  have : ((-1 : Int) + ((xs ++ [d]).length : Int)).toNat = xs.length := by
    rw [List.length_append]
    simp
    omega
  rw [this, List.getElem?_append_right (Nat.le_refl _)]
  simp
def tLast (K : PySem.W.Frag) : TE := tDGet (tVar 0) (tOp (rIxL K) (tVar 2) (tUn (rU fun i => V.int (-i)) (tC (V.int 1))))
def tNotN : R2 := fun x y H Q => y = V.non ∧ Q (V.bl !decide (x = V.non)) H
def tBack (K : PySem.W.Frag) : TS := tSeq (tAsg (tLst (tCons (tVar 1) tNil)) (gName 2)) (tSeq (tWhile (tTest (tOp tNotN (tLast K) (tC V.non))) (tDrop (tBM K "list" rAppend (tVar 2) (tCons (tLast K) tNil)))) (tRet (tVar 2)))
theorem ev_last {m : List (Str × Option Str)} {room x : Str} {bs : List Str} {o : Option Str} (k : Wk m room bs x) (h0 : δ[0]? = some (.val (.dic (dicS m optD)))) (h2 : δ[2]? = some (.val (.lst (bs.map D.str)))) (hx : m.lookup x = some o) : Ev K C Ω 0 (tLast K) δ (· = optD o) := by
  obtain ⟨r, e⟩ := k.last
  subst e
  have e1 : Ev K C Ω 0 (tUn (rU fun i => V.int (-i)) (tC (V.int 1))) δ (· = .int (-1)) := ev_un (r := fun _ _ _ => True) ev_int ⟨-1, rfl, rfl⟩
  have e2 : Ev K C Ω 0 (tOp (rIxL K) (tVar 2) (tUn (rU fun i => V.int (-i)) (tC (V.int 1)))) δ (· = .str x) := (ev_op1 (ev_var h2) e1 (rv_ixl (by rw [List.map_append]; exact at_last))).le (by omega)
  exact (ev_dget (ev_var h0) e2 rfl (by rw [look_dicS, hx]; rfl)).le (by omega)
theorem run_back {m : List (Str × Option Str)} {near : List (Str × List Str)} {room : Str} (M : Met near first m) (few : m.length ≤ 1000) (hr : room ∈ m.map (·.1)) :
    Run K C Ω 0 (tBack K) (startS 3 [.dic (dicS m optD), .str room]) (retO fun d => ∃ bs last, Wk m room bs last ∧ m.lookup last = some none ∧ bs.length ≤ m.length ∧ d = .lst (bs.map D.str)) := by
  have big : (1000 : Nat) < sizeLine := by decide
  obtain ⟨p, hp, e1⟩ := List.mem_map.mp hr
  obtain ⟨n0, hn0⟩ := List.getElem?_of_mem hp
  have lt0 := (List.getElem?_eq_some_iff.mp hn0).1
  refine (row_asgL (c1 := 0) (c2 := 0) ((el_lst (Rs := (· = [.str room])) (ea1 (ev_var (i := 1) rfl) ea_nil) fun ds e => by rw [e]; show 1 ≤ sizeLine; decide).le (by omega)) fun xs e => ?_).le (by omega)
  subst e
  refine (run_seq (c1 := 0) (c2 := 0) (N := fun δ' => ∃ bs last, Wk m room bs last ∧ m.lookup last = some none ∧ δ'[2]? = some (.oL (bs.map D.str)) ∧ bs.length ≤ m.length)
    (run_while (n0 := n0) (Pv := fun n δ1 => ∃ bs x v, Wk m room bs x ∧ m[n]? = some (x, v) ∧ bs.length + n ≤ m.length ∧ δ1.length = 3 ∧ δ1[0]? = some (.val (.dic (dicS m optD))) ∧ δ1[2]? = some (.oL (bs.map D.str)))
      ⟨[room], room, p.2, .one, by rw [hn0, ← e1], by simp; omega, by simp [startS], rfl, rfl⟩ ?_) fun δ' ⟨bs, last, a, b, c, c9⟩ => ?_).le (by omega)
  · rintro n δ1 ⟨bs, x, v, k, hn, hl, len, g0, g2⟩
    have lx := look_at M.nd hn
    have f0 : (δ1.set 2 (.val (Sl.oL (bs.map D.str)).thing))[0]? = some (.val (.dic (dicS m optD))) := by rw [List.getElem?_set_ne (by decide)]; exact g0
    have f2 : (δ1.set 2 (.val (Sl.oL (bs.map D.str)).thing))[2]? = some (.val (.lst (bs.map D.str))) := by
      rw [List.getElem?_set_self (by rw [len]; decide)]
      rfl
    refine ⟨fun b => (b = true ↔ optD v ≠ .non), et_peek g2 rfl ((et_of (ev_op1 (ev_last k f0 f2 lx) ev_non (rv_notN (K := K) (C := C) (Ω := Ω) (a := optD v)))).le (by omega)), fun z => ?_, fun z => ?_⟩
    · have nn := z.mp rfl
      cases v with
      | none => exact absurd rfl nn
      | some y =>
        have ey : Ev K C Ω 0 (tLast K) δ1 (· = .str y) := ev_peek g2 rfl (ev_last k f0 f2 lx) fun d e => by rw [e]; rfl
        have ltn := (List.getElem?_eq_some_iff.mp hn).1
        obtain ⟨py, hpy, ey1⟩ := List.mem_map.mp (M.par (m.take n) x y (m.drop (n + 1)) (by
          have := List.getElem_cons_drop (as := m) (i := n) ltn
          rw [(List.getElem?_eq_some_iff.mp hn).2] at this
          rw [this, List.take_append_drop])).1
        obtain ⟨j, hj⟩ := List.getElem?_of_mem hpy
        have ltj := (List.getElem?_eq_some_iff.mp hj).1
        rw [List.length_take] at ltj
        have jn : j < n := by omega
        have hj2 : m[j]? = some py := by rwa [List.getElem?_take_of_lt jn] at hj
        refine run_app g2 (by rw [List.length_map]; omega) ey fun d e => ?_
        subst e
        refine ⟨j, jn, bs ++ [y], y, py.2, k.snoc lx, by rw [hj2, ← ey1], by rw [List.length_append]; simp; omega, by rw [List.length_set]; exact len, by rw [List.getElem?_set_ne (by decide)]; exact g0, ?_⟩
        rw [List.getElem?_set_self (by rw [len]; decide), List.map_append]
        rfl
    · have vn : v = none := by
        cases v with
        | none => rfl
        | some y => exact absurd (z.mpr (by intro q; cases q)) (by decide)
      rw [vn] at lx
      exact ⟨bs, x, k, lx, g2, by omega⟩
  · refine run_keep c rfl (run_ret (ev_var (i := 2) (d := .lst (bs.map D.str)) ?_) fun d e => ⟨bs, last, a, b, c9, e⟩)
    have := (List.getElem?_eq_some_iff.mp c).1
    rw [List.getElem?_set_self this]
    rfl
end
end Z
set_option maxRecDepth 100000
set_option maxHeartbeats 1000000
set_option linter.all false
namespace Z
open PySem PySem.Spec
open PyProof.Rows L2 LamX
/-! woods, dicts from all rooms -/
section
variable {K : PySem.W.Frag} {C : Addr} {Ω : List (Addr × Str)} {c c1 : Nat} {δ : List Sl} {O : Out → Prop} {h : Hs} {te : TE} {wi : TI} {g : TG}
theorem ev_all_map {vs : List Nat} {xs : List D} (b : D → Bool) (hI : IterR K C Ω 0 wi δ (· = xs)) (hn : xs.length ≤ 1000) (hs : ∀ x, x ∈ xs → ∃ δ2, TgR K C Ω g vs x (wipeS δ vs) δ2 ∧ Ev K C Ω 0 te δ2 (· = .bl (b x))) :
    Ev K C Ω 0 (tCB (rAll K) (tCons (tLc wi g tYes te vs) tNil)) δ (· = .bl (xs.all b)) := by
  have el := el_map (n := 1000) (f := fun x => D.bl (b x)) hI hn (by decide) hs
  refine (ev_cb (Rs := (· = [.lst ((xs.map b).map D.bl)])) ((ea1 (ev_l el) ea_nil).imp fun ds e => ?_) fun ds e => ?_).le (by omega)
  · rw [e, List.map_map]
    rfl
  · subst e
    have r := rc_all (K := K) (C := C) (Ω := Ω) (bs := xs.map b)
    rw [List.all_map] at r
    exact r
theorem ev_all_keys {td : TE} {ds : List (Key × D)} {vs : List Nat} (b : D → Bool) (ha : AtD K C Ω td δ ds) (hn : (keysOf ds).length ≤ 1000) (hs : ∀ x, x ∈ keysOf ds → ∃ δ2, TgR K C Ω g vs x (wipeS δ vs) δ2 ∧ Ev K C Ω 0 te δ2 (· = .bl (b x))) :
    Ev K C Ω 0 (tCB (rAll K) (tCons (tLkE (tLc (iKeys td) g tYes te vs)) tNil)) δ (· = .bl ((keysOf ds).all b)) := by
  have el := el_keys (n := 1000) (p := fun _ => true) (f := fun x => D.bl (b x)) ha hn (by decide) fun x hx => by
    obtain ⟨δ2, h1, h2⟩ := hs x hx
    exact ⟨δ2, h1, et_yes, fun _ => h2⟩
  refine (ev_cb (Rs := (· = [.lst (((keysOf ds).map b).map D.bl)])) ((ea1 (ev_l el) ea_nil).imp fun ds' e => ?_) fun ds' e => ?_).le (by omega)
  · rw [e, List.filter_eq_self.mpr (fun _ _ => rfl), List.map_map]
    rfl
  · subst e
    have r := rc_all (K := K) (C := C) (Ω := Ω) (bs := (keysOf ds).map b)
    rw [List.all_map] at r
    exact r
abbrev spLen (K : PySem.W.Frag) (C : Addr) (Ω : List (Addr × Str)) : Sp := SpX K C Ω (fun _ => 0) (fun h : Hs => [h.d]) fun h d => d = .int h.rooms.length
def lenO (C : Addr) (sp : Sp) : List V → Hp → VK → Prop := fun xs H Q => ∃ a dx fs, xs = [V.ref a] ∧ H a = some (HO.ins C dx fs) ∧ sp [V.ref a] H (fun v H' => ∃ n : Int, v = V.int n ∧ 0 ≤ n ∧ n < 2 ^ 63 ∧ Q (V.int n) H') C8.E0
theorem ev_lenO {i : Nat} (e : δ[i]? = some (.val h.d)) (few : h.rooms.length ≤ 1000) : Ev K C Ω 0 (tCB (lenO C (spLen K C Ω)) (tCons (tVar i) tNil)) δ (· = .int h.rooms.length) := fun W F G H σ o s m Q q => by
  obtain ⟨v, ev, dv⟩ := s.val e
  refine ⟨v, ev, ?_⟩
  cases dv with
  | ins h1 h2 =>
    refine ⟨_, _, _, rfl, o.gh _ _ h1, h, W, F, G, o, .cons (.ins h1 h2) .nil, m, fun v G' H' d st dd e => ?_⟩
    subst e
    cases dd
    exact ⟨_, rfl, by omega, by omega, q _ G' H' _ st (.int _) rfl⟩
def dlen : List V → Hp → VK → Prop := fun xs H Q => ∃ a kvs, xs = [V.ref a] ∧ Rd H a (HO.dK kvs) ∧ Q (V.int kvs.length) H
def tOfAll (K : PySem.W.Frag) (C : Addr) (Ω : List (Addr × Str)) : TS := tSeq
  (tIfS (tOr (tNot (tB (tCB (rIsi K) (tCons (tVar 1) (tCons (tC (V.ty "dict")) tNil))))) (tTest (tOp rNe (tCB dlen (tCons (tVar 1) tNil)) (tCB (lenO C (spLen K C Ω)) (tCons (tVar 0) tNil))))) (tRet (tC (V.bl false))) tNext)
  (tRet (tCB (rAll K) (tCons (tLkE (tLc (iKeys (tFld K (tVar 0) (Str.ofString "_near"))) (gName 2) tYes (tDIn (tVar 2) (tVar 1)) [2])) tNil)))
/-- a dict from just all rooms -/
def AllOf {α : Type} (h : Hs) (m : List (Str × α)) : Prop := m.length = h.rooms.length ∧ ∀ p ∈ h.near, (m.lookup p.1).isSome = true
theorem run_of_all {α : Type} {gD : α → D} {m : List (Str × α)} (hk : HouseK K C) (few : h.rooms.length ≤ 1000) (fewN : h.near.length ≤ 1000) (a : AllOf h m) : Run K C Ω 0 (tOfAll K C Ω) (startS 3 [h.d, .dic (dicS m gD)]) (retO (· = .bl true)) := by
  have e0 : (startS 3 [h.d, .dic (dicS m gD)])[0]? = some (.val h.d) := rfl
  have e1 : (startS 3 [h.d, .dic (dicS m gD)])[1]? = some (.val (.dic (dicS m gD))) := rfl
  have v1 : Ev K C Ω 0 (tVar 1) (startS 3 [h.d, .dic (dicS m gD)]) (· = .dic (dicS m gD)) := ev_var e1
  have len1 : Ev K C Ω 0 (tCB dlen (tCons (tVar 1) tNil)) (startS 3 [h.d, .dic (dicS m gD)]) (· = .int (dicS m gD).length) := ev_cb (ea1 v1 ea_nil) fun ds e => by
    subst e
    exact rc_len_d
  have ne : Ev K C Ω 0 (tOp rNe (tCB dlen (tCons (tVar 1) tNil)) (tCB (lenO C (spLen K C Ω)) (tCons (tVar 0) tNil))) (startS 3 [h.d, .dic (dicS m gD)]) (· = .bl false) :=
    ((ev_op1 len1 (ev_lenO e0 few) (rv_ne rfl rfl rfl)).imp fun d e => by
      rw [e, show (dicS m gD).length = h.rooms.length by unfold dicS; rw [List.length_map]; exact a.1]
      simp).le (by omega)
  refine (row_guard (c2 := 0) (c3 := 0) (RT := (· = false)) (et_or (RT := (· = false)) (et_not (et_ofB ((ev_isi v1 rfl rfl).imp fun d e => ⟨_, e, rfl⟩))) (fun _ => et1 ne) fun e => by cases e) (fun z => by cases z) fun _ => run_ret (R := (· = .bl true)) ?_ fun d e => e).le (by omega)
  have nlen : (keysOf (dicS h.near strsD)).length ≤ 1000 := by
    unfold keysOf dicS
    rw [List.length_map, List.length_map]
    exact fewN
  refine (ev_all_keys (fun d => match d with
    | .str x => (m.lookup x).isSome
    | _ => false) (atd_fld (fs := h.fs) (f := "_near") e0 hk.cl hk.n rfl) nlen fun x hx => ?_).imp fun d e => ?_
  · unfold keysOf dicS at hx
    rw [List.map_map] at hx
    obtain ⟨p, hp, rfl⟩ := List.mem_map.mp hx
    refine ⟨_, tg_name (.inr (by simp)) (by simp), ?_⟩
    have := ev_din (K := K) (C := C) (Ω := Ω) (δ := (wipeS (startS 3 [h.d, .dic (dicS m gD)]) [2]).set 2 (.val (.str p.1))) (k := Sum.inr p.1) (ev_var (i := 2) (d := .str p.1) rfl) (ev_var (i := 1) (d := .dic (dicS m gD)) rfl) rfl
    rw [has_dicS] at this
    exact this.le (by omega)
  · rw [e, show ((keysOf (dicS h.near strsD)).all _) = true from ?_]
    rw [List.all_eq_true]
    intro x hx
    unfold keysOf dicS at hx
    rw [List.map_map] at hx
    obtain ⟨p, hp, rfl⟩ := List.mem_map.mp hx
    exact a.2 p hp
end
end Z
set_option maxRecDepth 100000
set_option maxHeartbeats 1000000
set_option linter.all false
namespace Z
open PySem PySem.Spec
open PyProof.Rows L2 LamX
/-! woods, the first room of a fire, ways, spread -/
structure HsOk (h : Hs) : Prop where
  near : NearOk h.rooms h.near
  keys : h.near.map (·.1) = h.rooms
  nd : h.rooms.Nodup
  ne : 0 < h.rooms.length
structure HM where
  h : Hs
  m : List (Str × Int)
  ok : HsOk h
  a : AllOf h m
theorem HsOk.fewN {h : Hs} (o : HsOk h) : h.near.length ≤ 1000 := by
  have := congrArg List.length o.keys
  rw [List.length_map] at this
  rw [this]
  exact o.near.few
theorem AllOf.has {α : Type} {h : Hs} {m : List (Str × α)} (o : HsOk h) (a : AllOf h m) {x : Str} (hx : x ∈ h.rooms) : ∃ v, m.lookup x = some v := by
  rw [← o.keys] at hx
  obtain ⟨p, hp, rfl⟩ := List.mem_map.mp hx
  exact Option.isSome_iff_exists.mp (a.2 p hp)
structure HW extends HM where
  pos : ∀ x v, x ∈ h.rooms → m.lookup x = some v → 1 ≤ v
structure HF where
  w : HW
  f : List (Str × Int)
  fa : AllOf w.h f
section
variable {K : PySem.W.Frag} {C : Addr} {Ω : List (Addr × Str)} {c c1 : Nat} {δ : List Sl} {O : Out → Prop}
abbrev spOfAll (K : PySem.W.Frag) (C : Addr) (Ω : List (Addr × Str)) : Sp := SpX K C Ω (fun _ => 0) (fun i : HM => [i.h.d, .dic (dicS i.m D.int)]) fun _ d => d = .bl true
abbrev spFromOne (K : PySem.W.Frag) (C : Addr) (Ω : List (Addr × Str)) : Sp := SpX K C Ω (fun _ => 0) (fun i : Int => [.int i]) fun i d => d = .bl (decide (1 ≤ i))
abbrev spRooms (K : PySem.W.Frag) (C : Addr) (Ω : List (Addr × Str)) : Sp := SpX K C Ω (fun _ => 0) (fun h : Hs => [h.d]) fun h d => d = strsD h.rooms
abbrev spIsWoods (K : PySem.W.Frag) (C : Addr) (Ω : List (Addr × Str)) : Sp := SpX K C Ω (fun _ => 0) (fun i : HW => [i.h.d, .dic (dicS i.m D.int)]) fun _ d => d = .bl true
abbrev spNeedWoods (K : PySem.W.Frag) (C : Addr) (Ω : List (Addr × Str)) : Sp := SpX K C Ω (fun _ => 0) (fun i : HW => [i.h.d, .dic (dicS i.m D.int)]) fun _ d => d = .non
theorem ev_rooms {i : Nat} {h : Hs} (e : δ[i]? = some (.val h.d)) : Ev K C Ω 0 (tMeth C (Str.ofString "rooms") (spRooms K C Ω) [] C8.E0 (tVar i) tNil) δ (· = strsD h.rooms) :=
  (ev_methX (cc := fun _ => 0) (A := fun h : Hs => [h.d]) (Rx := fun h d => d = strsD h.rooms) (fs := h.fs) h (ev_var e) rfl rfl).le (by omega)
/-- all([f(d[room]) for room in house.rooms()]) -/
theorem ev_all_rooms {h : Hs} {m : List (Str × Int)} {i j k : Nat} {sp : Sp} (b : Int → Bool) (hi : δ[i]? = some (.val h.d)) (hij : i ≠ k) (hj : δ[j]? = some (.val (.dic (dicS m D.int)))) (hjk : j ≠ k) (lk : k < δ.length) (o : HsOk h) (a : AllOf h m)
    (hs : ∀ v δ', Ev K C Ω 0 (tDGet (tVar j) (tVar k)) δ' (· = .int v) → Ev K C Ω 0 (tCall sp [] C8.E0 (tCons (tDGet (tVar j) (tVar k)) tNil)) δ' (· = .bl (b v))) (all : ∀ x v, x ∈ h.rooms → m.lookup x = some v → b v = true) :
    Ev K C Ω 0 (tCB (rAll K) (tCons (tLc (iList K (tMeth C (Str.ofString "rooms") (spRooms K C Ω) [] C8.E0 (tVar i) tNil)) (gName k) tYes (tCall sp [] C8.E0 (tCons (tDGet (tVar j) (tVar k)) tNil)) [k]) tNil)) δ (· = .bl true) := by
  refine (ev_all_map (fun d => match d with
    | .str x => ((m.lookup x).map b).getD true
    | _ => false) (it_list1 (ev_rooms hi)) (by rw [List.length_map]; exact o.near.few) fun x hx => ?_).imp fun d e => ?_
  · obtain ⟨y, hy, rfl⟩ := List.mem_map.mp hx
    obtain ⟨v, hv⟩ := a.has o hy
    refine ⟨_, tg_name (.inr (by simp)) (by simp), ?_⟩
    have w : ∀ {n : Nat}, n ≠ k → ((wipeS δ [k]).set k (.val (.str y)))[n]? = δ[n]? := fun {n} hn => by
      rw [List.getElem?_set_ne (Ne.symm hn)]
      show (δ.set k .un)[n]? = δ[n]?
      rw [List.getElem?_set_ne (Ne.symm hn)]
    have wk : ((wipeS δ [k]).set k (.val (.str y)))[k]? = some (.val (.str y)) := List.getElem?_set_self (by show k < (δ.set k .un).length; rw [List.length_set]; exact lk)
    have g := (ev_dget (K := K) (C := C) (Ω := Ω) (k := Sum.inr y) (d := .int v) (ev_var ((w hjk).trans hj)) (ev_var wk) rfl (by rw [look_dicS, hv]; rfl)).le (c := 0) (by omega)
    refine (hs v _ g).imp fun d e => ?_
    rw [e]
    simp [hv]
  · rw [e, show ((h.rooms.map D.str).all _) = true from ?_]
    rw [List.all_eq_true]
    intro x hx
    obtain ⟨y, hy, rfl⟩ := List.mem_map.mp hx
    obtain ⟨v, hv⟩ := a.has o hy
    simp [hv, all y v hy hv]
def tIsWoods (K : PySem.W.Frag) (C : Addr) (Ω : List (Addr × Str)) : TS := tRet (tAndV (tCall (spOfAll K C Ω) [] C8.E0 (tCons (tVar 0) (tCons (tVar 1) tNil)))
  (tCB (rAll K) (tCons (tLc (iList K (tMeth C (Str.ofString "rooms") (spRooms K C Ω) [] C8.E0 (tVar 0) tNil)) (gName 2) tYes (tCall (spFromOne K C Ω) [] C8.E0 (tCons (tDGet (tVar 1) (tVar 2)) tNil)) [2]) tNil)))
theorem run_is_woods (i : HW) : Run K C Ω 0 (tIsWoods K C Ω) (startS 3 [i.h.d, .dic (dicS i.m D.int)]) (retO (· = .bl true)) := by
  have v0 : Ev K C Ω 0 (tVar 0) (startS 3 [i.h.d, .dic (dicS i.m D.int)]) (· = i.h.d) := ev_var rfl
  have v1 : Ev K C Ω 0 (tVar 1) (startS 3 [i.h.d, .dic (dicS i.m D.int)]) (· = .dic (dicS i.m D.int)) := ev_var rfl
  have c1 : Ev K C Ω 0 (tCall (spOfAll K C Ω) [] C8.E0 (tCons (tVar 0) (tCons (tVar 1) tNil))) (startS 3 [i.h.d, .dic (dicS i.m D.int)]) (· = .bl true) := (ev_callX (cc := fun _ => 0) (A := fun i : HM => [i.h.d, .dic (dicS i.m D.int)]) (Rx := fun _ d => d = .bl true) i.toHM (ea1 v0 (ea1 v1 ea_nil))).le (by omega)
  have c2 := ev_all_rooms (K := K) (C := C) (Ω := Ω) (δ := startS 3 [i.h.d, .dic (dicS i.m D.int)]) (h := i.h) (m := i.m) (i := 0) (j := 1) (k := 2) (sp := spFromOne K C Ω) (fun v => decide (1 ≤ v)) rfl (by decide) rfl (by decide) (by simp [startS]) i.ok i.a
    (fun v δ' g => (ev_callX (cc := fun _ => 0) (A := fun i : Int => [.int i]) (Rx := fun i d => d = .bl (decide (1 ≤ i))) v (ea1 g ea_nil)).le (by omega)) fun x v hx hv => decide_eq_true (i.pos x v hx hv)
  refine run_ret (R := fun d => ∃ k, d = .bl k ∧ k = true) ((ev_and (RT := (· = true)) (RU := (· = true)) (c1.imp fun d e => ⟨_, e, rfl⟩) (fun _ => c2.imp fun d e => ⟨_, e, rfl⟩) fun e => by cases e).le (by omega)) ?_
  rintro d ⟨k, rfl, rfl⟩
  rfl
def tNeedWoods (K : PySem.W.Frag) (C : Addr) (Ω : List (Addr × Str)) : TS := tIfS (tNot (tB (tCall (spIsWoods K C Ω) [] C8.E0 (tCons (tVar 0) (tCons (tVar 1) tNil))))) tNever tNext
theorem run_need_woods (i : HW) : Run K C Ω 0 (tNeedWoods K C Ω) (startS 2 [i.h.d, .dic (dicS i.m D.int)]) (retO (· = .non)) := by
  have v0 : Ev K C Ω 0 (tVar 0) (startS 2 [i.h.d, .dic (dicS i.m D.int)]) (· = i.h.d) := ev_var rfl
  have v1 : Ev K C Ω 0 (tVar 1) (startS 2 [i.h.d, .dic (dicS i.m D.int)]) (· = .dic (dicS i.m D.int)) := ev_var rfl
  have c1 : Ev K C Ω 0 (tCall (spIsWoods K C Ω) [] C8.E0 (tCons (tVar 0) (tCons (tVar 1) tNil))) (startS 2 [i.h.d, .dic (dicS i.m D.int)]) (· = .bl true) := (ev_callX (cc := fun _ => 0) (A := fun i : HW => [i.h.d, .dic (dicS i.m D.int)]) (Rx := fun _ d => d = .bl true) i (ea1 v0 (ea1 v1 ea_nil))).le (by omega)
  exact (run_if (O := retO (· = .non)) (RT := (· = false)) (et_not (et_ofB (c1.imp fun d r => ⟨true, r, rfl⟩))) (c2 := 0) (c3 := 0) (fun z => by cases z) fun _ => run_next (show (D.non : D) = .non from rfl)).le (by omega)
/-! the earliest room -/
def tEarly (K : PySem.W.Frag) (C : Addr) (Ω : List (Addr × Str)) (P : Addr) : TS := tRet (tMinL K Ω P (tMeth C (Str.ofString "rooms") (spRooms K C Ω) [] C8.E0 (tVar 0) tNil) (tDGet (tVar 1) (tVar 2)))
/-- x is the first of those rooms whose hours are the least -/
def Earliest (h : Hs) (f : List (Str × Int)) (x : Str) : Prop := x ∈ h.rooms ∧ ∃ v, f.lookup x = some v ∧ ∀ y u, y ∈ h.rooms → f.lookup y = some u → v ≤ u
theorem run_early {P : Addr} {q : Str} (hP : (P, q) ∈ Ω) {h : Hs} {f : List (Str × Int)} (o : HsOk h) (a : AllOf h f) : Run K C Ω 0 (tEarly K C Ω P) (startS 2 [h.d, .dic (dicS f D.int)]) (retO fun d => ∃ x, d = .str x ∧ Earliest h f x) := by
  have look : ∀ (i : Nat) (y : D), (h.rooms.map D.str)[i]? = some y → ∃ x v, y = .str x ∧ h.rooms[i]? = some x ∧ x ∈ h.rooms ∧ f.lookup x = some v := fun i y e => by
    rw [List.getElem?_map] at e
    obtain ⟨x, hx, rfl⟩ := Option.map_eq_some_iff.mp e
    obtain ⟨v, hv⟩ := a.has o (List.mem_of_getElem? hx)
    exact ⟨x, v, rfl, hx, List.mem_of_getElem? hx, hv⟩
  let kf : Nat → Int := fun i => ((h.rooms[i]?).bind fun x => f.lookup x).getD 0
  refine run_ret (ev_minL hP (ev_rooms (i := 0) (h := h) rfl) (by rw [List.length_map]; exact o.ne) kf (fun i y hy => ?_) (R := fun d => ∃ x, d = .str x ∧ Earliest h f x) fun i y hy mn => ?_) fun d e => e
  · obtain ⟨x, v, rfl, hx, _, hv⟩ := look i y hy
    have : kf i = v := by simp [kf, hx, hv]
    rw [this]
    exact evp_dget (i := 1) (j := 2) (k := Sum.inr x) (ds := dicS f D.int) (a := .str x) rfl rfl rfl (by rw [look_dicS, hv]; rfl)
  · obtain ⟨x, v, rfl, hx, xm, hv⟩ := look i y hy
    refine ⟨x, rfl, xm, v, hv, fun y u ym hu => ?_⟩
    obtain ⟨j, hj⟩ := List.getElem?_of_mem ym
    have lj := (List.getElem?_eq_some_iff.mp hj).1
    have := (mn j (by rw [List.length_map]; exact lj)).1
    simpa [kf, hx, hv, hj, hu] using this
end
end Z
set_option maxRecDepth 100000
set_option maxHeartbeats 1000000
set_option linter.all false
namespace Z
open PySem PySem.Spec
open PyProof.Rows L2 LamX
/-! a <= b <= c, xs[:-1]; ways, spreads -/
section
variable {K : PySem.W.Frag} {C : Addr} {Ω : List (Addr × Str)} {c c1 : Nat} {δ : List Sl} {O : Out → Prop} {ta tb tc te : TE}
def leq : R2 := rI0 fun i j => V.bl (decide (i ≤ j))
theorem ev_chain {i j k : Int} (ha : Ev K C Ω 0 ta δ (· = .int i)) (hb : Ev K C Ω 0 tb δ (· = .int j)) (hc : Ev K C Ω 0 tc δ (· = .int k)) : Ev K C Ω 0 (tChain leq leq ta tb tc) δ (· = .bl (decide (i ≤ j ∧ j ≤ k))) := fun W F G H σ o s m Q q =>
  ha W F G H σ o s m _ fun x G1 H1 d1 st1 dd1 e1 => hb W F G1 H1 σ (st1.ok o) (s.step o st1) (cost1 (c1 := 0) (c2 := 0) st1 (by omega)) _ fun y G2 H2 d2 st2 dd2 e2 => by
    subst e1 e2
    cases dd1
    cases dd2
    have st := st1.trans st2
    refine ⟨i, j, rfl, rfl, _, rfl, ?_⟩
    by_cases le1 : i ≤ j
    · rw [if_pos (decide_eq_true le1)]
      refine hc W F G2 H2 σ (st.ok o) (s.step o st) (cost1 (c1 := 0) (c2 := 0) (st.le (by omega)) (by omega)) _ fun z G3 H3 d3 st3 dd3 e3 => ?_
      subst e3
      cases dd3
      refine ⟨j, k, rfl, rfl, q _ G3 H3 _ ((st.trans st3).le (by omega)) (.bl _) ?_⟩
      rw [decide_eq_decide.mpr (show i ≤ j ∧ j ≤ k ↔ j ≤ k from ⟨And.right, fun z => ⟨le1, z⟩⟩)]
    · rw [if_neg (by rw [decide_eq_false le1]; exact Bool.false_ne_true)]
      refine q _ G2 H2 _ (st.le (by omega)) (.bl _) ?_
      rw [decide_eq_false fun z => le1 z.1]
theorem el_but1 {xs : List D} (h : Ev K C Ω 0 te δ (· = .lst xs)) (ne : 0 < xs.length) : EvL K C Ω 0 (tSl (rSlL K) te tNoPart (tPart (tUn (rU fun i => V.int (-i)) (tC (V.int 1))))) δ (· = xs.dropLast) := fun W F G H σ o s m Q q =>
  h W F G H σ o s m _ fun v G1 H1 d st dd e => by
    subst e
    cases dd with
    | lst h1 h2 =>
      rename_i a vs
      refine ⟨1, rfl, -1, rfl, a, vs, rfl, .inl (.inl (st.gh _ _ h1)), fun p hp => ?_⟩
      have o1 := st.ok o
      have len := h2.len
      have e : cutV vs none (some (-1)) = vs.dropLast := by
        unfold cutV
        show (vs.drop 0).take (HT.sIx vs.length vs.length (some (-1)) - 0) = vs.dropLast
        have : HT.sIx vs.length vs.length (some (-1)) = vs.length - 1 := by
          show (if (-1 : Int) < 0 then ((-1 : Int) + (vs.length : Int)).toNat else min (-1 : Int).toNat vs.length) = _
          rw [if_pos (by decide)]
          omega
        rw [this, List.drop_zero, Nat.sub_zero, List.dropLast_eq_take]
      rw [e]
      have s2 := o1.own (o := .lst vs.dropLast) hp
      exact q p _ G1 _ xs.dropLast (st.trans s2) (none_of_ne fun z => st.dom z hp) (o1.gnone hp) upd_same h2.dropLast rfl
end
/-- rooms hang together -/
def Conn (h : Hs) : Prop := ∀ S : Str → Prop, (∃ x, x ∈ h.rooms ∧ S x) → (∀ x ns, S x → h.near.lookup x = some ns → ∀ y ∈ ns, S y) → ∀ x ∈ h.rooms, S x
theorem Ahead.all {h : Hs} {first : Str} {m : List (Str × Option Str)} (a : Ahead h first m) (cn : Conn h) (hf : first ∈ h.rooms) : ∀ x ∈ h.rooms, x ∈ m.map (·.1) := by
  obtain ⟨M, dn, sub⟩ := a
  refine cn (fun x => x ∈ m.map (·.1)) ⟨first, hf, ?_⟩ fun x ns hx hn y hy => ?_
  · obtain ⟨r, e, _⟩ := M.hd
    rw [e]
    simp
  · obtain ⟨p, hp, e⟩ := List.mem_map.mp hx
    obtain ⟨j, hj⟩ := List.getElem?_of_mem hp
    exact dn j p (List.getElem?_eq_some_iff.mp hj).1 hj ns (by rw [e]; exact hn) y hy
structure HC where
  h : Hs
  ok : HsOk h
  cn : Conn h
structure NR where
  h : Hs
  x : Str
  e : (h.near.lookup x).isSome = true
structure HA where
  h : Hs
  first : Str
  ok : HsOk h
  hf : first ∈ h.rooms
structure BK where
  near : List (Str × List Str)
  first : Str
  m : List (Str × Option Str)
  room : Str
  M : Met near first m
  few : m.length ≤ 1000
  hr : room ∈ m.map (·.1)
structure WY extends HC where
  one : Str
  other : Str
  h1 : one ∈ h.rooms
  h2 : other ∈ h.rooms
/-- bs is the way from one to other -/
def WayOf (h : Hs) (one other : Str) (bs : List Str) : Prop := ∃ m last, Ahead h other m ∧ Wk m one bs last ∧ m.lookup last = some none ∧ bs.length ≤ m.length
section
variable {K : PySem.W.Frag} {C : Addr} {Ω : List (Addr × Str)}
abbrev spNeedRoom (K : PySem.W.Frag) (C : Addr) (Ω : List (Addr × Str)) : Sp := SpX K C Ω (fun _ => 0) (fun i : NR => [i.h.d, .str i.x]) fun _ d => d = .non
abbrev spAhead (K : PySem.W.Frag) (C : Addr) (Ω : List (Addr × Str)) : Sp := SpX K C Ω (fun _ => 0) (fun i : HA => [i.h.d, .str i.first]) fun i d => ∃ m, d = .dic (dicS m optD) ∧ Ahead i.h i.first m
abbrev spBack (K : PySem.W.Frag) (C : Addr) (Ω : List (Addr × Str)) : Sp := SpX K C Ω (fun _ => 0) (fun i : BK => [.dic (dicS i.m optD), .str i.room]) fun i d => ∃ bs last, Wk i.m i.room bs last ∧ i.m.lookup last = some none ∧ bs.length ≤ i.m.length ∧ d = .lst (bs.map D.str)
abbrev spWay (K : PySem.W.Frag) (C : Addr) (Ω : List (Addr × Str)) : Sp := SpX K C Ω (fun _ => 0) (fun i : WY => [i.h.d, .str i.one, .str i.other]) fun i d => ∃ bs, WayOf i.h i.one i.other bs ∧ d = strsD bs
def tWay (K : PySem.W.Frag) (C : Addr) (Ω : List (Addr × Str)) : TS := tSeq (tDrop (tCall (spNeedRoom K C Ω) [] C8.E0 (tCons (tVar 0) (tCons (tVar 1) tNil)))) (tSeq (tDrop (tCall (spNeedRoom K C Ω) [] C8.E0 (tCons (tVar 0) (tCons (tVar 2) tNil))))
  (tRet (tCall (spBack K C Ω) [] C8.E0 (tCons (tCall (spAhead K C Ω) [] C8.E0 (tCons (tVar 0) (tCons (tVar 2) tNil))) (tCons (tVar 1) tNil)))))
theorem HsOk.inNear {h : Hs} (o : HsOk h) {x : Str} (hx : x ∈ h.rooms) : (h.near.lookup x).isSome = true := by
  rw [look_mem, o.keys]
  exact hx
theorem Ahead.few {h : Hs} {first : Str} {m : List (Str × Option Str)} (a : Ahead h first m) (o : HsOk h) : m.length ≤ 1000 := by
  have := pigeon a.1.nd a.2.2
  rw [List.length_map] at this
  exact Nat.le_trans this o.near.few
/-- a call whose argument is only known by what it fulfils -/
theorem ev_callE {ι : Type} {A : ι → List D} {Rx : ι → D → Prop} {tt : TA} {Rs : List D → Prop} {R : D → Prop} {E : XK} {c1 : Nat} {δ : List Sl} (h : EvA K C Ω c1 tt δ Rs) (k : ∀ ds, Rs ds → ∃ i, A i = ds ∧ ∀ d, Rx i d → R d) : Ev K C Ω (c1 + 0) (tCall (SpX K C Ω (fun _ => 0) A Rx) [] E tt) δ R := fun W F G H σ o s m Q q =>
  h W F G H σ o s (by omega) _ fun vs G1 H1 ds st dds rds => by
    show SpX K C Ω (fun _ => 0) A Rx (vs ++ []) H1 Q E
    rw [List.append_nil]
    obtain ⟨i, e, kk⟩ := k ds rds
    subst e
    exact ⟨i, W, F, G1, st.ok o, dds, cost1 st m, fun v G2 H2 d st2 dd rd => q v G2 H2 d (st.trans st2) dd (kk d rd)⟩
theorem run_way (i : WY) : Run K C Ω 0 (tWay K C Ω) (startS 3 [i.h.d, .str i.one, .str i.other]) (retO fun d => ∃ bs, WayOf i.h i.one i.other bs ∧ d = strsD bs) := by
  have v0 : Ev K C Ω 0 (tVar 0) (startS 3 [i.h.d, .str i.one, .str i.other]) (· = i.h.d) := ev_var rfl
  have v1 : Ev K C Ω 0 (tVar 1) (startS 3 [i.h.d, .str i.one, .str i.other]) (· = .str i.one) := ev_var rfl
  have v2 : Ev K C Ω 0 (tVar 2) (startS 3 [i.h.d, .str i.one, .str i.other]) (· = .str i.other) := ev_var rfl
  refine (row_drop (c1 := 0) (c2 := 0) (R := (· = .non)) ((ev_callX (cc := fun _ => 0) (A := fun i : NR => [i.h.d, .str i.x]) (Rx := fun _ d => d = .non) ⟨i.h, i.one, i.ok.inNear i.h1⟩ (ea1 v0 (ea1 v1 ea_nil))).le (by omega)) ?_).le (by omega)
  refine (row_drop (c1 := 0) (c2 := 0) (R := (· = .non)) ((ev_callX (cc := fun _ => 0) (A := fun i : NR => [i.h.d, .str i.x]) (Rx := fun _ d => d = .non) ⟨i.h, i.other, i.ok.inNear i.h2⟩ (ea1 v0 (ea1 v2 ea_nil))).le (by omega)) ?_).le (by omega)
  have ca : Ev K C Ω 0 (tCall (spAhead K C Ω) [] C8.E0 (tCons (tVar 0) (tCons (tVar 2) tNil))) (startS 3 [i.h.d, .str i.one, .str i.other]) (fun d => ∃ m, d = .dic (dicS m optD) ∧ Ahead i.h i.other m) :=
    (ev_callX (cc := fun _ => 0) (A := fun i : HA => [i.h.d, .str i.first]) (Rx := fun i d => ∃ m, d = .dic (dicS m optD) ∧ Ahead i.h i.first m) ⟨i.h, i.other, i.ok, i.h2⟩ (ea1 v0 (ea1 v2 ea_nil))).le (by omega)
  refine run_ret (R := fun d => ∃ bs, WayOf i.h i.one i.other bs ∧ d = strsD bs) ((ev_callE (Rs := fun ds => ∃ m, ds = [.dic (dicS m optD), .str i.one] ∧ Ahead i.h i.other m) (ea_cons ca (ea1 v1 ea_nil) fun d ds ⟨m, e, a⟩ es => ⟨m, by rw [e, es], a⟩) fun ds ⟨m, e, a⟩ => ?_).le (by omega)) fun d e => e
  subst e
  exact ⟨⟨i.h.near, i.other, m, i.one, a.1, a.few i.ok, a.all i.cn i.h2 _ i.h1⟩, rfl, fun d ⟨bs, last, w, l, l9, e⟩ => ⟨bs, ⟨m, last, a, w, l, l9⟩, e⟩⟩
end
end Z
set_option maxRecDepth 100000
set_option maxHeartbeats 1000000
set_option linter.all false
namespace Z
open PySem PySem.Spec
open PyProof.Rows L2 LamX
/-! spreads, fires -/
def valF (f : List (Str × Int)) (x : Str) : Int := (f.lookup x).getD 0
theorem look_pos {α : Type} {x : Str} {v : α} : ∀ {m : List (Str × α)}, m.lookup x = some v → ∃ pre suf, m = pre ++ (x, v) :: suf
  | [], e => by simp at e
  | (y, b) :: r, e => by
    rw [List.lookup_cons] at e
    by_cases q : x = y
    · subst q
      simp at e
      subst e
      exact ⟨[], r, rfl⟩
    · rw [show (x == y) = false from beq_eq_false_iff_ne.mpr q] at e
      obtain ⟨pre, suf, e2⟩ := look_pos (m := r) e
      exact ⟨(y, b) :: pre, suf, by rw [e2]; rfl⟩
theorem Met.up {near : List (Str × List Str)} {first x y : Str} {m : List (Str × Option Str)} (M : Met near first m) (e : m.lookup x = some (some y)) : y ∈ m.map (·.1) ∧ ∃ ns, near.lookup y = some ns ∧ x ∈ ns := by
  obtain ⟨pre, suf, e2⟩ := look_pos e
  obtain ⟨a, b⟩ := M.par pre x y suf e2
  refine ⟨?_, b⟩
  rw [e2, List.map_append]
  exact List.mem_append_left _ a
theorem Wk.mem {near : List (Str × List Str)} {first room x : Str} {bs : List Str} {m : List (Str × Option Str)} (M : Met near first m) (hr : room ∈ m.map (·.1)) (k : Wk m room bs x) : ∀ y ∈ bs, y ∈ m.map (·.1) := by
  induction k with
  | one =>
    intro y hy
    rw [List.mem_singleton.mp hy]
    exact hr
  | snoc _ e ih =>
    intro y hy
    rcases List.mem_append.mp hy with z | z
    · exact ih y z
    · rw [List.mem_singleton.mp z]
      exact (M.up e).1
structure SPi where
  w : HW
  cn : Conn w.h
  one : Str
  other : Str
  h1 : one ∈ w.h.rooms
  h2 : other ∈ w.h.rooms
section
variable {K : PySem.W.Frag} {C : Addr} {Ω : List (Addr × Str)} {δ : List Sl}
theorem ev_get {i j : Nat} {f : List (Str × Int)} {x : Str} {v : Int} (h1 : δ[i]? = some (.val (.dic (dicS f D.int)))) (h2 : δ[j]? = some (.val (.str x))) (hv : f.lookup x = some v) : Ev K C Ω 0 (tDGet (tVar i) (tVar j)) δ (· = .int (valF f x)) :=
  (ev_dget (k := Sum.inr x) (d := .int (valF f x)) (ev_var h1) (ev_var h2) rfl (by rw [look_dicS, hv, valF, hv]; rfl)).le (by omega)
def tSpread (K : PySem.W.Frag) (C : Addr) (Ω : List (Addr × Str)) : TS := tSeq (tDrop (tCall (spNeedWoods K C Ω) [] C8.E0 (tCons (tVar 0) (tCons (tVar 1) tNil)))) (tSeq (tAsg (tCall (spWay K C Ω) [] C8.E0 (tCons (tVar 0) (tCons (tVar 2) (tCons (tVar 3) tNil)))) (gName 4))
  (tRet (tTup (tCons (tOp (rI0 fun i j => V.int (i - j)) (tCB (rLenV K) (tCons (tVar 4) tNil)) (tC (V.int 1))) (tCons (tCB (rSum K) (tCons (tLc (iList K (tSl (rSlL K) (tVar 4) tNoPart (tPart (tUn (rU fun i => V.int (-i)) (tC (V.int 1)))))) (gName 5) tYes (tDGet (tVar 1) (tVar 5)) [5]) tNil)) tNil)))))
abbrev spSpread (K : PySem.W.Frag) (C : Addr) (Ω : List (Addr × Str)) : Sp := SpX K C Ω (fun _ => 0) (fun i : SPi => [i.w.h.d, .dic (dicS i.w.m D.int), .str i.one, .str i.other]) fun i d => ∃ bs, WayOf i.w.h i.one i.other bs ∧ d = .tup [.int ((bs.length : Int) - 1), .int ((bs.dropLast.map (valF i.w.m)).sum)]
theorem run_spread (i : SPi) : Run K C Ω 0 (tSpread K C Ω) (startS 6 [i.w.h.d, .dic (dicS i.w.m D.int), .str i.one, .str i.other]) (retO fun d => ∃ bs, WayOf i.w.h i.one i.other bs ∧ d = .tup [.int ((bs.length : Int) - 1), .int ((bs.dropLast.map (valF i.w.m)).sum)]) := by
  have v0 : Ev K C Ω 0 (tVar 0) (startS 6 [i.w.h.d, .dic (dicS i.w.m D.int), .str i.one, .str i.other]) (· = i.w.h.d) := ev_var rfl
  have v1 : Ev K C Ω 0 (tVar 1) (startS 6 [i.w.h.d, .dic (dicS i.w.m D.int), .str i.one, .str i.other]) (· = .dic (dicS i.w.m D.int)) := ev_var rfl
  have v2 : Ev K C Ω 0 (tVar 2) (startS 6 [i.w.h.d, .dic (dicS i.w.m D.int), .str i.one, .str i.other]) (· = .str i.one) := ev_var rfl
  have v3 : Ev K C Ω 0 (tVar 3) (startS 6 [i.w.h.d, .dic (dicS i.w.m D.int), .str i.one, .str i.other]) (· = .str i.other) := ev_var rfl
  refine (row_drop (c1 := 0) (c2 := 0) (R := (· = .non)) ((ev_callX (cc := fun _ => 0) (A := fun i : HW => [i.h.d, .dic (dicS i.m D.int)]) (Rx := fun _ d => d = .non) i.w (ea1 v0 (ea1 v1 ea_nil))).le (by omega)) ?_).le (by omega)
  refine (row_asg (c1 := 0) (c2 := 0) (R := fun d => ∃ bs, WayOf i.w.h i.one i.other bs ∧ d = strsD bs) ((ev_callX (cc := fun _ => 0) (A := fun i : WY => [i.h.d, .str i.one, .str i.other]) (Rx := fun i d => ∃ bs, WayOf i.h i.one i.other bs ∧ d = strsD bs) { h := i.w.h, ok := i.w.ok, cn := i.cn, one := i.one, other := i.other, h1 := i.h1, h2 := i.h2 } (ea1 v0 (ea1 v2 (ea1 v3 ea_nil)))).le (by omega)) fun d hd => ?_).le (by omega)
  obtain ⟨bs, wo, rfl⟩ := hd
  obtain ⟨m, last, ah, wk, ll, short⟩ := id wo
  have few := ah.few i.w.ok
  have inR : ∀ y ∈ bs, y ∈ i.w.h.rooms := fun y hy => ah.2.2 y (wk.mem ah.1 (ah.all i.cn i.h2 _ i.h1) y hy)
  obtain ⟨r, er⟩ := wk.last
  have pos : 0 < bs.length := by rw [er, List.length_append]; simp
  -- the way is no longer than the house has rooms
  have e4 : ((startS 6 [i.w.h.d, .dic (dicS i.w.m D.int), .str i.one, .str i.other]).set 4 (.val (strsD bs)))[4]? = some (.val (.lst (bs.map D.str))) := rfl
  have l1 := (ev_op1 (K := K) (C := C) (Ω := Ω) (ev_lenL e4) ev_int (rv_int (g := fun i j => i - j) (i := ((bs.map D.str).length : Int)) (j := 1))).le (c := 0) (by omega)
  have sm : Ev K C Ω 0 (tCB (rSum K) (tCons (tLc (iList K (tSl (rSlL K) (tVar 4) tNoPart (tPart (tUn (rU fun i => V.int (-i)) (tC (V.int 1)))))) (gName 5) tYes (tDGet (tVar 1) (tVar 5)) [5]) tNil)) ((startS 6 [i.w.h.d, .dic (dicS i.w.m D.int), .str i.one, .str i.other]).set 4 (.val (strsD bs))) (· = .int ((bs.dropLast.map (valF i.w.m)).sum)) := by
    have el := el_map (K := K) (C := C) (Ω := Ω) (n := 1000) (vs := [5]) (g := gName 5) (te := tDGet (tVar 1) (tVar 5)) (f := fun d => match d with
      | .str y => D.int (valF i.w.m y)
      | _ => .non) (it_list1 (ev_l (el_but1 (ev_var e4) (by rw [List.length_map]; exact pos)))) (by rw [List.length_dropLast, List.length_map]; omega) (by decide) fun x hx => by
        have hx2 := List.dropLast_subset _ hx
        obtain ⟨y, hy, rfl⟩ := List.mem_map.mp hx2
        obtain ⟨v, hv⟩ := i.w.a.has i.w.ok (inR y hy)
        exact ⟨_, tg_name (.inr (by simp)) (by simp), ev_get (i := 1) (j := 5) (f := i.w.m) rfl rfl hv⟩
    refine (ev_cb (Rs := (· = [.lst ((bs.dropLast.map (valF i.w.m)).map D.int)])) ((ea1 (ev_l el) ea_nil).imp fun ds e => ?_) fun ds e => ?_).le (by omega)
    · rw [e, ← List.map_dropLast, List.map_map, List.map_map]
      rfl
    · subst e
      exact rc_sum
  refine run_ret (R := (· = .tup [.int ((bs.length : Int) - 1), .int ((bs.dropLast.map (valF i.w.m)).sum)])) ((ev_tup1 (ea1 l1 (ea1 sm ea_nil)) (by show 2 ≤ sizeLine; decide)).imp fun d e => by rw [e, List.length_map]) fun d e => ⟨bs, wo, e⟩
end
end Z
set_option maxRecDepth 100000
set_option maxHeartbeats 1000000
set_option linter.all false
namespace Z
open PySem PySem.Spec
open PyProof.Rows L2 LamX
/-! whether something is a fire -/
/-- each room behind the one it was met from, within its wood -/
def burnsB (w f : List (Str × Int)) (m : List (Str × Option Str)) : Bool := m.all fun p => match p.2 with
  | none => true
  | some b => decide (1 ≤ valF f p.1 - valF f b ∧ valF f p.1 - valF f b ≤ valF w b)
structure EA where
  h : Hs
  f : List (Str × Int)
  ok : HsOk h
  a : AllOf h f
structure FI extends HF where
  cn : Conn w.h
def FireB (i : FI) (b : Bool) : Prop := ∃ x m, Earliest i.w.h i.f x ∧ Ahead i.w.h x m ∧ b = burnsB i.w.m i.f m
section
variable {K : PySem.W.Frag} {C : Addr} {Ω : List (Addr × Str)} {δ : List Sl}
abbrev spEarly (K : PySem.W.Frag) (C : Addr) (Ω : List (Addr × Str)) : Sp := SpX K C Ω (fun _ => 0) (fun i : EA => [i.h.d, .dic (dicS i.f D.int)]) fun i d => ∃ x, d = .str x ∧ Earliest i.h i.f x
abbrev spIsInt (K : PySem.W.Frag) (C : Addr) (Ω : List (Addr × Str)) : Sp := SpX K C Ω (fun _ => 0) (fun i : Int => [.int i]) fun _ d => d = .bl true
abbrev spIsFire (K : PySem.W.Frag) (C : Addr) (Ω : List (Addr × Str)) : Sp := SpX K C Ω (fun _ => 0) (fun i : FI => [i.w.h.d, .dic (dicS i.w.m D.int), .dic (dicS i.f D.int)]) fun i d => ∃ b, FireB i b ∧ d = .bl b
def tFireT (K : PySem.W.Frag) : TT := tAnd (tTest (tOp tNotN (tVar 5) (tC V.non))) (tNot (tTest (tChain leq leq (tC (V.int 1)) (tOp (rI0 fun i j => V.int (i - j)) (tDGet (tVar 2) (tVar 3)) (tDGet (tVar 2) (tVar 5))) (tDGet (tVar 1) (tVar 5)))))
def tIsFire (K : PySem.W.Frag) (C : Addr) (Ω : List (Addr × Str)) : TS := tSeq (tDrop (tCall (spNeedWoods K C Ω) [] C8.E0 (tCons (tVar 0) (tCons (tVar 1) tNil)))) (tSeq
  (tIfS (tOr (tNot (tB (tCall (spOfAll K C Ω) [] C8.E0 (tCons (tVar 0) (tCons (tVar 2) tNil))))) (tNot (tB (tCB (rAll K) (tCons (tLc (iList K (tMeth C (Str.ofString "rooms") (spRooms K C Ω) [] C8.E0 (tVar 0) tNil)) (gName 3) tYes (tCall (spIsInt K C Ω) [] C8.E0 (tCons (tDGet (tVar 2) (tVar 3)) tNil)) [3]) tNil))))) (tRet (tC (V.bl false))) tNext)
  (tSeq (tAsg (tCall (spAhead K C Ω) [] C8.E0 (tCons (tVar 0) (tCons (tCall (spEarly K C Ω) [] C8.E0 (tCons (tVar 0) (tCons (tVar 2) tNil))) tNil))) (gName 4))
    (tSeq (tLkS (tFor (iItems (tVar 4)) (gTup K 2 (gCons (gName 3) (gCons (gName 5) gNil))) (tIfS (tFireT K) (tRet (tC (V.bl false))) tNext))) (tRet (tC (V.bl true))))))
theorem fire_test {f w : List (Str × Int)} {x : Str} {o : Option Str} {v : Int} (h1 : δ[1]? = some (.val (.dic (dicS w D.int)))) (h2 : δ[2]? = some (.val (.dic (dicS f D.int)))) (h3 : δ[3]? = some (.val (.str x))) (h5 : δ[5]? = some (.val (optD o))) (hx : f.lookup x = some v)
    (hb : ∀ b, o = some b → (∃ u, f.lookup b = some u) ∧ ∃ u, w.lookup b = some u) :
    EvT K C Ω 0 (tFireT K) δ (· = !(match o with | none => true | some b => decide (1 ≤ valF f x - valF f b ∧ valF f x - valF f b ≤ valF w b))) := by
  have t1 : EvT K C Ω 0 (tTest (tOp tNotN (tVar 5) (tC V.non))) δ (fun b => (b = true ↔ optD o ≠ .non)) := (et_of (ev_op1 (ev_var h5) ev_non (rv_notN (K := K) (C := C) (Ω := Ω) (a := optD o)))).le (by omega)
  refine (et_and t1 (c2 := 0) (fun z => ?_) fun z => ?_).le (by omega)
  · cases o with
    | none => exact absurd rfl (z.mp rfl)
    | some b =>
      obtain ⟨⟨u, hu⟩, y, hy⟩ := hb b rfl
      have sub := (ev_op1 (K := K) (C := C) (Ω := Ω) (ev_get h2 h3 hx) (ev_get (x := b) h2 h5 hu) (rv_int (g := fun i j => i - j))).le (c := 0) (by omega)
      exact et_not ((et1 (ev_chain ev_int sub (ev_get (x := b) h1 h5 hy))).imp fun k e => by rw [e])
  · cases o with
    | none => rfl
    | some b => exact absurd (z.mpr (by intro q; cases q)) (by decide)
theorem run_is_fire (i : FI) : Run K C Ω 0 (tIsFire K C Ω) (startS 6 [i.w.h.d, .dic (dicS i.w.m D.int), .dic (dicS i.f D.int)]) (retO fun d => ∃ b, FireB i b ∧ d = .bl b) := by
  have v0 : Ev K C Ω 0 (tVar 0) (startS 6 [i.w.h.d, .dic (dicS i.w.m D.int), .dic (dicS i.f D.int)]) (· = i.w.h.d) := ev_var rfl
  have v1 : Ev K C Ω 0 (tVar 1) (startS 6 [i.w.h.d, .dic (dicS i.w.m D.int), .dic (dicS i.f D.int)]) (· = .dic (dicS i.w.m D.int)) := ev_var rfl
  have v2 : Ev K C Ω 0 (tVar 2) (startS 6 [i.w.h.d, .dic (dicS i.w.m D.int), .dic (dicS i.f D.int)]) (· = .dic (dicS i.f D.int)) := ev_var rfl
  refine (row_drop (c1 := 0) (c2 := 0) (R := (· = .non)) ((ev_callX (cc := fun _ => 0) (A := fun i : HW => [i.h.d, .dic (dicS i.m D.int)]) (Rx := fun _ d => d = .non) i.w (ea1 v0 (ea1 v1 ea_nil))).le (by omega)) ?_).le (by omega)
  have ca : Ev K C Ω 0 (tCall (spOfAll K C Ω) [] C8.E0 (tCons (tVar 0) (tCons (tVar 2) tNil))) (startS 6 [i.w.h.d, .dic (dicS i.w.m D.int), .dic (dicS i.f D.int)]) (· = .bl true) := (ev_callX (cc := fun _ => 0) (A := fun i : HM => [i.h.d, .dic (dicS i.m D.int)]) (Rx := fun _ d => d = .bl true) ⟨i.w.h, i.f, i.w.ok, i.fa⟩ (ea1 v0 (ea1 v2 ea_nil))).le (by omega)
  have cb := ev_all_rooms (K := K) (C := C) (Ω := Ω) (δ := startS 6 [i.w.h.d, .dic (dicS i.w.m D.int), .dic (dicS i.f D.int)]) (h := i.w.h) (m := i.f) (i := 0) (j := 2) (k := 3) (sp := spIsInt K C Ω) (fun _ => true) rfl (by decide) rfl (by decide) (by simp [startS]) i.w.ok i.fa
    (fun v δ' g => (ev_callX (cc := fun _ => 0) (A := fun i : Int => [.int i]) (Rx := fun _ d => d = .bl true) v (ea1 g ea_nil)).le (by omega)) fun x v hx hv => rfl
  refine (row_guard (c1 := 0) (c2 := 0) (c3 := 0) (RT := (· = false)) ((et_or (c1 := 0) (c2 := 0) (RT := (· = false)) (RU := (· = false)) (et_not (et_ofB (ca.imp fun d e => ⟨true, e, rfl⟩))) (fun _ => et_not (et_ofB (cb.imp fun d e => ⟨true, e, rfl⟩))) fun e => by cases e).le (by omega)) (fun z => by cases z) fun _ => ?_).le (by omega)
  have ce : Ev K C Ω 0 (tCall (spEarly K C Ω) [] C8.E0 (tCons (tVar 0) (tCons (tVar 2) tNil))) (startS 6 [i.w.h.d, .dic (dicS i.w.m D.int), .dic (dicS i.f D.int)]) (fun d => ∃ x, d = .str x ∧ Earliest i.w.h i.f x) :=
    (ev_callX (cc := fun _ => 0) (A := fun i : EA => [i.h.d, .dic (dicS i.f D.int)]) (Rx := fun i d => ∃ x, d = .str x ∧ Earliest i.h i.f x) ⟨i.w.h, i.f, i.w.ok, i.fa⟩ (ea1 v0 (ea1 v2 ea_nil))).le (by omega)
  have ch : Ev K C Ω 0 (tCall (spAhead K C Ω) [] C8.E0 (tCons (tVar 0) (tCons (tCall (spEarly K C Ω) [] C8.E0 (tCons (tVar 0) (tCons (tVar 2) tNil))) tNil))) (startS 6 [i.w.h.d, .dic (dicS i.w.m D.int), .dic (dicS i.f D.int)]) (fun d => ∃ x m, Earliest i.w.h i.f x ∧ Ahead i.w.h x m ∧ d = .dic (dicS m optD)) :=
    (ev_callE (Rs := fun ds => ∃ x, ds = [i.w.h.d, .str x] ∧ Earliest i.w.h i.f x) (ea_cons v0 (ea_cons (S := fun ds => ∃ x, ds = [.str x] ∧ Earliest i.w.h i.f x) ce ea_nil fun d ds ⟨x, e, er⟩ es => ⟨x, by rw [e, es], er⟩) fun d ds e ⟨x, es, er⟩ => ⟨x, by rw [e, es], er⟩) fun ds ⟨x, e, er⟩ => by
      subst e
      exact ⟨⟨i.w.h, x, i.w.ok, er.1⟩, rfl, fun d ⟨m, e, a⟩ => ⟨x, m, er, a, e⟩⟩).le (by omega)
  refine (row_asg (c1 := 0) (c2 := 0) ch fun d hd => ?_).le (by omega)
  obtain ⟨x, m, er, ah, rfl⟩ := hd
  have few := ah.few i.w.ok
  have all := ah.all i.cn er.1
  refine (run_seq (c1 := 0) (c2 := 0) (N := fun _ => burnsB i.w.m i.f m = true) ?_ fun δ' z => run_ret ev_bl fun d e => ⟨true, ⟨x, m, er, ah, z.symm⟩, e⟩).le (by omega)
  have ilen : (itemsOf (dicS m optD)).length = m.length := by
    unfold itemsOf dicS
    rw [List.length_map, List.length_map]
  refine (run_items (n := 1000) (c2 := 0) (ds := dicS m optD) (Pv := fun k δ1 => (∀ j p, j < k → m[j]? = some p → (burnsB i.w.m i.f [p]) = true) ∧ δ1.length = 6 ∧ δ1[1]? = some (.val (.dic (dicS i.w.m D.int))) ∧ δ1[2]? = some (.val (.dic (dicS i.f D.int)))) (atd_var rfl) (by rw [ilen]; exact few)
    ⟨fun j p hj => absurd hj (Nat.not_lt_zero j), by simp [startS], rfl, rfl⟩ (fun k y δ1 hy hp => ?_) fun δ1 hp => ?_).le (by omega)
  · obtain ⟨dn, len, g1, g2⟩ := hp
    unfold itemsOf dicS at hy
    rw [List.map_map, List.getElem?_map] at hy
    obtain ⟨p, hp, rfl⟩ := Option.map_eq_some_iff.mp hy
    refine ⟨_, tf_pair, ?_⟩
    have k1 : ((δ1.set 3 (.val (.str p.1))).set 5 (.val (optD p.2)))[1]? = some (.val (.dic (dicS i.w.m D.int))) := by rw [List.getElem?_set_ne (by decide), List.getElem?_set_ne (by decide)]; exact g1
    have k2 : ((δ1.set 3 (.val (.str p.1))).set 5 (.val (optD p.2)))[2]? = some (.val (.dic (dicS i.f D.int))) := by rw [List.getElem?_set_ne (by decide), List.getElem?_set_ne (by decide)]; exact g2
    have k3 : ((δ1.set 3 (.val (.str p.1))).set 5 (.val (optD p.2)))[3]? = some (.val (.str p.1)) := by rw [List.getElem?_set_ne (by decide)]; exact List.getElem?_set_self (by rw [len]; decide)
    have k5 : ((δ1.set 3 (.val (.str p.1))).set 5 (.val (optD p.2)))[5]? = some (.val (optD p.2)) := List.getElem?_set_self (by rw [List.length_set, len]; decide)
    have pin : p.1 ∈ i.w.h.rooms := ah.2.2 _ (List.mem_map.mpr ⟨p, List.mem_of_getElem? hp, rfl⟩)
    obtain ⟨v, hv⟩ := i.fa.has i.w.ok pin
    have ft := fire_test (K := K) (C := C) (Ω := Ω) k1 k2 k3 k5 hv fun b hb => by
      have lk := look_at (v := p.2) ah.1.nd hp
      rw [hb] at lk
      have bin := ah.2.2 _ (ah.1.up lk).1
      exact ⟨i.fa.has i.w.ok bin, i.w.a.has i.w.ok bin⟩
    have one : burnsB i.w.m i.f [p] = (match p.2 with | none => true | some b => decide (1 ≤ valF i.f p.1 - valF i.f b ∧ valF i.f p.1 - valF i.f b ≤ valF i.w.m b)) := by
      unfold burnsB
      rw [List.all_cons, List.all_nil, Bool.and_true]
    rw [← one] at ft
    refine (run_if ft (c2 := 0) (c3 := 0) (fun z => run_ret ev_bl fun d e => ⟨false, ⟨x, m, er, ah, ?_⟩, e⟩) fun z => run_next ⟨fun j q hj hq => ?_, by rw [List.length_set, List.length_set]; exact len, k1, k2⟩).le (by omega)
    · have z2 : burnsB i.w.m i.f [p] = false := by
        cases q : burnsB i.w.m i.f [p] with
        | false => rfl
        | true =>
          rw [q] at z
          cases z
      cases q : burnsB i.w.m i.f m with
      | false => rfl
      | true =>
        have := List.all_eq_true.mp q p (List.mem_of_getElem? hp)
        rw [one, this] at z2
        cases z2
    · rcases Nat.lt_or_ge j k with c | c
      · exact dn j q c hq
      · have : j = k := by omega
        rw [this, hp] at hq
        cases hq
        cases w : burnsB i.w.m i.f [p] with
        | true => rfl
        | false =>
          rw [w] at z
          cases z
  · obtain ⟨dn, _⟩ := hp
    rw [ilen] at dn
    refine List.all_eq_true.mpr fun p hp => ?_
    obtain ⟨j, hj⟩ := List.getElem?_of_mem hp
    have := dn j p (List.getElem?_eq_some_iff.mp hj).1 hj
    unfold burnsB at this
    rw [List.all_cons, List.all_nil, Bool.and_true] at this
    exact this
end
end Z
set_option maxRecDepth 100000
set_option maxHeartbeats 1000000
set_option linter.all false
namespace Z
open PySem PySem.Spec
open PyProof.Rows L2 LamX
/-! the first room of a fire, from where rooms were lit -/
/-- a fire that is one -/
structure FT extends FI where
  is : ∀ b, FireB toFI b → b = true
section
variable {K : PySem.W.Frag} {C : Addr} {Ω : List (Addr × Str)} {δ : List Sl}
def FT.ds (i : FT) : List D := [i.w.h.d, .dic (dicS i.w.m D.int), .dic (dicS i.f D.int)]
abbrev spNeedFire (K : PySem.W.Frag) (C : Addr) (Ω : List (Addr × Str)) : Sp := SpX K C Ω (fun _ => 0) FT.ds fun _ d => d = .non
theorem run_need_fire (i : FT) : Run K C Ω 0 (tIfS (tNot (tB (tCall (spIsFire K C Ω) [] C8.E0 (tCons (tVar 0) (tCons (tVar 1) (tCons (tVar 2) tNil)))))) tNever tNext) (startS 3 i.ds) (retO (· = .non)) := by
  have v0 : Ev K C Ω 0 (tVar 0) (startS 3 i.ds) (· = i.w.h.d) := ev_var rfl
  have v1 : Ev K C Ω 0 (tVar 1) (startS 3 i.ds) (· = .dic (dicS i.w.m D.int)) := ev_var rfl
  have v2 : Ev K C Ω 0 (tVar 2) (startS 3 i.ds) (· = .dic (dicS i.f D.int)) := ev_var rfl
  have c1 : Ev K C Ω 0 (tCall (spIsFire K C Ω) [] C8.E0 (tCons (tVar 0) (tCons (tVar 1) (tCons (tVar 2) tNil)))) (startS 3 i.ds) (· = .bl true) :=
    ((ev_callX (cc := fun _ => 0) (A := fun i : FI => [i.w.h.d, .dic (dicS i.w.m D.int), .dic (dicS i.f D.int)]) (Rx := fun i d => ∃ b, FireB i b ∧ d = .bl b) i.toFI (ea1 v0 (ea1 v1 (ea1 v2 ea_nil)))).imp fun d ⟨b, fb, e⟩ => by rw [e, i.is b fb]).le (by omega)
  exact (run_if (O := retO (· = .non)) (RT := (· = false)) (et_not (et_ofB (c1.imp fun d r => ⟨true, r, rfl⟩))) (c2 := 0) (c3 := 0) (fun z => by cases z) fun _ => run_next (show (D.non : D) = .non from rfl)).le (by omega)
abbrev spFirstOf (K : PySem.W.Frag) (C : Addr) (Ω : List (Addr × Str)) : Sp := SpX K C Ω (fun _ => 0) FT.ds fun i d => ∃ x, d = .str x ∧ Earliest i.w.h i.f x
theorem run_first_of (i : FT) : Run K C Ω 0 (tSeq (tDrop (tCall (spNeedFire K C Ω) [] C8.E0 (tCons (tVar 0) (tCons (tVar 1) (tCons (tVar 2) tNil))))) (tRet (tCall (spEarly K C Ω) [] C8.E0 (tCons (tVar 0) (tCons (tVar 2) tNil))))) (startS 3 i.ds) (retO fun d => ∃ x, d = .str x ∧ Earliest i.w.h i.f x) := by
  have v0 : Ev K C Ω 0 (tVar 0) (startS 3 i.ds) (· = i.w.h.d) := ev_var rfl
  have v1 : Ev K C Ω 0 (tVar 1) (startS 3 i.ds) (· = .dic (dicS i.w.m D.int)) := ev_var rfl
  have v2 : Ev K C Ω 0 (tVar 2) (startS 3 i.ds) (· = .dic (dicS i.f D.int)) := ev_var rfl
  refine (row_drop (c1 := 0) (c2 := 0) (R := (· = .non)) ((ev_callX (cc := fun _ => 0) (A := FT.ds) (Rx := fun _ d => d = .non) i (ea1 v0 (ea1 v1 (ea1 v2 ea_nil)))).le (by omega)) ?_).le (by omega)
  exact run_ret ((ev_callX (cc := fun _ => 0) (A := fun i : EA => [i.h.d, .dic (dicS i.f D.int)]) (Rx := fun i d => ∃ x, d = .str x ∧ Earliest i.h i.f x) ⟨i.w.h, i.f, i.w.ok, i.fa⟩ (ea1 v0 (ea1 v2 ea_nil))).le (by omega)) fun d e => e
end
/-! a dict told ascending -/
def listD : List V → Hp → VK → Prop := fun xs H Q => ∃ (a : Addr) (kvs : List (Key × V)), xs = [V.ref a] ∧ Rd H a (HO.dK kvs) ∧ ∀ p : Addr, H p = none → Q (V.ref p) (upd H p (HO.lst (kvs.map fun kv => kV kv.1)))
def tAsc (K : PySem.W.Frag) : TS := tRet (tDc (iList K (tCB (rSortedS K) (tCons (tCB listD (tCons (tVar 0) tNil)) tNil))) (gName 1) tYes (tVar 1) (tDGet (tVar 0) (tVar 1)) [1])
/-- m told by its keys ascending -/
def AscOf {α : Type} (m m' : List (Str × α)) : Prop := m'.map (·.1) = ssort (m.map (·.1)) ∧ ∀ p ∈ m', m.lookup p.1 = some p.2
section
variable {K : PySem.W.Frag} {C : Addr} {Ω : List (Addr × Str)} {δ : List Sl}
theorem run_asc {α : Type} {g : α → D} {m : List (Str × α)} (nd : (m.map (·.1)).Nodup) (few : m.length < 64) : Run K C Ω 0 (tAsc K) (startS 2 [.dic (dicS m g)]) (retO fun d => ∃ m', AscOf m m' ∧ d = .dic (dicS m' g)) := by
  have e0 : (startS 2 [.dic (dicS m g)])[0]? = some (.val (.dic (dicS m g))) := rfl
  have ks : keysOf (dicS m g) = (m.map (·.1)).map D.str := by
    unfold keysOf dicS
    rw [List.map_map, List.map_map]
    rfl
  have pm := ssort_perm (m.map (·.1))
  have nd2 : (ssort (m.map (·.1))).Nodup := pm.nodup_iff.mpr nd
  have len : (ssort (m.map (·.1))).length = m.length := by rw [pm.length_eq, List.length_map]
  have l1 : Ev K C Ω 0 (tCB listD (tCons (tVar 0) tNil)) (startS 2 [.dic (dicS m g)]) (· = .lst ((m.map (·.1)).map D.str)) := ev_l (el_cb (ea1 (ev_var e0) ea_nil) fun ds e => by
    subst e
    have r := rl_list_d (K := K) (C := C) (Ω := Ω) (ds := dicS m g)
    rw [ks] at r
    exact r)
  have l2 : Ev K C Ω 0 (tCB (rSortedS K) (tCons (tCB listD (tCons (tVar 0) tNil)) tNil)) (startS 2 [.dic (dicS m g)]) (· = .lst ((ssort (m.map (·.1))).map D.str)) := ev_l (el_cb (Rs := (· = [.lst ((m.map (·.1)).map D.str)])) (ea1 l1 ea_nil) fun ds e => by
    subst e
    exact rl_sortS (by rw [List.length_map]; exact few))
  have dc := ed_dc (K := K) (C := C) (Ω := Ω) (n := 64) (vs := [1]) (g := gName 1) (tk := tVar 1) (tv := tDGet (tVar 0) (tVar 1)) (Pd := fun i acc => ∃ m', acc = dicS m' g ∧ m'.map (·.1) = (ssort (m.map (·.1))).take i ∧ ∀ p ∈ m', m.lookup p.1 = some p.2) (it_list1 l2) (by rw [List.length_map, len]; omega) (by decide) ⟨[], rfl, rfl, fun p hp => absurd hp (by simp)⟩ fun i x acc hx hp => by
    obtain ⟨m', rfl, km, lm⟩ := hp
    rw [List.getElem?_map] at hx
    obtain ⟨y, hy, rfl⟩ := Option.map_eq_some_iff.mp hx
    have lt := (List.getElem?_eq_some_iff.mp hy).1
    have ym : y ∈ m.map (·.1) := pm.mem_iff.mp (List.mem_of_getElem? hy)
    obtain ⟨v, hv⟩ := Option.isSome_iff_exists.mp (look_mem.mpr ym)
    have ny : y ∉ m'.map (·.1) := fun q => by
      rw [km] at q
      obtain ⟨j, hj⟩ := List.getElem?_of_mem q
      have lj := (List.getElem?_eq_some_iff.mp hj).1
      rw [List.length_take] at lj
      rw [List.getElem?_take_of_lt (by omega)] at hj
      have := (List.getElem?_inj (by omega) nd2).mp (hj.trans hy.symm)
      omega
    refine ⟨?_, _, tg_name (.inr (by simp)) (by simp), .str y, Sum.inr y, rfl, ev_var (i := 1) rfl, ?_⟩
    · have := congrArg List.length km
      rw [List.length_map, List.length_take] at this
      unfold dicS
      rw [List.length_map]
      omega
    · refine (ev_dget (k := Sum.inr y) (d := g v) (ev_var (i := 0) (d := .dic (dicS m g)) rfl) (ev_var (i := 1) (d := .str y) rfl) rfl (by rw [look_dicS, hv]; rfl)).imp fun d e => ?_
      subst e
      refine ⟨m' ++ [(y, v)], by rw [put_dicS, put_new ny], ?_, fun p hp => ?_⟩
      · rw [List.map_append, km, List.take_add_one, hy]
        rfl
      · rcases List.mem_append.mp hp with z | z
        · exact lm p z
        · rw [List.mem_singleton.mp z]
          exact hv
  refine run_ret (ev_of_d dc) fun d hd => ?_
  obtain ⟨xs, rfl, m', rfl, km, lm⟩ := hd
  rw [List.length_map, List.take_length] at km
  exact ⟨m', ⟨km, lm⟩, rfl⟩
structure AC where
  m : List (Str × Option Str)
  nd : (m.map (·.1)).Nodup
  few : m.length < 64
structure FT6 extends FT where
  few : w.h.rooms.length < 64
abbrev spAsc (K : PySem.W.Frag) (C : Addr) (Ω : List (Addr × Str)) : Sp := SpX K C Ω (fun _ => 0) (fun i : AC => [.dic (dicS i.m optD)]) fun i d => ∃ m', AscOf i.m m' ∧ d = .dic (dicS m' optD)
def FromsOf (h : Hs) (f : List (Str × Int)) (m' : List (Str × Option Str)) : Prop := ∃ x m, Earliest h f x ∧ Ahead h x m ∧ AscOf m m'
abbrev spLitFrom (K : PySem.W.Frag) (C : Addr) (Ω : List (Addr × Str)) : Sp := SpX K C Ω (fun _ => 0) (fun i : FT6 => i.ds) fun i d => ∃ m', FromsOf i.w.h i.f m' ∧ d = .dic (dicS m' optD)
theorem run_lit_from (i : FT6) : Run K C Ω 0 (tSeq (tDrop (tCall (spNeedFire K C Ω) [] C8.E0 (tCons (tVar 0) (tCons (tVar 1) (tCons (tVar 2) tNil)))))
    (tRet (tCall (spAsc K C Ω) [] C8.E0 (tCons (tCall (spAhead K C Ω) [] C8.E0 (tCons (tVar 0) (tCons (tCall (spEarly K C Ω) [] C8.E0 (tCons (tVar 0) (tCons (tVar 2) tNil))) tNil))) tNil)))) (startS 3 i.ds) (retO fun d => ∃ m', FromsOf i.w.h i.f m' ∧ d = .dic (dicS m' optD)) := by
  have v0 : Ev K C Ω 0 (tVar 0) (startS 3 i.ds) (· = i.w.h.d) := ev_var rfl
  have v1 : Ev K C Ω 0 (tVar 1) (startS 3 i.ds) (· = .dic (dicS i.w.m D.int)) := ev_var rfl
  have v2 : Ev K C Ω 0 (tVar 2) (startS 3 i.ds) (· = .dic (dicS i.f D.int)) := ev_var rfl
  refine (row_drop (c1 := 0) (c2 := 0) (R := (· = .non)) ((ev_callX (cc := fun _ => 0) (A := FT.ds) (Rx := fun _ d => d = .non) i.toFT (ea1 v0 (ea1 v1 (ea1 v2 ea_nil)))).le (by omega)) ?_).le (by omega)
  have ce : Ev K C Ω 0 (tCall (spEarly K C Ω) [] C8.E0 (tCons (tVar 0) (tCons (tVar 2) tNil))) (startS 3 i.ds) (fun d => ∃ x, d = .str x ∧ Earliest i.w.h i.f x) :=
    (ev_callX (cc := fun _ => 0) (A := fun i : EA => [i.h.d, .dic (dicS i.f D.int)]) (Rx := fun i d => ∃ x, d = .str x ∧ Earliest i.h i.f x) ⟨i.w.h, i.f, i.w.ok, i.fa⟩ (ea1 v0 (ea1 v2 ea_nil))).le (by omega)
  have ch : Ev K C Ω 0 (tCall (spAhead K C Ω) [] C8.E0 (tCons (tVar 0) (tCons (tCall (spEarly K C Ω) [] C8.E0 (tCons (tVar 0) (tCons (tVar 2) tNil))) tNil))) (startS 3 i.ds) (fun d => ∃ x m, Earliest i.w.h i.f x ∧ Ahead i.w.h x m ∧ d = .dic (dicS m optD)) :=
    (ev_callE (Rs := fun ds => ∃ x, ds = [i.w.h.d, .str x] ∧ Earliest i.w.h i.f x) (ea_cons v0 (ea_cons (S := fun ds => ∃ x, ds = [.str x] ∧ Earliest i.w.h i.f x) ce ea_nil fun d ds ⟨x, e, er⟩ es => ⟨x, by rw [e, es], er⟩) fun d ds e ⟨x, es, er⟩ => ⟨x, by rw [e, es], er⟩) fun ds ⟨x, e, er⟩ => by
      subst e
      exact ⟨⟨i.w.h, x, i.w.ok, er.1⟩, rfl, fun d ⟨m, e, a⟩ => ⟨x, m, er, a, e⟩⟩).le (by omega)
  refine run_ret (R := fun d => ∃ m', FromsOf i.w.h i.f m' ∧ d = .dic (dicS m' optD)) ((ev_callE (Rs := fun ds => ∃ x m, Earliest i.w.h i.f x ∧ Ahead i.w.h x m ∧ ds = [.dic (dicS m optD)]) (ea_cons ch ea_nil fun d ds ⟨x, m, a, b, e⟩ es => ⟨x, m, a, b, by rw [e, es]⟩) fun ds ⟨x, m, er, ah, e⟩ => ?_).le (by omega)) fun d e => e
  subst e
  have len := pigeon ah.1.nd ah.2.2
  rw [List.length_map] at len
  exact ⟨⟨m, ah.1.nd, Nat.lt_of_le_of_lt len i.few⟩, rfl, fun d ⟨m', a, e⟩ => ⟨m', ⟨x, m, er, ah, a⟩, e⟩⟩
end
end Z
set_option maxRecDepth 100000
set_option maxHeartbeats 1000000
set_option linter.all false
namespace Z
open PySem PySem.Spec
open PyProof.Rows L2 LamX
/-! the law's own walks over doors -/
def besides (ds : List (Str × Str)) (r : Str) : List Str := ssort ((ds.filter fun p => decide (p.1 = r)).map (·.2) ++ (ds.filter fun p => decide (p.2 = r)).map (·.1))
def prD2 (p : Str × Str) : D := .tup [.str p.1, .str p.2]
section
variable {K : PySem.W.Frag} {C : Addr} {Ω : List (Addr × Str)} {δ : List Sl}
theorem ev_eqS {ta tb : TE} {x y : Str} (ha : Ev K C Ω 0 ta δ (· = .str x)) (hb : Ev K C Ω 0 tb δ (· = .str y)) : Ev K C Ω 0 (tOp rEq ta tb) δ (· = .bl (decide (x = y))) :=
  ((ev_op1 ha hb (rv_eq rfl rfl rfl)).imp fun d e => by
    rw [e]
    congr 1
    exact decide_eq_decide.mpr ⟨fun q => by cases q; rfl, fun q => by rw [q]⟩).le (by omega)
theorem ev_neS {ta tb : TE} {x y : Str} (ha : Ev K C Ω 0 ta δ (· = .str x)) (hb : Ev K C Ω 0 tb δ (· = .str y)) : Ev K C Ω 0 (tOp rNe ta tb) δ (· = .bl (!decide (x = y))) :=
  ((ev_op1 ha hb (rv_ne rfl rfl rfl)).imp fun d e => by
    rw [e]
    congr 2
    exact decide_eq_decide.mpr ⟨fun q => by cases q; rfl, fun q => by rw [q]⟩).le (by omega)
/-- [b for a, b in doors if a == room], and the other way -/
theorem el_sides {i j a b : Nat} {ds : List (Str × Str)} {r : Str} (h0 : δ[i]? = some (.val (prsD ds))) (h1 : δ[j]? = some (.val (.str r))) (few : ds.length ≤ 1000) (ia : j ≠ a) (ib : j ≠ b) (ab : a ≠ b) (la : a < δ.length) (lb : b < δ.length) (fl : Bool) :
    EvL K C Ω 0 (tLc (iList K (tVar i)) (gTup K 2 (gCons (gName a) (gCons (gName b) gNil))) (tTest (tOp rEq (tVar (if fl then a else b)) (tVar j))) (tVar (if fl then b else a)) [a, b]) δ
      (· = ((ds.filter fun p => decide ((if fl then p.1 else p.2) = r)).map fun p => D.str (if fl then p.2 else p.1))) := by
  have el := el_filter (K := K) (C := C) (Ω := Ω) (δ := δ) (n := 1000) (vs := [a, b]) (g := gTup K 2 (gCons (gName a) (gCons (gName b) gNil))) (tt := tTest (tOp rEq (tVar (if fl then a else b)) (tVar j))) (te := tVar (if fl then b else a)) (xs := ds.map prD2)
    (p := fun d => match d with
      | .tup [.str x, .str y] => decide ((if fl then x else y) = r)
      | _ => false)
    (f := fun d => match d with
      | .tup [x, y] => if fl then y else x
      | _ => .non) (it_list1 (ev_var h0)) (by rw [List.length_map]; exact few) (by decide) fun d hd => by
      obtain ⟨p, hp, rfl⟩ := List.mem_map.mp hd
      refine ⟨_, tg_pair (by simp) (by simp), ?_, fun _ => ?_⟩
      · have w : ∀ {n : Nat}, n ≠ a → n ≠ b → (((wipeS δ [a, b]).set a (.val (.str p.1))).set b (.val (.str p.2)))[n]? = δ[n]? := fun {n} na nb => by
          rw [List.getElem?_set_ne (Ne.symm nb), List.getElem?_set_ne (Ne.symm na)]
          show ((δ.set b .un).set a .un)[n]? = δ[n]?
          rw [List.getElem?_set_ne (Ne.symm na), List.getElem?_set_ne (Ne.symm nb)]
        have e1 := (w ia ib).trans h1
        have lw : (wipeS δ [a, b]).length = δ.length := by
          show ((δ.set b .un).set a .un).length = δ.length
          rw [List.length_set, List.length_set]
        cases fl with
        | true =>
          have e2 : (((wipeS δ [a, b]).set a (.val (.str p.1))).set b (.val (.str p.2)))[a]? = some (.val (.str p.1)) := by
            rw [List.getElem?_set_ne (Ne.symm ab)]
            exact List.getElem?_set_self (by rw [lw]; exact la)
          exact et1 (ev_eqS (ev_var e2) (ev_var e1))
        | false =>
          have e2 : (((wipeS δ [a, b]).set a (.val (.str p.1))).set b (.val (.str p.2)))[b]? = some (.val (.str p.2)) := List.getElem?_set_self (by rw [List.length_set, lw]; exact lb)
          exact et1 (ev_eqS (ev_var e2) (ev_var e1))
      · have lw : (wipeS δ [a, b]).length = δ.length := by
          show ((δ.set b .un).set a .un).length = δ.length
          rw [List.length_set, List.length_set]
        cases fl with
        | true =>
          refine ev_var ?_
          exact List.getElem?_set_self (by rw [List.length_set, lw]; exact lb)
        | false =>
          refine ev_var ?_
          show (((wipeS δ [a, b]).set a (.val (.str p.1))).set b (.val (.str p.2)))[a]? = some (.val (.str p.1))
          rw [List.getElem?_set_ne (Ne.symm ab)]
          exact List.getElem?_set_self (by rw [lw]; exact la)
  refine (el.imp fun xs e => ?_).le (by omega)
  rw [e, List.filter_map, List.map_map]
  cases fl <;> rfl
def tBeside (K : PySem.W.Frag) : TS := tSeq (tAsg (tOp rCat
    (tLc (iList K (tVar 0)) (gTup K 2 (gCons (gName 3) (gCons (gName 4) gNil))) (tTest (tOp rEq (tVar 3) (tVar 1))) (tVar 4) [3, 4])
    (tLc (iList K (tVar 0)) (gTup K 2 (gCons (gName 3) (gCons (gName 4) gNil))) (tTest (tOp rEq (tVar 4) (tVar 1))) (tVar 3) [3, 4])) (gName 2))
  (tRet (tCB (rSortedS K) (tCons (tVar 2) tNil)))
structure BE where
  ds : List (Str × Str)
  r : Str
  few : ds.length ≤ 30
abbrev spBeside (K : PySem.W.Frag) (C : Addr) (Ω : List (Addr × Str)) : Sp := SpX K C Ω (fun _ => 0) (fun i : BE => [prsD i.ds, .str i.r]) fun i d => d = strsD (besides i.ds i.r)
theorem run_beside (i : BE) : Run K C Ω 0 (tBeside K) (startS 5 [prsD i.ds, .str i.r]) (retO (· = strsD (besides i.ds i.r))) := by
  have few := i.few
  have l1 := el_sides (K := K) (C := C) (Ω := Ω) (δ := startS 5 [prsD i.ds, .str i.r]) (i := 0) (j := 1) (a := 3) (b := 4) (ds := i.ds) (r := i.r) rfl rfl (by omega) (by decide) (by decide) (by decide) (by simp [startS]) (by simp [startS]) true
  have l2 := el_sides (K := K) (C := C) (Ω := Ω) (δ := startS 5 [prsD i.ds, .str i.r]) (i := 0) (j := 1) (a := 3) (b := 4) (ds := i.ds) (r := i.r) rfl rfl (by omega) (by decide) (by decide) (by decide) (by simp [startS]) (by simp [startS]) false
  have n1 : ((i.ds.filter fun p => decide (p.1 = i.r)).map fun p => D.str p.2).length ≤ 30 := by
    rw [List.length_map]
    exact Nat.le_trans (List.length_filter_le _ _) few
  have n2 : ((i.ds.filter fun p => decide (p.2 = i.r)).map fun p => D.str p.1).length ≤ 30 := by
    rw [List.length_map]
    exact Nat.le_trans (List.length_filter_le _ _) few
  have big : 60 ≤ sizeLine := by decide
  refine (row_asg1 (c1 := 0) (c2 := 0) (d := .lst (((i.ds.filter fun p => decide (p.1 = i.r)).map (·.2) ++ (i.ds.filter fun p => decide (p.2 = i.r)).map (·.1)).map D.str)) ((ev_l ((rl_cat (ev_l l1) (ev_l l2) (by simp only [if_true, Bool.false_eq_true, if_false]; omega)).imp fun xs e => ?_)).le (by omega)) ?_).le (by omega)
  · rw [e, List.map_append, List.map_map, List.map_map]
    rfl
  · refine run_ret (ev_l (el_cb (ea1 (ev_var (i := 2) rfl) ea_nil) fun ds e => ?_)) fun d e => e
    subst e
    refine rl_sortS ?_
    rw [List.length_append, List.length_map, List.length_map]
    rw [List.length_map] at n1 n2
    omega
end
end Z
set_option maxRecDepth 100000
set_option maxHeartbeats 1000000
set_option linter.all false
namespace Z
open PySem PySem.Spec
open PyProof.Rows L2 LamX
/-! more of the law's own defs -/
section
variable {K : PySem.W.Frag} {C : Addr} {Ω : List (Addr × Str)} {δ : List Sl}
def tHFrom (K : PySem.W.Frag) (C : Addr) (Ω : List (Addr × Str)) : TS := tRet (tLc (iList K (tCall (spBeside K C Ω) [] C8.E0 (tCons (tVar 0) (tCons (tVar 2) tNil)))) (gName 3) (tB (tDIn (tVar 3) (tVar 1))) (tVar 3) [3])
structure HFr extends BE where
  f : List (Str × Int)
def fromsL (ds : List (Str × Str)) (f : List (Str × Int)) (r : Str) : List Str := (besides ds r).filter fun x => (f.lookup x).isSome
abbrev spHFrom (K : PySem.W.Frag) (C : Addr) (Ω : List (Addr × Str)) : Sp := SpX K C Ω (fun _ => 0) (fun i : HFr => [prsD i.ds, .dic (dicS i.f D.int), .str i.r]) fun i d => d = strsD (fromsL i.ds i.f i.r)
theorem besides_len (ds : List (Str × Str)) (r : Str) : (besides ds r).length ≤ ds.length + ds.length := by
  unfold besides
  rw [(ssort_perm _).length_eq, List.length_append, List.length_map, List.length_map]
  exact Nat.add_le_add (List.length_filter_le _ _) (List.length_filter_le _ _)
theorem ev_beside {i j : Nat} {b : BE} (h0 : δ[i]? = some (.val (prsD b.ds))) (h1 : δ[j]? = some (.val (.str b.r))) : Ev K C Ω 0 (tCall (spBeside K C Ω) [] C8.E0 (tCons (tVar i) (tCons (tVar j) tNil))) δ (· = strsD (besides b.ds b.r)) :=
  (ev_callX (cc := fun _ => 0) (A := fun i : BE => [prsD i.ds, .str i.r]) (Rx := fun i d => d = strsD (besides i.ds i.r)) b (ea1 (ev_var h0) (ea1 (ev_var h1) ea_nil))).le (by omega)
theorem run_hfrom (i : HFr) : Run K C Ω 0 (tHFrom K C Ω) (startS 4 [prsD i.ds, .dic (dicS i.f D.int), .str i.r]) (retO (· = strsD (fromsL i.ds i.f i.r))) := by
  have few := i.few
  have bl := besides_len i.ds i.r
  have el := el_filter (K := K) (C := C) (Ω := Ω) (δ := startS 4 [prsD i.ds, .dic (dicS i.f D.int), .str i.r]) (n := 1000) (vs := [3]) (g := gName 3) (tt := tB (tDIn (tVar 3) (tVar 1))) (te := tVar 3) (xs := (besides i.ds i.r).map D.str)
    (p := fun d => match d with
      | .str x => (i.f.lookup x).isSome
      | _ => false) (f := fun d => d) (it_list1 (ev_beside (i := 0) (j := 2) (b := i.toBE) rfl rfl)) (by rw [List.length_map]; omega) (by decide) fun d hd => by
      obtain ⟨x, hx, rfl⟩ := List.mem_map.mp hd
      refine ⟨_, tg_name (.inr (by simp)) (by simp), ?_, fun _ => ev_var (i := 3) rfl⟩
      have ev := ev_din (K := K) (C := C) (Ω := Ω) (δ := (wipeS (startS 4 [prsD i.ds, .dic (dicS i.f D.int), .str i.r]) [3]).set 3 (.val (.str x))) (k := Sum.inr x) (ev_var (i := 3) (d := .str x) rfl) (ev_var (i := 1) (d := .dic (dicS i.f D.int)) rfl) rfl
      rw [has_dicS] at ev
      exact (et1B ev).le (by omega)
  refine run_ret ((ev_l el).imp fun d e => ?_) fun d e => e
  rw [e, List.filter_map, List.map_map]
  unfold fromsL strsD
  rfl
/-! x in xs, ints -/
theorem rv_in_ints {neg : Bool} {x : Int} {xs : List Int} : RV K C Ω (rIn K neg) (.int x) (.lst (xs.map D.int)) (· = .bl (if neg then !(decide (x ∈ xs)) else decide (x ∈ xs))) := fun W F G H v w o da db Q q => by
  cases da
  cases db with
  | lst b1 b2 =>
    have e := b2.ints
    subst e
    have fl : ∀ zs : List Int, (zs.map V.int).all flatV = true := fun zs => by
      rw [List.all_eq_true]
      intro y hy
      obtain ⟨z, _, rfl⟩ := List.mem_map.mp hy
      rfl
    have hin : inV (.int x) (xs.map V.int) = decide (x ∈ xs) := by
      rw [Bool.eq_iff_iff, decide_eq_true_eq]
      unfold inV
      rw [List.any_map, List.any_eq_true]
      constructor
      · rintro ⟨y, hy, e⟩
        have e2 : (y == x) = true := e
        rw [← eq_of_beq e2]
        exact hy
      · intro h
        exact ⟨x, h, (beq_self_eq_true x : (x == x) = true)⟩
    exact ⟨_, _, rfl, .inl (.inl (.inl (o.gh _ _ b1))), rfl, fl xs, q _ G H _ o.refl (.bl _) (by rw [hin])⟩
/-! each once -/
def onceF (acc : List Int) (x : Int) : List Int := if x ∈ acc then acc else acc ++ [x]
def onces (xs : List Int) : List Int := xs.foldl onceF []
theorem once_mem : ∀ {xs acc : List Int} {y : Int}, y ∈ xs.foldl onceF acc ↔ y ∈ acc ∨ y ∈ xs
  | [], acc, y => by simp
  | x :: r, acc, y => by
    rw [List.foldl_cons, once_mem, List.mem_cons]
    unfold onceF
    by_cases h : x ∈ acc
    · rw [if_pos h]
      exact ⟨fun z => z.elim .inl (fun w => .inr (.inr w)), fun z => z.elim .inl (fun w => w.elim (fun e => .inl (e ▸ h)) .inr)⟩
    · rw [if_neg h, List.mem_append, List.mem_singleton]
      exact ⟨fun z => z.elim (fun w => w.elim .inl (fun e => .inr (.inl e))) (fun w => .inr (.inr w)), fun z => z.elim (fun w => .inl (.inl w)) (fun w => w.elim (fun e => .inl (.inr e)) .inr)⟩
theorem once_nd : ∀ {xs acc : List Int}, acc.Nodup → (xs.foldl onceF acc).Nodup
  | [], acc, h => h
  | x :: r, acc, h => by
    rw [List.foldl_cons]
    refine once_nd ?_
    unfold onceF
    by_cases q : x ∈ acc
    · rw [if_pos q]
      exact h
    · rw [if_neg q, List.nodup_append]
      exact ⟨h, by simp, fun a ha b hb e => q (by rw [← List.mem_singleton.mp hb, ← e]; exact ha)⟩
theorem once_len : ∀ {xs acc : List Int}, (xs.foldl onceF acc).length ≤ acc.length + xs.length
  | [], acc => Nat.le_refl _
  | x :: r, acc => by
    rw [List.foldl_cons]
    refine Nat.le_trans once_len ?_
    unfold onceF
    by_cases q : x ∈ acc
    · rw [if_pos q, List.length_cons]
      omega
    · rw [if_neg q, List.length_append, List.length_cons]
      simp
      omega
def tOnce (K : PySem.W.Frag) : TS := tSeq (tAsg (tLst tNil) (gName 1)) (tSeq (tFor (iList K (tVar 0)) (gName 2)
  (tIfS (tTest (tOp (rIn K true) (tVar 2) (tVar 1))) (tDrop (tBM K "list" rAppend (tVar 1) (tCons (tVar 2) tNil))) tNext)) (tRet (tVar 1)))
structure ON where
  xs : List Int
  few : xs.length ≤ 100000
abbrev spOnce (K : PySem.W.Frag) (C : Addr) (Ω : List (Addr × Str)) : Sp := SpX K C Ω (fun _ => 0) (fun i : ON => [.lst (i.xs.map D.int)]) fun i d => d = .lst ((onces i.xs).map D.int)
theorem run_once (i : ON) : Run K C Ω 0 (tOnce K) (startS 3 [.lst (i.xs.map D.int)]) (retO (· = .lst ((onces i.xs).map D.int))) := by
  have few := i.few
  have big : (100000 : Nat) < sizeLine := by decide
  refine (row_asgL (c1 := 0) (c2 := 0) ((el_lst (Rs := (· = [])) ea_nil fun ds e => by rw [e]; exact Nat.zero_le _).le (by omega)) fun xs e => ?_).le (by omega)
  subst e
  refine (run_seq (c1 := 0) (c2 := 0) (N := fun δ' => δ'[1]? = some (.oL ((onces i.xs).map D.int))) ((run_for (n := 100000) (c2 := 0) (RL := (· = i.xs.map D.int)) (Pv := fun _ k δ1 => δ1.length = 3 ∧ δ1[1]? = some (.oL (((i.xs.take k).foldl onceF []).map D.int))) (it_list1 (ev_var (i := 0) rfl)) (fun xs e => by rw [e, List.length_map]; exact few)
    (fun xs e => ⟨by simp [startS], rfl⟩) (fun xs k x δ1 e hx hp => ?_) fun xs δ1 e hp => ?_).le (by omega)) fun δ' h1 => ?_).le (by omega)
  · subst e
    obtain ⟨len, h1⟩ := hp
    rw [List.getElem?_map] at hx
    obtain ⟨y, hy, rfl⟩ := Option.map_eq_some_iff.mp hx
    refine ⟨_, tf_name, ?_⟩
    have g1 : (δ1.set 2 (.val (.int y)))[1]? = some (.oL (((i.xs.take k).foldl onceF []).map D.int)) := by rw [List.getElem?_set_ne (by decide)]; exact h1
    have g2 : (δ1.set 2 (.val (.int y)))[2]? = some (.val (.int y)) := List.getElem?_set_self (by rw [len]; decide)
    have gl : (δ1.set 2 (.val (.int y))).length = 3 := by rw [List.length_set]; exact len
    generalize δ1.set 2 (.val (.int y)) = δ2 at g1 g2 gl ⊢
    have step : (i.xs.take (k + 1)).foldl onceF [] = onceF ((i.xs.take k).foldl onceF []) y := by
      rw [List.take_add_one, hy, List.foldl_append]
      rfl
    have ct : EvT K C Ω 0 (tTest (tOp (rIn K true) (tVar 2) (tVar 1))) δ2 (· = !decide (y ∈ (i.xs.take k).foldl onceF [])) := by
      refine et_peek g1 rfl ?_
      have e2 : (δ2.set 1 (.val (Sl.oL (((i.xs.take k).foldl onceF []).map D.int)).thing))[2]? = some (.val (.int y)) := by rw [List.getElem?_set_ne (by decide)]; exact g2
      have e1 : (δ2.set 1 (.val (Sl.oL (((i.xs.take k).foldl onceF []).map D.int)).thing))[1]? = some (.val (.lst (((i.xs.take k).foldl onceF []).map D.int))) := by
        rw [List.getElem?_set_self (by rw [gl]; decide)]
        rfl
      exact (et1 (ev_op1 (ev_var e2) (ev_var e1) (rv_in_ints (neg := true)))).le (by omega)
    refine (run_if ct (c2 := 0) (c3 := 0) (fun z => ?_) fun z => run_next ⟨gl, ?_⟩).le (by omega)
    · have ny : y ∉ (i.xs.take k).foldl onceF [] := fun q => by
        rw [decide_eq_true q] at z
        cases z
      have ol := once_len (xs := i.xs.take k) (acc := [])
      rw [List.length_take] at ol
      refine run_app g1 (by rw [List.length_map]; simp at ol; omega) (ev_var g2) fun d e => ⟨by rw [List.length_set]; exact gl, ?_⟩
      rw [e, List.getElem?_set_self (by rw [gl]; decide), step]
      unfold onceF
      rw [if_neg (by exact ny), List.map_append]
      rfl
    · have yy : y ∈ (i.xs.take k).foldl onceF [] := by
        apply Classical.byContradiction
        intro q
        rw [decide_eq_false q] at z
        cases z
      rw [step, onceF, if_pos yy]
      exact g1
  · subst e
    obtain ⟨len, h1⟩ := hp
    show δ1[1]? = _
    rw [h1, List.length_map, List.take_length]
    rfl
  · refine run_keep h1 rfl (run_ret (ev_var (i := 1) (d := .lst ((onces i.xs).map D.int)) ?_) fun d e => e)
    rw [List.getElem?_set_self (List.getElem?_eq_some_iff.mp h1).1]
    rfl
end
end Z
set_option maxRecDepth 100000
set_option maxHeartbeats 1000000
set_option linter.all false
namespace Z
open PySem PySem.Spec
open PyProof.Rows L2 LamX
/-! woods drawn -/
theorem merge_nd {α : Type} {g : α → D} : ∀ {m acc : List (Str × α)}, ((acc ++ m).map (·.1)).Nodup → (dicS m g).foldl (fun a kv => putD a kv.1 kv.2) (dicS acc g) = dicS (acc ++ m) g
  | [], acc, _ => by
    rw [List.append_nil]
    rfl
  | (x, y) :: r, acc, nd => by
    have nx : x ∉ acc.map (·.1) := fun q => by
      rw [List.map_append, List.nodup_append] at nd
      exact nd.2.2 x q x (by simp) rfl
    have st : putD (dicS acc g) (Sum.inr x) (g y) = dicS (acc ++ [(x, y)]) g := by rw [put_dicS, put_new nx]
    show (dicS r g).foldl _ (putD (dicS acc g) (Sum.inr x) (g y)) = _
    rw [st, merge_nd (m := r) (acc := acc ++ [(x, y)]) (by rw [List.append_assoc]; exact nd), List.append_assoc]
    rfl
theorem mergeD_nd {α : Type} {g : α → D} {m : List (Str × α)} (nd : (m.map (·.1)).Nodup) : mergeD (dicS m g) = dicS m g := merge_nd (m := m) (acc := []) nd
theorem items_dicS {α : Type} {g : α → D} (m : List (Str × α)) : itemsOf (dicS m g) = m.map fun p => .tup [.str p.1, g p.2] := by
  unfold itemsOf dicS
  rw [List.map_map]
  rfl
structure WI where
  rooms : List Str
  most : Int
  nd : rooms.Nodup
  few : rooms.length < 64
  m1 : 1 ≤ most
  m2 : most < 1073741824
/-- woods of just these rooms, ascending, none above most -/
def WoodsOf (i : WI) (m : List (Str × Int)) : Prop := m.map (·.1) = ssort i.rooms ∧ ∀ p ∈ m, 1 ≤ p.2 ∧ p.2 ≤ i.most
section
variable {K : PySem.W.Frag} {C : Addr} {Ω : List (Addr × Str)} {δ : List Sl}
theorem ev_draw {i j : Nat} {m : Int} (h0 : δ[i]? = some (.val .stm)) (h1 : δ[j]? = some (.val (.int m))) (m1 : 1 ≤ m) (m2 : m < 1073741824) : Ev K C Ω 1 (tCall (spDraw K C Ω) [] C8.E0 (tCons (tVar i) (tCons (tVar j) tNil))) δ (fun d => ∃ r : Int, d = .int r ∧ 0 ≤ r ∧ r < m) :=
  ((ev_call1 (ds := [.stm, .int m]) (ea1 (ev_var h0) (ea1 (ev_var h1) ea_nil)) ⟨m, rfl, m1, m2⟩).imp fun d ⟨m', r, q, z, r0, r1⟩ => by
    cases q
    exact ⟨r, z, r0, r1⟩).le (by omega)
def tHWoods (K : PySem.W.Frag) (C : Addr) (Ω : List (Addr × Str)) : TS := tRet (tCB (rDictV K) (tCons (tLc (iList K (tCB (rSortedS K) (tCons (tVar 1) tNil))) (gName 3) tYes
  (tTup (tCons (tVar 3) (tCons (tOp plus (nr 1) (tCall (spDraw K C Ω) [] C8.E0 (tCons (tVar 0) (tCons (tVar 2) tNil)))) tNil))) [3]) tNil))
abbrev spHWoods (K : PySem.W.Frag) (C : Addr) (Ω : List (Addr × Str)) : Sp := SpX K C Ω (fun i : WI => i.rooms.length) (fun i : WI => [.stm, strsD i.rooms, .int i.most]) fun i d => ∃ m, WoodsOf i m ∧ d = .dic (dicS m D.int)
theorem run_hwoods (i : WI) : Run K C Ω i.rooms.length (tHWoods K C Ω) (startS 4 [.stm, strsD i.rooms, .int i.most]) (retO fun d => ∃ m, WoodsOf i m ∧ d = .dic (dicS m D.int)) := by
  have pm := ssort_perm i.rooms
  have len := pm.length_eq
  have few := i.few
  have big : 64 < sizeLine := by decide
  have it : IterR K C Ω 0 (iList K (tCB (rSortedS K) (tCons (tVar 1) tNil))) (startS 4 [.stm, strsD i.rooms, .int i.most]) (· = (ssort i.rooms).map D.str) := it_list1 (ev_l (el_cb (ea1 (ev_var (i := 1) rfl) ea_nil) fun ds e => by
    subst e
    exact rl_sortS few))
  have el := el_lc (K := K) (C := C) (Ω := Ω) (vs := [3]) (g := gName 3) (c2 := 0) (c3 := 1) (tt := tYes) (te := tTup (tCons (tVar 3) (tCons (tOp plus (nr 1) (tCall (spDraw K C Ω) [] C8.E0 (tCons (tVar 0) (tCons (tVar 2) tNil)))) tNil))) (n := i.rooms.length)
    (Pd := fun _ k acc => ∃ m : List (Str × Int), acc = m.map (fun p => .tup [.str p.1, .int p.2]) ∧ m.map (·.1) = (ssort i.rooms).take k ∧ ∀ p ∈ m, 1 ≤ p.2 ∧ p.2 ≤ i.most) it (fun xs e => by rw [e, List.length_map, len]; exact Nat.le_refl _) (by omega) (fun xs e => ⟨[], rfl, rfl, fun p hp => absurd hp (by simp)⟩) fun xs k x acc e hx hp => by
      subst e
      obtain ⟨m, rfl, km, lm⟩ := hp
      rw [List.getElem?_map] at hx
      obtain ⟨y, hy, rfl⟩ := Option.map_eq_some_iff.mp hx
      refine ⟨_, tg_name (.inr (by simp)) (by simp), (· = true), et_yes, fun _ => ?_, fun z => by cases z⟩
      have dr := ev_draw (K := K) (C := C) (Ω := Ω) (δ := (wipeS (startS 4 [.stm, strsD i.rooms, .int i.most]) [3]).set 3 (.val (.str y))) (i := 0) (j := 2) (m := i.most) rfl rfl i.m1 i.m2
      have pl : Ev K C Ω 1 (tOp plus (nr 1) (tCall (spDraw K C Ω) [] C8.E0 (tCons (tVar 0) (tCons (tVar 2) tNil)))) ((wipeS (startS 4 [.stm, strsD i.rooms, .int i.most]) [3]).set 3 (.val (.str y))) (fun d => ∃ r : Int, d = .int r ∧ 1 ≤ r ∧ r ≤ i.most) :=
        (ev_op (Ra := (· = .int 1)) ev_int dr fun a b ha hb => by
          obtain ⟨r, rfl, r0, r1⟩ := hb
          subst ha
          intro W F G H v w o da db Q q
          exact rv_int (g := fun i j => i + j) W F G H v w o da db Q fun v G' H' d st dd e => q v G' H' d st dd ⟨1 + r, e, by omega, by omega⟩).le (by omega)
      refine ((ev_tup (Rs := fun ds => ∃ r : Int, ds = [.str y, .int r] ∧ 1 ≤ r ∧ r ≤ i.most) (ea_cons (Ra := (· = .str y)) (ev_var (i := 3) rfl) (ea_cons (S := fun ds => ∃ r : Int, ds = [.int r] ∧ 1 ≤ r ∧ r ≤ i.most) pl ea_nil fun d ds ⟨r, e, a, b⟩ es => ⟨r, by rw [e, es], a, b⟩) fun d ds e ⟨r, es, a, b⟩ => ⟨r, by rw [e, es], a, b⟩) fun ds ⟨r, e, _⟩ => by rw [e]; show 2 ≤ sizeLine; decide).imp fun d ⟨ds, e, r, es, a, b⟩ => ?_).le (by omega)
      refine ⟨m ++ [(y, r)], by rw [e, es, List.map_append]; rfl, ?_, fun p hp => ?_⟩
      · rw [List.map_append, km, List.take_add_one, hy]
        rfl
      · rcases List.mem_append.mp hp with z | z
        · exact lm p z
        · rw [List.mem_singleton.mp z]
          exact ⟨a, b⟩
  have pairs : Ev K C Ω i.rooms.length (tLc (iList K (tCB (rSortedS K) (tCons (tVar 1) tNil))) (gName 3) tYes (tTup (tCons (tVar 3) (tCons (tOp plus (nr 1) (tCall (spDraw K C Ω) [] C8.E0 (tCons (tVar 0) (tCons (tVar 2) tNil)))) tNil))) [3]) (startS 4 [.stm, strsD i.rooms, .int i.most]) (fun d => ∃ m, WoodsOf i m ∧ d = .lst (itemsOf (dicS m D.int))) := by
    refine ((ev_of_l el).imp fun d ⟨ys, e, xs, ex, m, e1, e2, e3⟩ => ?_).le (by omega)
    subst ex
    rw [List.length_map, List.take_length] at e2
    exact ⟨m, ⟨e2, e3⟩, by rw [e, e1, items_dicS]⟩
  refine run_ret (R := fun d => ∃ m, WoodsOf i m ∧ d = .dic (dicS m D.int)) ?_ fun d e => e
  refine ((ev_of_d (ed_cb (Rs := fun ds => ∃ m, WoodsOf i m ∧ ds = [.lst (itemsOf (dicS m D.int))]) (S := fun xs => ∃ m, WoodsOf i m ∧ xs = dicS m D.int) (ea_cons pairs ea_nil fun d ds ⟨m, a, e⟩ es => ⟨m, a, by rw [e, es]⟩) fun ds ⟨m, a, e⟩ => ?_)).imp fun d ⟨xs, e, m, a, ex⟩ => ⟨m, a, by rw [e, ex]⟩).le (by omega)
  subst e
  intro W F G H vs o dd Q q
  refine rd_dict (ds := dicS m D.int) W F G H vs o dd Q fun p vs' G' H' xs st hp gp ep hd hx => q p vs' G' H' xs st hp gp ep hd ⟨m, a, hx.trans (mergeD_nd ?_)⟩
  rw [a.1]
  exact pm.nodup_iff.mpr i.nd
end
end Z
set_option maxRecDepth 100000
set_option maxHeartbeats 1000000
set_option linter.all false
namespace Z
open PySem PySem.Spec
open PyProof.Rows L2 LamX
/-! names, doors, houses drawn -/
def unS : D → Str
  | .str x => x
  | _ => ⟨#[]⟩
theorem perm_strs {ys : List D} {ns : List Str} (h : ys.Perm (ns.map D.str)) : ∃ ms : List Str, ys = ms.map D.str ∧ ms.Perm ns := by
  refine ⟨ys.map unS, ?_, ?_⟩
  · rw [List.map_map]
    conv => lhs; rw [← List.map_id ys]
    apply List.map_congr_left
    intro y hy
    obtain ⟨x, _, rfl⟩ := List.mem_map.mp (h.mem_iff.mp hy)
    rfl
  · have := h.map unS
    rw [List.map_map] at this
    exact this.trans (by rw [show (unS ∘ D.str) = id from rfl, List.map_id])
structure MX where
  xs : List D
  few : xs.length ≤ 1000000
section
variable {K : PySem.W.Frag} {C : Addr} {Ω : List (Addr × Str)} {δ : List Sl} {c : Nat} {te : TE}
abbrev spMix (K : PySem.W.Frag) (C : Addr) (Ω : List (Addr × Str)) : Sp := SpX K C Ω (fun i : MX => i.xs.length) (fun i : MX => [.stm, .lst i.xs]) fun i d => ∃ ys, d = .lst ys ∧ ys.Perm i.xs
theorem ev_mix {i j : Nat} {xs : List D} (h0 : δ[i]? = some (.val .stm)) (h1 : δ[j]? = some (.val (.lst xs))) (few : xs.length ≤ 1000000) : Ev K C Ω xs.length (tCall (spMix K C Ω) [] C8.E0 (tCons (tVar i) (tCons (tVar j) tNil))) δ (fun d => ∃ ys, d = .lst ys ∧ ys.Perm xs) :=
  (ev_callX (cc := fun i : MX => i.xs.length) (A := fun i : MX => [.stm, .lst i.xs]) (Rx := fun i d => ∃ ys, d = .lst ys ∧ ys.Perm i.xs) ⟨xs, few⟩ (ea1 (ev_var h0) (ea1 (ev_var h1) ea_nil))).le (by show 0 + (0 + 0) + xs.length ≤ _; omega)
/-- xs[:n] -/
theorem el_upto {RL : List D → Prop} {j : Nat} {n : Int} (h : Ev K C Ω c te δ (fun d => ∃ xs, d = .lst xs ∧ RL xs)) (h1 : δ[j]? = some (.val (.int n))) (n0 : 0 ≤ n) : EvL K C Ω c (tSl (rSlL K) te tNoPart (tPart (tVar j))) δ (fun ys => ∃ xs, RL xs ∧ ys = xs.take n.toNat) := fun W F G H σ o s m Q q =>
  h W F G H σ o s m _ fun v G1 H1 d st dd ⟨xs, e, rl⟩ => by
    subst e
    obtain ⟨w, ew, dw⟩ := (s.step o st).val h1
    cases dw
    cases dd with
    | lst g1 g2 =>
      rename_i a vs
      refine ⟨.int n, ew, n, rfl, a, vs, rfl, .inl (.inl (st.gh _ _ g1)), fun p hp => ?_⟩
      have o1 := st.ok o
      have e : cutV vs none (some n) = vs.take n.toNat := by
        unfold cutV
        show (vs.drop 0).take (HT.sIx vs.length vs.length (some n) - 0) = _
        have : HT.sIx vs.length vs.length (some n) = min n.toNat vs.length := by
          show (if n < 0 then (n + (vs.length : Int)).toNat else min n.toNat vs.length) = _
          rw [if_neg (by omega)]
        rw [this, List.drop_zero, Nat.sub_zero]
        rcases Nat.le_total n.toNat vs.length with z | z
        · rw [Nat.min_eq_left z]
        · rw [Nat.min_eq_right z, List.take_of_length_le (Nat.le_refl _), List.take_of_length_le z]
      rw [e]
      have s2 := o1.own (o := .lst (vs.take n.toNat)) hp
      exact q p _ G1 _ (xs.take n.toNat) ((st.trans s2).le (by omega)) (none_of_ne fun z => st.dom z hp) (o1.gnone hp) upd_same (g2.take _) ⟨xs, rl, rfl⟩
def twelve : List Str := ["b", "aa", "c1", "hall", "z9", "a", "m3", "abcdefghijk1", "attic", "no", "q7", "cellar"]
def consts : List Str → TA
  | [] => tNil
  | x :: r => tCons (tC (.str x)) (consts r)
theorem ea_consts : ∀ xs : List Str, EvA K C Ω 0 (consts xs) δ (· = xs.map D.str)
  | [] => ea_nil
  | x :: r => by
    have h := ea1 (K := K) (C := C) (Ω := Ω) (δ := δ) (ev_str (x := x)) (ea_consts r)
    exact h
def tNames (K : PySem.W.Frag) (C : Addr) (Ω : List (Addr × Str)) : TS := tSeq (tAsg (tLst (consts twelve)) (gName 2)) (tRet (tSl (rSlL K) (tCall (spMix K C Ω) [] C8.E0 (tCons (tVar 0) (tCons (tVar 2) tNil))) tNoPart (tPart (tVar 1))))
structure NMi where
  many : Int
  m1 : 1 ≤ many
  m2 : many ≤ 12
def NamesOf (i : NMi) (ns : List Str) : Prop := ns.Nodup ∧ ns.length = i.many.toNat ∧ ∀ x ∈ ns, x ∈ twelve
abbrev spNames (K : PySem.W.Frag) (C : Addr) (Ω : List (Addr × Str)) : Sp := SpX K C Ω (fun _ => 12) (fun i : NMi => [.stm, .int i.many]) fun i d => ∃ ns, NamesOf i ns ∧ d = strsD ns
theorem run_names (i : NMi) : Run K C Ω 12 (tNames K C Ω) (startS 3 [.stm, .int i.many]) (retO fun d => ∃ ns, NamesOf i ns ∧ d = strsD ns) := by
  have m1 := i.m1
  have m2 := i.m2
  have tl : twelve.length = 12 := rfl
  refine (row_asgL (c1 := 0) (c2 := 12) ((el_lst (Rs := (· = twelve.map D.str)) (ea_consts twelve) fun ds e => by rw [e]; show 12 ≤ sizeLine; decide).le (by omega)) fun xs e => ?_).le (by omega)
  subst e
  refine run_keep (i := 2) (s := .oL (twelve.map D.str)) rfl rfl ?_
  have mx := ev_mix (K := K) (C := C) (Ω := Ω) (δ := ((startS 3 [.stm, .int i.many]).set 2 (.oL (twelve.map D.str))).set 2 (.val (Sl.oL (twelve.map D.str)).thing)) (i := 0) (j := 2) (xs := twelve.map D.str) rfl rfl (by rw [List.length_map, tl]; decide)
  refine run_ret (ev_of_l (el_upto (j := 1) (n := i.many) mx rfl (by omega))) fun d ⟨xs, e, ys, pm, ey⟩ => ?_
  obtain ⟨ms, rfl, pm2⟩ := perm_strs pm
  refine ⟨ms.take i.many.toNat, ⟨?_, ?_, fun x hx => ?_⟩, ?_⟩
  · exact (pm2.nodup_iff.mpr (by decide)).sublist (List.take_sublist _ _)
  · rw [List.length_take, pm2.length_eq, tl]
    omega
  · exact pm2.mem_iff.mp (List.mem_of_mem_take hx)
  · rw [e, ey]
    unfold strsD
    rw [List.map_take]
end
end Z
set_option maxRecDepth 100000
set_option maxHeartbeats 1000000
set_option linter.all false
namespace Z
open PySem PySem.Spec
open PyProof.Rows L2 LamX
/-! doors drawn -/
theorem perm_inv {α : Type} {enc : α → D} {dec : D → α} (h : ∀ x, dec (enc x) = x) {ys : List D} {ns : List α} (p : ys.Perm (ns.map enc)) : ∃ ms : List α, ys = ms.map enc ∧ ms.Perm ns := by
  refine ⟨ys.map dec, ?_, ?_⟩
  · rw [List.map_map]
    conv => lhs; rw [← List.map_id ys]
    apply List.map_congr_left
    intro y hy
    obtain ⟨x, _, rfl⟩ := List.mem_map.mp (p.mem_iff.mp hy)
    show enc x = enc (dec (enc x))
    rw [h]
  · have q := p.map dec
    rw [List.map_map] at q
    exact q.trans (by rw [show (dec ∘ enc) = id from funext h, List.map_id])
def unP : D → Str × Str
  | .tup [.str x, .str y] => (x, y)
  | _ => (⟨#[]⟩, ⟨#[]⟩)
/-- the door j leads from a room ahead to the room j + 1, told either way -/
def DoorsFor (rooms : List Str) (ds : List (Str × Str)) (n : Nat) : Prop := ds.length = n ∧ ∀ j p, ds[j]? = some p → ∃ a x y, a ≤ j ∧ rooms[a]? = some x ∧ rooms[j + 1]? = some y ∧ (p = (x, y) ∨ p = (y, x))
structure DI where
  rooms : List Str
  ne : 1 ≤ rooms.length
  few : rooms.length ≤ 60
section
variable {K : PySem.W.Frag} {C : Addr} {Ω : List (Addr × Str)} {δ : List Sl} {c : Nat} {te : TE} {O : Out → Prop} {R : D → Prop}
theorem run_parL {i j : Nat} (ha : Ev K C Ω c te δ R) (k : ∀ d, R d → O (.nx ((δ.set i (.val d)).set j (.oL [])))) : Run K C Ω c (tPar i j (tCons te (tCons (tLst tNil) tNil))) δ O := fun W F G H σ o s m Z n r b e =>
  ha W F G H σ o s m _ fun v G1 H1 d st dd rd => by
    refine ⟨Nat.zero_le _, fun p hp => ⟨v, .ref p, rfl, ?_⟩⟩
    have o1 := st.ok o
    have st2 := o1.own (o := .lst []) hp
    have s1 := (s.step o st).set (i := i) dd
    have s2 := s1.step o1 st2
    exact n _ _ G1 _ (k d rd) (((st.trans st2).le (by omega)).f o) (s2.setOwn ⟨p, [], rfl, upd_same, o1.gnone hp, fun z => o1.fd p z hp, .nil⟩ fun j t _ ej ht => s1.fresh hp j t ej ht)
def maxTwo : List V → Hp → VK → Prop := fun xs H Q => ∃ i j, xs = [V.int i, V.int j] ∧ Q (V.int (if j > i then j else i)) H
def minus : R2 := rI0 fun i j => V.int (i - j)
def drawE (K : PySem.W.Frag) (C : Addr) (Ω : List (Addr × Str)) (t : TE) : TE := tCall (spDraw K C Ω) [] C8.E0 (tCons (tVar 0) (tCons t tNil))
def tWhere (K : PySem.W.Frag) (C : Addr) (Ω : List (Addr × Str)) : TE := tOp (rIxL K) (tLst (tCons (tOp minus (tVar 4) (nr 1)) (tCons (nr 0) (tCons (drawE K C Ω (tVar 4)) (tCons (tCB maxTwo (tCons (nr 0) (tCons (tOp minus (tOp minus (tVar 4) (nr 1)) (drawE K C Ω (nr 2))) tNil))) tNil))))) (tVar 2)
def tDoorB (K : PySem.W.Frag) (C : Addr) (Ω : List (Addr × Str)) : TS := tSeq (tAsg (tWhere K C Ω) (gName 5)) (tSeq (tAsg (tTup (tCons (tOp (rIxL K) (tVar 1) (tVar 5)) (tCons (tOp (rIxL K) (tVar 1) (tVar 4)) tNil))) (gName 6))
  (tDrop (tBM K "list" rAppend (tVar 3) (tCons (tIf (tTest (tOp rEq (drawE K C Ω (nr 2)) (nr 0))) (tVar 6) (tRevT K (tVar 6))) tNil))))
def tDoors (K : PySem.W.Frag) (C : Addr) (Ω : List (Addr × Str)) : TS := tSeq (tPar 2 3 (tCons (drawE K C Ω (nr 4)) (tCons (tLst tNil) tNil)))
  (tSeq (tFor (iRng2 (tCons (nr 1) (tCons (tCB (rLenV K) (tCons (tVar 1) tNil)) tNil))) (gName 4) (tDoorB K C Ω)) (tRet (tCall (spMix K C Ω) [] C8.E0 (tCons (tVar 0) (tCons (tVar 3) tNil)))))
theorem ev_drawN {m : Int} {t : TE} (h0 : δ[0]? = some (.val .stm)) (ht : Ev K C Ω 0 t δ (· = .int m)) (m1 : 1 ≤ m) (m2 : m < 1073741824) : Ev K C Ω 1 (drawE K C Ω t) δ (fun d => ∃ r : Int, d = .int r ∧ 0 ≤ r ∧ r < m) :=
  ((ev_call1 (ds := [.stm, .int m]) (ea1 (ev_var h0) (ea1 ht ea_nil)) ⟨m, rfl, m1, m2⟩).imp fun d ⟨m', r, q, z, r0, r1⟩ => by
    cases q
    exact ⟨r, z, r0, r1⟩).le (by omega)
def Below (k : Int) (d : D) : Prop := ∃ a : Int, d = .int a ∧ 0 ≤ a ∧ a < k
theorem ev_where {k sh : Int} (h0 : δ[0]? = some (.val .stm)) (h4 : δ[4]? = some (.val (.int k))) (h2 : δ[2]? = some (.val (.int sh))) (k1 : 1 ≤ k) (k2 : k < 1000) (s0 : 0 ≤ sh) (s4 : sh < 4) : Ev K C Ω 2 (tWhere K C Ω) δ (Below k) := by
  have v4 : Ev K C Ω 0 (tVar 4) δ (· = .int k) := ev_var h4
  have a1 : Ev K C Ω 0 (tOp minus (tVar 4) (nr 1)) δ (· = .int (k - 1)) := (ev_op1 v4 ev_int (rv_int (g := fun i j => i - j))).le (by omega)
  have a3 := ev_drawN (K := K) (C := C) (Ω := Ω) h0 v4 k1 (by omega)
  have d2 := ev_drawN (K := K) (C := C) (Ω := Ω) (δ := δ) (t := nr 2) (m := 2) h0 ev_int (by decide) (by decide)
  have a5 : Ev K C Ω 1 (tOp minus (tOp minus (tVar 4) (nr 1)) (drawE K C Ω (nr 2))) δ (fun d => ∃ b : Int, d = .int b ∧ b < k) := (ev_op a1 d2 fun a b ha hb => by
    obtain ⟨r, rfl, r0, r1⟩ := hb
    subst ha
    intro W F G H v w o da db Q q
    exact rv_int (g := fun i j => i - j) W F G H v w o da db Q fun v G' H' d st dd e => q v G' H' d st dd ⟨k - 1 - r, e, by omega⟩).le (by omega)
  have a4 : Ev K C Ω 1 (tCB maxTwo (tCons (nr 0) (tCons (tOp minus (tOp minus (tVar 4) (nr 1)) (drawE K C Ω (nr 2))) tNil))) δ (Below k) := by
    refine (ev_cb (Rs := fun ds => ∃ b : Int, ds = [.int 0, .int b] ∧ b < k) (ea_cons (Ra := (· = .int 0)) ev_int (ea_cons (S := fun ds => ∃ b : Int, ds = [.int b] ∧ b < k) a5 ea_nil fun d ds ⟨b, e, l⟩ es => ⟨b, by rw [e, es], l⟩) fun d ds e ⟨b, es, l⟩ => ⟨b, by rw [e, es], l⟩) fun ds ⟨b, e, l⟩ => ?_).le (by omega)
    subst e
    intro W F G H vs o dd Q q
    refine rc_max2 W F G H vs o dd Q fun v G' H' d st dd e => q v G' H' d st dd ⟨_, e, ?_⟩
    split <;> omega
  have four : Ev K C Ω 2 (tLst (tCons (tOp minus (tVar 4) (nr 1)) (tCons (nr 0) (tCons (drawE K C Ω (tVar 4)) (tCons (tCB maxTwo (tCons (nr 0) (tCons (tOp minus (tOp minus (tVar 4) (nr 1)) (drawE K C Ω (nr 2))) tNil))) tNil))))) δ (fun d => ∃ xs, d = .lst xs ∧ xs.length = 4 ∧ ∀ x ∈ xs, Below k x) := by
    have l4 := ea_cons (S := fun ds => ds.length = 1 ∧ ∀ x ∈ ds, Below k x) a4 ea_nil fun d ds hd es => by
      subst es
      exact ⟨rfl, fun x hx => by rw [List.mem_singleton.mp hx]; exact hd⟩
    have grow : ∀ {n : Nat} {d : D} {ds : List D}, Below k d → (ds.length = n ∧ ∀ x ∈ ds, Below k x) → (d :: ds).length = n + 1 ∧ ∀ x ∈ d :: ds, Below k x := fun {n d ds} h1 h2 => ⟨by rw [List.length_cons, h2.1], fun x hx => (List.mem_cons.mp hx).elim (fun e => by rw [e]; exact h1) (h2.2 x)⟩
    have l3 := ea_cons (S := fun ds => ds.length = 2 ∧ ∀ x ∈ ds, Below k x) a3 l4 fun d ds ⟨r, e, r0, r1⟩ h2 => grow ⟨r, e, r0, r1⟩ h2
    have l2 := ea_cons (S := fun ds => ds.length = 3 ∧ ∀ x ∈ ds, Below k x) (ev_int (K := K) (C := C) (Ω := Ω) (δ := δ) (x := 0)) l3 fun d ds e h2 => grow ⟨0, e, by omega, by omega⟩ h2
    have l1 := ea_cons (S := fun ds => ds.length = 4 ∧ ∀ x ∈ ds, Below k x) a1 l2 fun d ds e h2 => grow ⟨k - 1, e, by omega, by omega⟩ h2
    exact (ev_of_l (el_lst l1 fun ds h => by rw [h.1]; show 4 ≤ sizeLine; decide)).le (by omega)
  refine (ev_op four (ev_var h2) fun a b ha hb => ?_).le (by omega)
  obtain ⟨xs, rfl, len, all⟩ := ha
  subst hb
  intro W F G H v w o da db Q q
  have lt : sh.toNat < xs.length := by omega
  exact rv_ixl (d := xs[sh.toNat]) ((at_nat s0 (by omega)).trans (List.getElem?_eq_getElem lt)) W F G H v w o da db Q fun v G' H' d st dd e => q v G' H' d st dd (e ▸ all _ (List.getElem_mem lt))
theorem DoorsFor.add {rooms : List Str} {ds : List (Str × Str)} {n a : Nat} {x y : Str} {p : Str × Str} (h : DoorsFor rooms ds n) (an : a ≤ n) (hx : rooms[a]? = some x) (hy : rooms[n + 1]? = some y) (hp : p = (x, y) ∨ p = (y, x)) : DoorsFor rooms (ds ++ [p]) (n + 1) := by
  refine ⟨by rw [List.length_append, h.1]; rfl, fun j q hq => ?_⟩
  rcases Nat.lt_or_ge j n with c | c
  · rw [List.getElem?_append_left (by rw [h.1]; exact c)] at hq
    exact h.2 j q hq
  · rw [List.getElem?_append_right (by rw [h.1]; exact c), h.1] at hq
    have j0 : j - n = 0 := by
      rcases Nat.eq_zero_or_pos (j - n) with z | z
      · exact z
      · rw [List.getElem?_eq_none (by simp; omega)] at hq
        cases hq
    rw [j0] at hq
    cases hq
    have : j = n := by omega
    subst this
    exact ⟨a, x, y, an, hx, hy, hp⟩
/-- the slots: the spring, the rooms, the shape, the doors found -/
structure DS (rooms : List Str) (ds : List (Str × Str)) (sh : Int) (δ : List Sl) : Prop where
  len : δ.length = 7
  s : δ[0]? = some (.val .stm)
  r : δ[1]? = some (.val (strsD rooms))
  h : δ[2]? = some (.val (.int sh))
  f : δ[3]? = some (.oL (ds.map prD2))
theorem DS.upd {rooms : List Str} {ds : List (Str × Str)} {sh : Int} {δ : List Sl} (h : DS rooms ds sh δ) {k : Nat} {s : Sl} (hk : 4 ≤ k) : DS rooms ds sh (δ.set k s) :=
  ⟨by rw [List.length_set]; exact h.len, by rw [List.getElem?_set_ne (by omega)]; exact h.s, by rw [List.getElem?_set_ne (by omega)]; exact h.r, by rw [List.getElem?_set_ne (by omega)]; exact h.h, by rw [List.getElem?_set_ne (by omega)]; exact h.f⟩
theorem run_doorB {rooms : List Str} {ds : List (Str × Str)} {sh : Int} {n : Nat} (few : rooms.length ≤ 60) (hn : n + 1 < rooms.length) (D0 : DoorsFor rooms ds n) (s0 : 0 ≤ sh) (s4 : sh < 4) (h : DS rooms ds sh δ) (h4 : δ[4]? = some (.val (.int (1 + (n : Nat)))))
    (hO : ∀ ds' δ', DoorsFor rooms ds' (n + 1) → DS rooms ds' sh δ' → O (.nx δ')) : Run K C Ω 3 (tDoorB K C Ω) δ O := by
  have big : (1000 : Nat) < sizeLine := by decide
  refine (row_asg (c2 := 1) (ev_where h.s h4 h.h (by omega) (by omega) s0 s4) fun d hd => ?_).le (by omega)
  obtain ⟨a, rfl, a0, a1⟩ := hd
  have h5 := h.upd (k := 5) (s := .val (.int a)) (by decide)
  have g5 : (δ.set 5 (.val (.int a)))[5]? = some (.val (.int a)) := List.getElem?_set_self (by rw [h.len]; decide)
  have g4 : (δ.set 5 (.val (.int a)))[4]? = some (.val (.int (1 + (n : Nat)))) := by rw [List.getElem?_set_ne (by decide)]; exact h4
  generalize δ.set 5 (.val (.int a)) = δ1 at h5 g5 g4 ⊢
  have la : a.toNat < rooms.length := by omega
  obtain ⟨x, hx⟩ : ∃ x, rooms[a.toNat]? = some x := ⟨_, List.getElem?_eq_getElem la⟩
  obtain ⟨y, hy⟩ : ∃ y, rooms[n + 1]? = some y := ⟨_, List.getElem?_eq_getElem hn⟩
  have ex : Ev K C Ω 0 (tOp (rIxL K) (tVar 1) (tVar 5)) δ1 (· = .str x) := (ev_op1 (ev_var h5.r) (ev_var g5) (rv_ixl (by rw [at_nat a0 (by rw [List.length_map]; omega), List.getElem?_map, hx]; rfl))).le (by omega)
  have ey : Ev K C Ω 0 (tOp (rIxL K) (tVar 1) (tVar 4)) δ1 (· = .str y) := (ev_op1 (ev_var h5.r) (ev_var g4) (rv_ixl (by rw [at_nat (by omega) (by rw [List.length_map]; omega), List.getElem?_map, show ((1 : Int) + (n : Nat)).toNat = n + 1 by omega, hy]; rfl))).le (by omega)
  refine (row_asg1 (c1 := 0) (c2 := 1) (d := .tup [.str x, .str y]) ((ev_tup1 (ea1 ex (ea1 ey ea_nil)) (by show 2 ≤ sizeLine; decide)).le (by omega)) ?_).le (by omega)
  have h6 := h5.upd (k := 6) (s := .val (.tup [.str x, .str y])) (by decide)
  have g6 : (δ1.set 6 (.val (.tup [.str x, .str y])))[6]? = some (.val (.tup [.str x, .str y])) := List.getElem?_set_self (by rw [h5.len]; decide)
  generalize δ1.set 6 (.val (.tup [.str x, .str y])) = δ2 at h6 g6 ⊢
  have dr := ev_drawN (K := K) (C := C) (Ω := Ω) (δ := δ2) (t := nr 2) (m := 2) h6.s ev_int (by decide) (by decide)
  have te : EvT K C Ω 1 (tTest (tOp rEq (drawE K C Ω (nr 2)) (nr 0))) δ2 (fun _ => True) := et_of ((ev_op (R := fun d => ∃ k, d = .bl k ∧ True) dr (ev_int (x := 0)) fun a b ha hb => by
    obtain ⟨r, rfl, r0, r1⟩ := ha
    subst hb
    intro W F G H v w o da db Q q
    exact rv_eq (x := .int r) (y := .int 0) rfl rfl rfl W F G H v w o da db Q fun v G' H' d st dd e => q v G' H' d st dd ⟨_, e, trivial⟩).le (by omega))
  have pr : Ev K C Ω 1 (tIf (tTest (tOp rEq (drawE K C Ω (nr 2)) (nr 0))) (tVar 6) (tRevT K (tVar 6))) δ2 (fun d => ∃ p : Str × Str, d = prD2 p ∧ (p = (x, y) ∨ p = (y, x))) :=
    (ev_if (c2 := 0) (c3 := 0) te (fun _ => (ev_var g6).imp fun d e => ⟨(x, y), e, .inl rfl⟩) fun _ => (ev_revT (ev_var g6) (by show 2 ≤ sizeLine; decide)).imp fun d e => ⟨(y, x), e, .inr rfl⟩).le (by omega)
  refine run_app h6.f (by rw [List.length_map, D0.1]; omega) pr fun d ⟨p, e, hp⟩ => ?_
  subst e
  refine hO (ds ++ [p]) _ (D0.add (a := a.toNat) (by omega) hx hy hp) ⟨by rw [List.length_set]; exact h6.len, by rw [List.getElem?_set_ne (by decide)]; exact h6.s, by rw [List.getElem?_set_ne (by decide)]; exact h6.r, by rw [List.getElem?_set_ne (by decide)]; exact h6.h, ?_⟩
  rw [List.getElem?_set_self (by rw [h6.len]; decide), List.map_append]
  rfl
def costD (i : DI) : Nat := 1 + (60 * 3 + i.rooms.length)
abbrev spDoors (K : PySem.W.Frag) (C : Addr) (Ω : List (Addr × Str)) : Sp := SpX K C Ω costD (fun i : DI => [.stm, strsD i.rooms]) fun i d => ∃ ds es, DoorsFor i.rooms ds (i.rooms.length - 1) ∧ es.Perm ds ∧ d = prsD es
theorem run_doors_drawn (i : DI) : Run K C Ω (costD i) (tDoors K C Ω) (startS 7 [.stm, strsD i.rooms]) (retO fun d => ∃ ds es, DoorsFor i.rooms ds (i.rooms.length - 1) ∧ es.Perm ds ∧ d = prsD es) := by
  have few := i.few
  have ne := i.ne
  have e0 : (startS 7 [.stm, strsD i.rooms])[0]? = some (.val .stm) := rfl
  refine (run_seq (c1 := 1) (c2 := 60 * 3 + i.rooms.length) (N := fun δ' => ∃ sh : Int, 0 ≤ sh ∧ sh < 4 ∧ DS i.rooms [] sh δ') (run_parL (ev_drawN (m := 4) e0 ev_int (by decide) (by decide)) fun d ⟨r, e, r0, r1⟩ => ?_) fun δ1 ⟨sh, s0, s4, h1⟩ => ?_).le (by unfold costD; omega)
  · subst e
    exact ⟨r, r0, r1, by simp [startS], rfl, rfl, rfl, rfl⟩
  refine (run_seq (c1 := 60 * 3) (c2 := i.rooms.length) (N := fun δ' => ∃ ds, DoorsFor i.rooms ds (i.rooms.length - 1) ∧ DS i.rooms ds sh δ')
    ((run_for (n := 60) (c2 := 3) (RL := (· = intsD 1 ((i.rooms.length : Int) - 1).toNat)) (Pv := fun _ k δ' => ∃ ds, DoorsFor i.rooms ds k ∧ DS i.rooms ds sh δ')
      (it_rng2 (lo := 1) (n := (i.rooms.length : Int)) ((ea1 ev_int (ea1 ((ev_lenL h1.r).imp fun d e => by rw [e, List.length_map]) ea_nil))) (by omega) (by omega)) (fun xs e => by rw [e, intsD_len]; omega) (fun xs e => ⟨[], ⟨rfl, fun j p hj => by simp at hj⟩, h1⟩) (fun xs k x δ2 e hx hp => ?_) fun xs δ2 e hp => ?_).le (by omega)) fun δ3 ⟨ds, hd, h3⟩ => ?_).le (by omega)
  · subst e
    obtain ⟨ds, hd, h2⟩ := hp
    have lk : k < ((i.rooms.length : Int) - 1).toNat := by
      have := (List.getElem?_eq_some_iff.mp hx).1
      rwa [intsD_len] at this
    rw [intsD_get lk] at hx
    cases hx
    refine ⟨_, tf_name, run_doorB few (by omega) hd s0 s4 (h2.upd (by decide)) (List.getElem?_set_self (by rw [h2.len]; decide)) fun ds' δ' a b => ⟨ds', a, b⟩⟩
  · subst e
    obtain ⟨ds, hd, h2⟩ := hp
    rw [intsD_len] at hd
    exact ⟨ds, by rw [show i.rooms.length - 1 = ((i.rooms.length : Int) - 1).toNat by omega]; exact hd, h2⟩
  · refine run_keep h3.f rfl ?_
    have lim : (ds.map prD2).length ≤ 1000000 := by
      rw [List.length_map, hd.1]
      omega
    refine (run_ret (ev_mix (i := 0) (j := 3) (xs := ds.map prD2) (by rw [List.getElem?_set_ne (by decide)]; exact h3.s) (by rw [List.getElem?_set_self (by rw [h3.len]; decide)]; rfl) lim) fun d ⟨ys, e, pm⟩ => ?_).le (by rw [List.length_map, hd.1]; omega)
    obtain ⟨es, rfl, pe⟩ := perm_inv (enc := prD2) (dec := unP) (fun x => rfl) pm
    exact ⟨ds, es, hd, pe, e⟩
end
end Z
set_option maxRecDepth 100000
set_option maxHeartbeats 1000000
set_option linter.all false
namespace Z
open PySem PySem.Spec
open PyProof.Rows L2 LamX
/-! a house drawn; doors gone through by the law -/
structure HI where
  most : Int
  m1 : 1 ≤ most
  m2 : most ≤ 12
/-- rooms and doors as they are drawn: rooms in their order, doors each from a room ahead; both are told mixed -/
structure Drawn (i : HI) (rooms : List Str) (ds es : List (Str × Str)) (rs : List Str) : Prop where
  nd : rooms.Nodup
  l1 : 1 ≤ rooms.length
  l2 : (rooms.length : Int) ≤ i.most
  nm : ∀ x ∈ rooms, x ∈ twelve
  dr : DoorsFor rooms ds (rooms.length - 1)
  pe : es.Perm ds
  pr : rs.Perm rooms
section
variable {K : PySem.W.Frag} {C : Addr} {Ω : List (Addr × Str)} {δ : List Sl} {O : Out → Prop} {R : D → Prop}
theorem ev_callC {ι : Type} {A : ι → List D} {cc : ι → Nat} {Rx : ι → D → Prop} {tt : TA} {Rs : List D → Prop} {E : XK} {c1 c2 : Nat} (h : EvA K C Ω c1 tt δ Rs) (k : ∀ ds, Rs ds → ∃ i, A i = ds ∧ cc i ≤ c2 ∧ ∀ d, Rx i d → R d) : Ev K C Ω (c1 + c2) (tCall (SpX K C Ω cc A Rx) [] E tt) δ R := fun W F G H σ o s m Q q =>
  h W F G H σ o s (by omega) _ fun vs G1 H1 ds st dds rds => by
    show SpX K C Ω cc A Rx (vs ++ []) H1 Q E
    rw [List.append_nil]
    obtain ⟨i, e, cl, kk⟩ := k ds rds
    subst e
    have := cost1 st m
    exact ⟨i, W, F, G1, st.ok o, dds, by omega, fun v G2 H2 d st2 dd rd => q v G2 H2 d ((st.trans st2).le (by omega)) dd (kk d rd)⟩
def tHouse (K : PySem.W.Frag) (C : Addr) (Ω : List (Addr × Str)) : TS := tSeq (tAsg (tCall (spNames K C Ω) [] C8.E0 (tCons (tVar 0) (tCons (tOp plus (nr 1) (drawE K C Ω (tVar 1))) tNil))) (gName 2))
  (tRet (tTup (tCons (tCall (spMix K C Ω) [] C8.E0 (tCons (tVar 0) (tCons (tVar 2) tNil))) (tCons (tCall (spDoors K C Ω) [] C8.E0 (tCons (tVar 0) (tCons (tVar 2) tNil))) tNil))))
abbrev spHouse (K : PySem.W.Frag) (C : Addr) (Ω : List (Addr × Str)) : Sp := SpX K C Ω (fun _ => 300) (fun i : HI => [.stm, .int i.most]) fun i d => ∃ rooms ds es rs, Drawn i rooms ds es rs ∧ d = .tup [strsD rs, prsD es]
theorem run_house (i : HI) : Run K C Ω 300 (tHouse K C Ω) (startS 3 [.stm, .int i.most]) (retO fun d => ∃ rooms ds es rs, Drawn i rooms ds es rs ∧ d = .tup [strsD rs, prsD es]) := by
  have m1 := i.m1
  have m2 := i.m2
  have e0 : (startS 3 [.stm, .int i.most])[0]? = some (.val .stm) := rfl
  have dr := ev_drawN (K := K) (C := C) (Ω := Ω) (δ := startS 3 [.stm, .int i.most]) (t := tVar 1) (m := i.most) e0 (ev_var rfl) i.m1 (by omega)
  have many : Ev K C Ω 1 (tOp plus (nr 1) (drawE K C Ω (tVar 1))) (startS 3 [.stm, .int i.most]) (fun d => ∃ r : Int, d = .int r ∧ 1 ≤ r ∧ r ≤ i.most) := (ev_op (Ra := (· = .int 1)) ev_int dr fun a b ha hb => by
    obtain ⟨r, rfl, r0, r1⟩ := hb
    subst ha
    intro W F G H v w o da db Q q
    exact rv_int (g := fun i j => i + j) W F G H v w o da db Q fun v G' H' d st dd e => q v G' H' d st dd ⟨1 + r, e, by omega, by omega⟩).le (by omega)
  have names : Ev K C Ω 13 (tCall (spNames K C Ω) [] C8.E0 (tCons (tVar 0) (tCons (tOp plus (nr 1) (drawE K C Ω (tVar 1))) tNil))) (startS 3 [.stm, .int i.most]) (fun d => ∃ ns : List Str, d = strsD ns ∧ ns.Nodup ∧ 1 ≤ ns.length ∧ (ns.length : Int) ≤ i.most ∧ ∀ x ∈ ns, x ∈ twelve) :=
    (ev_callC (c2 := 12) (Rs := fun ds => ∃ r : Int, ds = [.stm, .int r] ∧ 1 ≤ r ∧ r ≤ i.most) (ea_cons (Ra := (· = .stm)) (ev_var e0) (ea_cons (S := fun ds => ∃ r : Int, ds = [.int r] ∧ 1 ≤ r ∧ r ≤ i.most) many ea_nil fun d ds ⟨r, e, a, b⟩ es => ⟨r, by rw [e, es], a, b⟩) fun d ds e ⟨r, es, a, b⟩ => ⟨r, by rw [e, es], a, b⟩) fun ds ⟨r, e, r1, r2⟩ => by
      subst e
      exact ⟨⟨r, r1, by omega⟩, rfl, Nat.le_refl _, fun d ⟨ns, a, e⟩ => ⟨ns, e, a.1, by have := a.2.1; simp at this; omega, by have := a.2.1; simp at this; omega, a.2.2⟩⟩).le (by omega)
  refine (row_asg (c2 := 287) names fun d ⟨ns, e, nd, l1, l2, nm⟩ => ?_).le (by omega)
  subst e
  have f0 : ((startS 3 [.stm, .int i.most]).set 2 (.val (strsD ns)))[0]? = some (.val .stm) := rfl
  have f2 : ((startS 3 [.stm, .int i.most]).set 2 (.val (strsD ns)))[2]? = some (.val (.lst (ns.map D.str))) := rfl
  have few : ns.length ≤ 12 := by omega
  have mx : Ev K C Ω 12 (tCall (spMix K C Ω) [] C8.E0 (tCons (tVar 0) (tCons (tVar 2) tNil))) ((startS 3 [.stm, .int i.most]).set 2 (.val (strsD ns))) (fun d => ∃ rs : List Str, d = strsD rs ∧ rs.Perm ns) := ((ev_mix f0 f2 (by rw [List.length_map]; omega)).imp fun d ⟨ys, e, pm⟩ => by
    obtain ⟨rs, rfl, p⟩ := perm_strs pm
    exact ⟨rs, e, p⟩).le (by rw [List.length_map]; exact few)
  have dd : Ev K C Ω 193 (tCall (spDoors K C Ω) [] C8.E0 (tCons (tVar 0) (tCons (tVar 2) tNil))) ((startS 3 [.stm, .int i.most]).set 2 (.val (strsD ns))) (fun d => ∃ ds es, DoorsFor ns ds (ns.length - 1) ∧ es.Perm ds ∧ d = prsD es) :=
    (ev_callC (c2 := 193) (Rs := (· = [.stm, strsD ns])) (ea1 (ev_var f0) (ea1 (ev_var f2) ea_nil)) fun ds e => ⟨⟨ns, l1, by omega⟩, e.symm, by unfold costD; show 1 + (60 * 3 + ns.length) ≤ 193; omega, fun d z => z⟩).le (by omega)
  refine (run_ret (ev_tup (Rs := fun xs => ∃ ds es rs, Drawn i ns ds es rs ∧ xs = [strsD rs, prsD es]) (ea_cons (S := fun xs => ∃ ds es rs, Drawn i ns ds es rs ∧ xs = [strsD rs, prsD es]) mx (ea_cons (S := fun xs => ∃ ds es, DoorsFor ns ds (ns.length - 1) ∧ es.Perm ds ∧ xs = [prsD es]) dd ea_nil fun d xs ⟨ds, es, a, b, e⟩ ex => ⟨ds, es, a, b, by rw [e, ex]⟩) fun d xs ⟨rs, e, p⟩ ⟨ds, es, a, b, ex⟩ => ⟨ds, es, rs, ⟨nd, l1, l2, nm, a, b, p⟩, by rw [e, ex]⟩) fun xs ⟨ds, es, rs, _, e⟩ => by rw [e]; show 2 ≤ sizeLine; decide) fun d ⟨xs, e, ds, es, rs, h, ex⟩ => ⟨ns, ds, es, rs, h, by rw [e, ex]⟩).le (by omega)
end
end Z
set_option maxRecDepth 100000
set_option maxHeartbeats 1000000
set_option linter.all false
namespace Z
open PySem PySem.Spec
open PyProof.Rows L2 LamX
/-! hours judged door by door -/
section
variable {K : PySem.W.Frag} {C : Addr} {Ω : List (Addr × Str)} {δ : List Sl} {O : Out → Prop} {c : Nat} {te : TE}
theorem run_lkA {i : Nat} {RL : List D → Prop} (h : EvL K C Ω c (tLkE te) δ RL) (k : ∀ xs, RL xs → O (.nx (δ.set i (.oL xs)))) : Run K C Ω c (tLkS (tAsg te (gName i))) δ O := fun W F G H σ o s m Z n r b e => by
  have z : tLkE te σ H (fun x H1 => gName i x σ H1 Z.nx) := run_asgL h k W F G H σ o s m Z n r b e
  rcases z with z | z
  · exact .inl z
  · exact .inr z
theorem run_asgG {g : TG} {R : D → Prop} {δ' : D → List Sl} (h : Ev K C Ω c te δ R) (tg : ∀ d, R d → TgF K C Ω g d δ (δ' d)) (k : ∀ d, R d → O (.nx (δ' d))) : Run K C Ω c (tAsg te g) δ O := fun W F G H σ o s m Z n r b e =>
  h W F G H σ o s m _ fun v G1 H1 d st dd rd => tg d rd W F G1 H1 σ v (st.ok o) (s.step o st) dd _ fun σ' s' => n _ σ' G1 H1 (k d rd) (st.f o) s'
end
/-- the earlier one first -/
def inOrder (f : List (Str × Int)) (p : Str × Str) : Str × Str := if valF f p.1 < valF f p.2 then p else (p.2, p.1)
def doorOk (w f : List (Str × Int)) (p : Str × Str) : Bool := !(decide (valF f (inOrder f p).1 = valF f (inOrder f p).2) || decide (valF w (inOrder f p).1 < valF f (inOrder f p).2 - valF f (inOrder f p).1))
def firstsOf (ds : List (Str × Str)) (f : List (Str × Int)) : List Str := (f.map (·.1)).filter fun r => (besides ds r).all fun o => decide (valF f r < valF f o)
def byDoors (ds : List (Str × Str)) (w f : List (Str × Int)) : Bool := ds.all (doorOk w f) && decide ((firstsOf ds f).length = 1)
structure BD where
  ds : List (Str × Str)
  w : List (Str × Int)
  f : List (Str × Int)
  few : ds.length ≤ 30
  fewF : f.length ≤ 1000
  nd : (f.map (·.1)).Nodup
  inF : ∀ p ∈ ds, p.1 ∈ f.map (·.1) ∧ p.2 ∈ f.map (·.1)
  inW : ∀ p ∈ ds, p.1 ∈ w.map (·.1) ∧ p.2 ∈ w.map (·.1)
theorem besides_mem {ds : List (Str × Str)} {r o : Str} : o ∈ besides ds r ↔ (r, o) ∈ ds ∨ (o, r) ∈ ds := by
  unfold besides
  rw [(ssort_perm _).mem_iff, List.mem_append, List.mem_map, List.mem_map]
  constructor
  · rintro (⟨p, hp, e⟩ | ⟨p, hp, e⟩)
    · have := (List.mem_filter.mp hp)
      have e2 := of_decide_eq_true this.2
      exact .inl (by rw [← e, ← e2]; exact this.1)
    · have := (List.mem_filter.mp hp)
      have e2 := of_decide_eq_true this.2
      exact .inr (by rw [← e, ← e2]; exact this.1)
  · rintro (h | h)
    · exact .inl ⟨_, List.mem_filter.mpr ⟨h, decide_eq_true rfl⟩, rfl⟩
    · exact .inr ⟨_, List.mem_filter.mpr ⟨h, decide_eq_true rfl⟩, rfl⟩
section
variable {K : PySem.W.Frag} {C : Addr} {Ω : List (Addr × Str)} {δ : List Sl} {O : Out → Prop}
def ltI : R2 := rI0 fun i j => V.bl (decide (i < j))
def gtI : R2 := rI0 fun i j => V.bl (decide (j < i))
theorem ev_at {i j : Nat} {f : List (Str × Int)} {x : Str} (h1 : δ[i]? = some (.val (.dic (dicS f D.int)))) (h2 : δ[j]? = some (.val (.str x))) (hx : x ∈ f.map (·.1)) : Ev K C Ω 0 (tDGet (tVar i) (tVar j)) δ (· = .int (valF f x)) := by
  obtain ⟨v, hv⟩ := Option.isSome_iff_exists.mp (look_mem.mpr hx)
  exact ev_get h1 h2 hv
def tJudge (K : PySem.W.Frag) : TS := tSeq
  (tAsg (tIf (tTest (tOp ltI (tDGet (tVar 2) (tVar 3)) (tDGet (tVar 2) (tVar 4)))) (tTup (tCons (tVar 3) (tCons (tVar 4) tNil))) (tTup (tCons (tVar 4) (tCons (tVar 3) tNil)))) (gTup K 2 (gCons (gName 5) (gCons (gName 6) gNil))))
  (tIfS (tOr (tTest (tOp rEq (tDGet (tVar 2) (tVar 5)) (tDGet (tVar 2) (tVar 6)))) (tTest (tOp gtI (tOp minus (tDGet (tVar 2) (tVar 6)) (tDGet (tVar 2) (tVar 5))) (tDGet (tVar 1) (tVar 5))))) (tRet (tC (V.bl false))) tNext)
theorem run_judge {w f : List (Str × Int)} {p : Str × Str} (len : δ.length = 9) (h1 : δ[1]? = some (.val (.dic (dicS w D.int)))) (h2 : δ[2]? = some (.val (.dic (dicS f D.int)))) (h3 : δ[3]? = some (.val (.str p.1))) (h4 : δ[4]? = some (.val (.str p.2)))
    (i1 : p.1 ∈ f.map (·.1)) (i2 : p.2 ∈ f.map (·.1)) (j1 : p.1 ∈ w.map (·.1)) (j2 : p.2 ∈ w.map (·.1)) (yes : doorOk w f p = true → ∀ x y, O (.nx ((δ.set 5 x).set 6 y))) (no : doorOk w f p = false → O (.rt (.bl false))) : Run K C Ω 0 (tJudge K) δ O := by
  have lt := (ev_op1 (K := K) (C := C) (Ω := Ω) (ev_at h2 h3 i1) (ev_at h2 h4 i2) (rv_bl (g := fun i j => decide (i < j)))).le (c := 0) (by omega)
  have two : (2 : Nat) ≤ sizeLine := by decide
  have pr : Ev K C Ω 0 (tIf (tTest (tOp ltI (tDGet (tVar 2) (tVar 3)) (tDGet (tVar 2) (tVar 4)))) (tTup (tCons (tVar 3) (tCons (tVar 4) tNil))) (tTup (tCons (tVar 4) (tCons (tVar 3) tNil)))) δ (· = prD2 (inOrder f p)) := by
    refine (ev_if (c1 := 0) (c2 := 0) (c3 := 0) (et1 lt) (fun z => ?_) fun z => ?_).le (by omega)
    · refine ((ev_tup1 (ea1 (ev_var h3) (ea1 (ev_var h4) ea_nil)) two).imp fun d e => ?_).le (by omega)
      rw [e, inOrder, if_pos (of_decide_eq_true z.symm)]
      rfl
    · refine ((ev_tup1 (ea1 (ev_var h4) (ea1 (ev_var h3) ea_nil)) two).imp fun d e => ?_).le (by omega)
      rw [e, inOrder, if_neg (of_decide_eq_false z.symm)]
      rfl
  have k1 : (inOrder f p).1 ∈ f.map (·.1) ∧ (inOrder f p).2 ∈ f.map (·.1) ∧ (inOrder f p).1 ∈ w.map (·.1) := by
    unfold inOrder
    split
    · exact ⟨i1, i2, j1⟩
    · exact ⟨i2, i1, j2⟩
  refine (run_seq (c1 := 0) (c2 := 0) (N := fun δ' => δ' = (δ.set 5 (.val (.str (inOrder f p).1))).set 6 (.val (.str (inOrder f p).2))) (run_asgG (δ' := fun _ => (δ.set 5 (.val (.str (inOrder f p).1))).set 6 (.val (.str (inOrder f p).2))) pr (fun d e => by rw [e]; exact tf_pair) fun d e => rfl) fun δ' e => ?_).le (by omega)
  subst e
  have g1 : ((δ.set 5 (.val (.str (inOrder f p).1))).set 6 (.val (.str (inOrder f p).2)))[1]? = some (.val (.dic (dicS w D.int))) := by rw [List.getElem?_set_ne (by decide), List.getElem?_set_ne (by decide)]; exact h1
  have g2 : ((δ.set 5 (.val (.str (inOrder f p).1))).set 6 (.val (.str (inOrder f p).2)))[2]? = some (.val (.dic (dicS f D.int))) := by rw [List.getElem?_set_ne (by decide), List.getElem?_set_ne (by decide)]; exact h2
  have g5 : ((δ.set 5 (.val (.str (inOrder f p).1))).set 6 (.val (.str (inOrder f p).2)))[5]? = some (.val (.str (inOrder f p).1)) := by rw [List.getElem?_set_ne (by decide)]; exact List.getElem?_set_self (by rw [len]; decide)
  have g6 : ((δ.set 5 (.val (.str (inOrder f p).1))).set 6 (.val (.str (inOrder f p).2)))[6]? = some (.val (.str (inOrder f p).2)) := List.getElem?_set_self (by rw [List.length_set, len]; decide)
  have e5 := ev_at (K := K) (C := C) (Ω := Ω) g2 g5 k1.1
  have e6 := ev_at (K := K) (C := C) (Ω := Ω) g2 g6 k1.2.1
  have ew := ev_at (K := K) (C := C) (Ω := Ω) g1 g5 k1.2.2
  have eq : Ev K C Ω 0 (tOp rEq (tDGet (tVar 2) (tVar 5)) (tDGet (tVar 2) (tVar 6))) ((δ.set 5 (.val (.str (inOrder f p).1))).set 6 (.val (.str (inOrder f p).2))) (· = .bl (decide (valF f (inOrder f p).1 = valF f (inOrder f p).2))) := ((ev_op1 e5 e6 (rv_eq rfl rfl rfl)).imp fun d e => by
    rw [e]
    congr 1
    exact decide_eq_decide.mpr ⟨fun q => V.int.inj q, fun q => by rw [q]⟩).le (by omega)
  have sub := (ev_op1 (K := K) (C := C) (Ω := Ω) e6 e5 (rv_int (g := fun i j => i - j))).le (c := 0) (by omega)
  have gt := (ev_op1 (K := K) (C := C) (Ω := Ω) sub ew (rv_bl (g := fun i j => decide (j < i)))).le (c := 0) (by omega)
  have ct : EvT K C Ω 0 (tOr (tTest (tOp rEq (tDGet (tVar 2) (tVar 5)) (tDGet (tVar 2) (tVar 6)))) (tTest (tOp gtI (tOp minus (tDGet (tVar 2) (tVar 6)) (tDGet (tVar 2) (tVar 5))) (tDGet (tVar 1) (tVar 5))))) ((δ.set 5 (.val (.str (inOrder f p).1))).set 6 (.val (.str (inOrder f p).2))) (fun b => b = !doorOk w f p) :=
    (et_or (c1 := 0) (c2 := 0) (et1 eq) (fun z => (et1 gt).imp fun b e => by unfold doorOk; rw [← z, Bool.false_or, Bool.not_not]; exact e) fun z => by unfold doorOk; rw [← z]; rfl).le (by omega)
  refine (run_if ct (c2 := 0) (c3 := 0) (fun z => run_ret ev_bl fun d e => by rw [e]; exact no (by cases q : doorOk w f p with
    | false => rfl
    | true =>
      rw [q] at z
      cases z)) fun z => run_next (yes (by cases q : doorOk w f p with
    | true => rfl
    | false =>
      rw [q] at z
      cases z) _ _)).le (by omega)
def tFirsts (K : PySem.W.Frag) (C : Addr) (Ω : List (Addr × Str)) : TE := tLc (iKeys (tVar 2)) (gName 8) (tB (tCB (rAll K) (tCons (tLc (iList K (tCall (spBeside K C Ω) [] C8.E0 (tCons (tVar 0) (tCons (tVar 8) tNil)))) (gName 4) tYes (tOp gtI (tDGet (tVar 2) (tVar 4)) (tDGet (tVar 2) (tVar 8))) [4]) tNil))) (tVar 8) [8]
def tByDoors (K : PySem.W.Frag) (C : Addr) (Ω : List (Addr × Str)) : TS := tSeq (tFor (iList K (tVar 0)) (gTup K 2 (gCons (gName 3) (gCons (gName 4) gNil))) (tJudge K))
  (tSeq (tLkS (tAsg (tFirsts K C Ω) (gName 7))) (tRet (tOp rEq (tCB (rLenV K) (tCons (tVar 7) tNil)) (tC (V.int 1)))))
theorem el_firsts (i : BD) (len : δ.length = 9) (h0 : δ[0]? = some (.val (prsD i.ds))) (h2 : δ[2]? = some (.val (.dic (dicS i.f D.int)))) : EvL K C Ω 0 (tLkE (tFirsts K C Ω)) δ (· = (firstsOf i.ds i.f).map D.str) := by
  have ks : keysOf (dicS i.f D.int) = (i.f.map (·.1)).map D.str := by
    unfold keysOf dicS
    rw [List.map_map, List.map_map]
    rfl
  have few := i.few
  have el := el_keys (K := K) (C := C) (Ω := Ω) (δ := δ) (n := 1000) (vs := [8]) (g := gName 8) (tt := tB (tCB (rAll K) (tCons (tLc (iList K (tCall (spBeside K C Ω) [] C8.E0 (tCons (tVar 0) (tCons (tVar 8) tNil)))) (gName 4) tYes (tOp gtI (tDGet (tVar 2) (tVar 4)) (tDGet (tVar 2) (tVar 8))) [4]) tNil))) (te := tVar 8)
    (p := fun d => match d with
      | .str r => (besides i.ds r).all fun o => decide (valF i.f r < valF i.f o)
      | _ => false) (f := fun d => d) (atd_var h2) (by rw [ks, List.length_map, List.length_map]; exact i.fewF) (by decide) fun x hx => by
      rw [ks] at hx
      obtain ⟨r, hr, rfl⟩ := List.mem_map.mp hx
      have k0 : ((wipeS δ [8]).set 8 (.val (.str r)))[0]? = some (.val (prsD i.ds)) := by
        rw [List.getElem?_set_ne (by decide)]
        show (δ.set 8 .un)[0]? = _
        rw [List.getElem?_set_ne (by decide)]
        exact h0
      have k2 : ((wipeS δ [8]).set 8 (.val (.str r)))[2]? = some (.val (.dic (dicS i.f D.int))) := by
        rw [List.getElem?_set_ne (by decide)]
        show (δ.set 8 .un)[2]? = _
        rw [List.getElem?_set_ne (by decide)]
        exact h2
      have k8 : ((wipeS δ [8]).set 8 (.val (.str r)))[8]? = some (.val (.str r)) := List.getElem?_set_self (by show 8 < (δ.set 8 .un).length; rw [List.length_set, len]; decide)
      have kl : ((wipeS δ [8]).set 8 (.val (.str r))).length = 9 := by
        rw [List.length_set]
        show (δ.set 8 .un).length = 9
        rw [List.length_set]
        exact len
      refine ⟨_, tg_name (.inr (by simp)) (by simp), ?_, fun _ => ev_var k8⟩
      generalize (wipeS δ [8]).set 8 (.val (.str r)) = δ2 at k0 k2 k8 kl ⊢
      have bl := besides_len i.ds r
      have all := ev_all_map (K := K) (C := C) (Ω := Ω) (δ := δ2) (vs := [4]) (g := gName 4) (te := tOp gtI (tDGet (tVar 2) (tVar 4)) (tDGet (tVar 2) (tVar 8))) (xs := (besides i.ds r).map D.str)
        (fun d => match d with
          | .str o => decide (valF i.f r < valF i.f o)
          | _ => false) (it_list1 (ev_beside (i := 0) (j := 8) (b := ⟨i.ds, r, i.few⟩) k0 k8)) (by rw [List.length_map]; omega) fun y hy => by
          obtain ⟨o, ho, rfl⟩ := List.mem_map.mp hy
          have om : o ∈ i.f.map (·.1) := by
            rcases besides_mem.mp ho with q | q
            · exact (i.inF _ q).2
            · exact (i.inF _ q).1
          refine ⟨_, tg_name (.inr (by simp)) (by simp), ?_⟩
          have w2 : ((wipeS δ2 [4]).set 4 (.val (.str o)))[2]? = some (.val (.dic (dicS i.f D.int))) := by
            rw [List.getElem?_set_ne (by decide)]
            show (δ2.set 4 .un)[2]? = _
            rw [List.getElem?_set_ne (by decide)]
            exact k2
          have w8 : ((wipeS δ2 [4]).set 4 (.val (.str o)))[8]? = some (.val (.str r)) := by
            rw [List.getElem?_set_ne (by decide)]
            show (δ2.set 4 .un)[8]? = _
            rw [List.getElem?_set_ne (by decide)]
            exact k8
          have w4 : ((wipeS δ2 [4]).set 4 (.val (.str o)))[4]? = some (.val (.str o)) := List.getElem?_set_self (by show 4 < (δ2.set 4 .un).length; rw [List.length_set, kl]; decide)
          exact (ev_op1 (ev_at w2 w4 om) (ev_at w2 w8 hr) (rv_bl (g := fun i j => decide (j < i)))).le (by omega)
      refine et1B (all.imp fun d e => ?_)
      rw [e, List.all_map]
      rfl
  refine (el.imp fun xs e => ?_).le (by omega)
  rw [e, ks, List.filter_map, List.map_map]
  unfold firstsOf
  rfl
abbrev spByDoors (K : PySem.W.Frag) (C : Addr) (Ω : List (Addr × Str)) : Sp := SpX K C Ω (fun _ => 0) (fun i : BD => [prsD i.ds, .dic (dicS i.w D.int), .dic (dicS i.f D.int)]) fun i d => d = .bl (byDoors i.ds i.w i.f)
theorem run_by_doors (i : BD) : Run K C Ω 0 (tByDoors K C Ω) (startS 9 [prsD i.ds, .dic (dicS i.w D.int), .dic (dicS i.f D.int)]) (retO (· = .bl (byDoors i.ds i.w i.f))) := by
  have few := i.few
  refine (run_seq (c1 := 0) (c2 := 0) (N := fun δ' => i.ds.all (doorOk i.w i.f) = true ∧ δ'.length = 9 ∧ δ'[0]? = some (.val (prsD i.ds)) ∧ δ'[2]? = some (.val (.dic (dicS i.f D.int))))
    ((run_for (n := 30) (c2 := 0) (RL := (· = i.ds.map prD2)) (Pv := fun _ k δ' => (∀ j p, j < k → i.ds[j]? = some p → doorOk i.w i.f p = true) ∧ δ'.length = 9 ∧ δ'[0]? = some (.val (prsD i.ds)) ∧ δ'[1]? = some (.val (.dic (dicS i.w D.int))) ∧ δ'[2]? = some (.val (.dic (dicS i.f D.int))))
      (it_list1 (ev_var (i := 0) rfl)) (fun xs e => by rw [e, List.length_map]; exact few) (fun xs e => ⟨fun j p hj => absurd hj (Nat.not_lt_zero j), by simp [startS], rfl, rfl, rfl⟩) (fun xs k x δ2 e hx hp => ?_) fun xs δ2 e hp => ?_).le (by omega)) fun δ3 ⟨all, len, h0, h2⟩ => ?_).le (by omega)
  · subst e
    obtain ⟨dn, len, h0, h1, h2⟩ := hp
    rw [List.getElem?_map] at hx
    obtain ⟨p, hp, rfl⟩ := Option.map_eq_some_iff.mp hx
    have pm := List.mem_of_getElem? hp
    have w : ∀ {n : Nat}, n ≠ 3 → n ≠ 4 → ((δ2.set 3 (.val (.str p.1))).set 4 (.val (.str p.2)))[n]? = δ2[n]? := fun {n} a b => by rw [List.getElem?_set_ne (Ne.symm b), List.getElem?_set_ne (Ne.symm a)]
    have gl : ((δ2.set 3 (.val (.str p.1))).set 4 (.val (.str p.2))).length = 9 := by rw [List.length_set, List.length_set]; exact len
    refine ⟨_, tf_pair, run_judge (w := i.w) (f := i.f) (p := p) gl ((w (by decide) (by decide)).trans h1) ((w (by decide) (by decide)).trans h2) (by rw [List.getElem?_set_ne (by decide)]; exact List.getElem?_set_self (by rw [len]; decide)) (List.getElem?_set_self (by rw [List.length_set, len]; decide)) (i.inF p pm).1 (i.inF p pm).2 (i.inW p pm).1 (i.inW p pm).2 (fun yes x y => ?_) fun no => ?_⟩
    · have w2 : ∀ {n : Nat}, n < 3 → ((((δ2.set 3 (.val (.str p.1))).set 4 (.val (.str p.2))).set 5 x).set 6 y)[n]? = δ2[n]? := fun {n} a => by rw [List.getElem?_set_ne (by omega), List.getElem?_set_ne (by omega), List.getElem?_set_ne (by omega), List.getElem?_set_ne (by omega)]
      refine ⟨fun j q hj hq => ?_, by rw [List.length_set, List.length_set]; exact gl, (w2 (by decide)).trans h0, (w2 (by decide)).trans h1, (w2 (by decide)).trans h2⟩
      rcases Nat.lt_or_ge j k with c | c
      · exact dn j q c hq
      · have : j = k := by omega
        rw [this, hp] at hq
        cases hq
        exact yes
    · show D.bl false = .bl (byDoors i.ds i.w i.f)
      unfold byDoors
      have : i.ds.all (doorOk i.w i.f) = false := by
        cases q : i.ds.all (doorOk i.w i.f) with
        | false => rfl
        | true =>
          have := List.all_eq_true.mp q p pm
          rw [no] at this
          cases this
      rw [this, Bool.false_and]
  · subst e
    obtain ⟨dn, len, h0, h1, h2⟩ := hp
    rw [List.length_map] at dn
    refine ⟨List.all_eq_true.mpr fun p hp => ?_, len, h0, h2⟩
    obtain ⟨j, hj⟩ := List.getElem?_of_mem hp
    exact dn j p (List.getElem?_eq_some_iff.mp hj).1 hj
  · refine (run_seq (c1 := 0) (c2 := 0) (N := fun δ' => δ'[7]? = some (.oL ((firstsOf i.ds i.f).map D.str))) (run_lkA (el_firsts i len h0 h2) fun xs e => by
      subst e
      exact List.getElem?_set_self (by rw [len]; decide)) fun δ4 h7 => ?_).le (by omega)
    refine run_keep h7 rfl (run_ret ((ev_op1 (ev_lenL (xs := (firstsOf i.ds i.f).map D.str) (by rw [List.getElem?_set_self (List.getElem?_eq_some_iff.mp h7).1]; rfl)) ev_int (rv_eq rfl rfl rfl)).imp fun d e => ?_) fun d e => e)
    rw [e]
    unfold byDoors
    rw [all, Bool.true_and, List.length_map]
    congr 1
    refine decide_eq_decide.mpr ⟨fun q => ?_, fun q => by rw [q]; rfl⟩
    have := V.int.inj q
    omega
end
end Z
set_option maxRecDepth 100000
set_option maxHeartbeats 1000000
set_option linter.all false
namespace Z
open PySem PySem.Spec
open PyProof.Rows L2 LamX
/-! lists compared; three at once -/
theorem eqv_strs : ∀ xs ys : List Str, PyData.eqvAll (xs.map PyData.str) (ys.map PyData.str) = decide (xs = ys)
  | [], [] => by simp [PyData.eqvAll]
  | [], y :: r => by simp [PyData.eqvAll]
  | x :: l, [] => by simp [PyData.eqvAll]
  | x :: l, y :: r => by
    rw [List.map_cons, List.map_cons]
    simp only [PyData.eqvAll, PyData.eqv, eqv_strs l r]
    by_cases e : x = y
    · subst e
      simp
    · simp [e]
theorem eqv_ints : ∀ xs ys : List Int, PyData.eqvAll (xs.map PyData.int) (ys.map PyData.int) = decide (xs = ys)
  | [], [] => by simp [PyData.eqvAll]
  | [], y :: r => by simp [PyData.eqvAll]
  | x :: l, [] => by simp [PyData.eqvAll]
  | x :: l, y :: r => by
    rw [List.map_cons, List.map_cons]
    simp only [PyData.eqvAll, PyData.eqv, eqv_ints l r]
    by_cases e : x = y
    · subst e
      simp
    · simp [e]
theorem shaped_strs {xs : List Str} (h : ∀ x ∈ xs, PyData.strOk x = true) : SeqAt.shaped (.list (xs.map PyData.str)) = true := by
  have a : ∀ l : List Str, (∀ x ∈ l, PyData.strOk x = true) → PyData.canLayAll0 (l.map PyData.str) = true := fun l => by
    induction l with
    | nil => intro _; rfl
    | cons x r ih =>
      intro q
      rw [List.map_cons]
      simp only [PyData.canLayAll0, PyData.canLay0, q x List.mem_cons_self, Bool.true_and]
      exact ih fun y hy => q y (List.mem_cons_of_mem _ hy)
  have b : ∀ l : List Str, PyData.depthAll (l.map PyData.str) = 0 := fun l => by
    induction l with
    | nil => rfl
    | cons x r ih =>
      rw [List.map_cons]
      simp only [PyData.depthAll, PyData.depth, ih]
      rfl
  show (PyData.canLay0 (.list (xs.map PyData.str)) && decide (PyData.depth (.list (xs.map PyData.str)) ≤ 64)) = true
  simp only [PyData.canLay0, PyData.depth, a xs h, b xs]
  decide
section
variable {K : PySem.W.Frag} {C : Addr} {Ω : List (Addr × Str)} {δ : List Sl} {O : Out → Prop}
theorem dp_strs {H : Hp} : ∀ xs : List Str, DpAll K H (xs.map V.str) (xs.map PyData.str)
  | [] => .nil
  | x :: r => .cons (.str x) (dp_strs r)
theorem dp_ints {H : Hp} : ∀ xs : List Int, DpAll K H (xs.map V.int) (xs.map PyData.int)
  | [] => .nil
  | x :: r => .cons (.int x) (dp_ints r)
theorem rv_neStrs {xs ys : List Str} (hx : ∀ x ∈ xs, PyData.strOk x = true) (hy : ∀ x ∈ ys, PyData.strOk x = true) : RV K C Ω (rNeD K) (.lst (xs.map D.str)) (.lst (ys.map D.str)) (· = .bl (!decide (xs = ys))) := fun W F G H v w o da db Q q => by
  cases da with
  | lst a1 a2 => cases db with
    | lst b1 b2 =>
      have e1 := a2.strs
      have e2 := b2.strs
      subst e1 e2
      refine ⟨_, _, .lst (.inl (.inl (o.gh _ _ a1))) (dp_strs xs), .lst (.inl (.inl (o.gh _ _ b1))) (dp_strs ys), shaped_strs hx, shaped_strs hy, q _ G H _ o.refl (.bl _) ?_⟩
      simp only [PyData.eqv, eqv_strs]
theorem rv_neInts {xs ys : List Int} : RV K C Ω (rNeD K) (.lst (xs.map D.int)) (.lst (ys.map D.int)) (· = .bl (!decide (xs = ys))) := fun W F G H v w o da db Q q => by
  cases da with
  | lst a1 a2 => cases db with
    | lst b1 b2 =>
      have e1 := a2.ints
      have e2 := b2.ints
      subst e1 e2
      refine ⟨_, _, .lst (.inl (.inl (o.gh _ _ a1))) (dp_ints xs), .lst (.inl (.inl (o.gh _ _ b1))) (dp_ints ys), PySem.W.ke_shaped_ints xs, PySem.W.ke_shaped_ints ys, q _ G H _ o.refl (.bl _) ?_⟩
      simp only [PyData.eqv, eqv_ints]
/-- a, b, c = [x], [x], True -/
theorem run_par3 {i j l n : Nat} {x : D} (hij : i ≠ j) (hil : i ≠ l) (hjl : j ≠ l) (hn : δ[n]? = some (.val x)) (k : O (.nx (((δ.set l (.val (.bl true))).set i (.oL [x])).set j (.oL [x])))) :
    Run K C Ω 0 (tPar3 i j l (tCons (tLst (tCons (tVar n) tNil)) (tCons (tLst (tCons (tVar n) tNil)) (tCons (tC (.bl true)) tNil)))) δ O := fun W F G H σ o s m Z nn r b e => by
  obtain ⟨v, ev, dv⟩ := s.val hn
  have one : 1 ≤ sizeLine := by decide
  refine ⟨v, ev, one, fun p hp => ⟨v, ev, one, fun q hq => ?_⟩⟩
  refine ⟨_, _, _, rfl, ?_⟩
  have s1 := o.own (o := .lst [v]) hp
  have o1 := s1.ok o
  have s2 := o1.own (o := .lst [v]) hq
  have st := s1.trans s2
  have l1 := (s.step o s1).set (i := l) (.bl true)
  have l2 := (l1).setOwn (i := i) (s := .oL [x]) (l := p) ⟨p, [v], rfl, upd_same, o.gnone hp, fun z => o.fd p z hp, .cons dv .nil⟩ fun j t _ ej ht => ((s.set (i := l) (.bl true)).fresh hp j t ej ht)
  have l3 := l2.step o1 s2
  have l4 := l3.setOwn (i := j) (s := .oL [x]) (l := q) ⟨q, [v], rfl, upd_same, o1.gnone hq, fun z => o1.fd q z hq, .cons dv .nil⟩ fun j t _ ej ht => l2.fresh hq j t ej ht
  have e : ((σ.set i (some (.ref p))).set j (some (.ref q))).set l (some (V.bl true)) = ((σ.set l (some (V.bl true))).set i (some (.ref p))).set j (some (.ref q)) := by
    rw [List.set_comm _ _ hjl, List.set_comm _ _ hil]
  rw [e]
  exact nn _ _ G _ k ((st.le (by omega)).f o) l4
end
end Z
set_option maxRecDepth 100000
set_option maxHeartbeats 1000000
set_option linter.all false
namespace Z
open PySem PySem.Spec
open PyProof.Rows L2 LamX
/-! hours judged by going from each room -/
/-- what is beside the rooms, by doors -/
def nearOf (ds : List (Str × Str)) (rooms : List Str) : List (Str × List Str) := rooms.map fun r => (r, besides ds r)
theorem look_near {ds : List (Str × Str)} {r : Str} : ∀ {rooms : List Str}, r ∈ rooms → (nearOf ds rooms).lookup r = some (besides ds r)
  | [], h => absurd h (by simp)
  | x :: l, h => by
    unfold nearOf
    rw [List.map_cons, List.lookup_cons]
    by_cases e : r = x
    · subst e
      simp
    · rw [show (r == x) = false from beq_eq_false_iff_ne.mpr e]
      exact look_near ((List.mem_cons.mp h).resolve_left e)
theorem burns_add {w f : List (Str × Int)} {m : List (Str × Option Str)} {x b : Str} : burnsB w f (m ++ [(x, some b)]) = (burnsB w f m && decide (1 ≤ valF f x - valF f b ∧ valF f x - valF f b ≤ valF w b)) := by
  unfold burnsB
  rw [List.all_append, List.all_cons, List.all_nil, Bool.and_true]
structure BU where
  ds : List (Str × Str)
  w : List (Str × Int)
  f : List (Str × Int)
  few : ds.length ≤ 30
  fewF : f.length ≤ 1000
  nd : (f.map (·.1)).Nodup
  inF : ∀ p ∈ ds, p.1 ∈ f.map (·.1) ∧ p.2 ∈ f.map (·.1)
  inW : ∀ x ∈ f.map (·.1), x ∈ w.map (·.1)
  okS : ∀ x ∈ f.map (·.1), PyData.strOk x = true
def BU.rooms (i : BU) : List Str := i.f.map (·.1)
/-- a search: the rooms met, those that wait -/
structure Srch (i : BU) (first : Str) (m : List (Str × Option Str)) (wt : List Str) : Prop where
  M : Met (nearOf i.ds i.rooms) first m
  sub : ∀ x ∈ m.map (·.1), x ∈ i.rooms
  nd : wt.Nodup
  ws : ∀ x ∈ wt, x ∈ m.map (·.1)
/-- all beside those met are met, but of those that wait -/
def Swept (i : BU) (m : List (Str × Option Str)) (wt : List Str) : Prop := ∀ x ∈ m.map (·.1), x ∉ wt → ∀ y ∈ besides i.ds x, y ∈ m.map (·.1)
structure BS (i : BU) (first : Str) (m : List (Str × Option Str)) (wt : List Str) (δ : List Sl) : Prop where
  len : δ.length = 9
  d : δ[0]? = some (.val (prsD i.ds))
  w : δ[1]? = some (.val (.dic (dicS i.w D.int)))
  h : δ[2]? = some (.val (.dic (dicS i.f D.int)))
  mt : δ[4]? = some (.oL (m.map fun p => D.str p.1))
  wa : δ[5]? = some (.oL (wt.map D.str))
  so : δ[6]? = some (.val (.bl (burnsB i.w i.f m)))
theorem BS.upd {i : BU} {first : Str} {m : List (Str × Option Str)} {wt : List Str} {δ : List Sl} (h : BS i first m wt δ) {k : Nat} {s : Sl} (hk : 7 ≤ k) : BS i first m wt (δ.set k s) :=
  ⟨by rw [List.length_set]; exact h.len, by rw [List.getElem?_set_ne (by omega)]; exact h.d, by rw [List.getElem?_set_ne (by omega)]; exact h.w, by rw [List.getElem?_set_ne (by omega)]; exact h.h, by rw [List.getElem?_set_ne (by omega)]; exact h.mt, by rw [List.getElem?_set_ne (by omega)]; exact h.wa, by rw [List.getElem?_set_ne (by omega)]; exact h.so⟩
section
variable {K : PySem.W.Frag} {C : Addr} {Ω : List (Addr × Str)} {δ : List Sl} {O : Out → Prop}
def tReach (K : PySem.W.Frag) : TS := tIfS (tTest (tOp (rIn K true) (tVar 8) (tVar 4))) (tSeq (tDrop (tBM K "list" rAppend (tVar 4) (tCons (tVar 8) tNil))) (tSeq (tDrop (tBM K "list" rAppend (tVar 5) (tCons (tVar 8) tNil)))
  (tAsg (tAndV (tVar 6) (tChain leq leq (tC (V.int 1)) (tOp minus (tDGet (tVar 2) (tVar 8)) (tDGet (tVar 2) (tVar 7))) (tDGet (tVar 1) (tVar 7)))) (gName 6)))) tNext
theorem run_reach {i : BU} {first here there : Str} {m : List (Str × Option Str)} {wt : List Str} (S : Srch i first m wt) (h : BS i first m wt δ) (h7 : δ[7]? = some (.val (.str here))) (h8 : δ[8]? = some (.val (.str there))) (hh : here ∈ m.map (·.1)) (ht : there ∈ besides i.ds here)
    (old : there ∈ m.map (·.1) → O (.nx δ)) (new : there ∉ m.map (·.1) → ∀ δ', Srch i first (m ++ [(there, some here)]) (wt ++ [there]) → BS i first (m ++ [(there, some here)]) (wt ++ [there]) δ' → δ'[7]? = some (.val (.str here)) → O (.nx δ')) : Run K C Ω 0 (tReach K) δ O := by
  have big : (1000 : Nat) < sizeLine := by decide
  have hr := S.sub _ hh
  have tr : there ∈ i.rooms := by
    rcases besides_mem.mp ht with q | q
    · exact (i.inF _ q).2
    · exact (i.inF _ q).1
  have lm : m.length ≤ 1000 := by
    have := pigeon S.M.nd S.sub
    rw [List.length_map] at this
    have l2 : i.rooms.length = i.f.length := List.length_map ..
    have := i.fewF
    omega
  have lw : wt.length ≤ 1000 := by
    have := pigeon S.nd S.ws
    rw [List.length_map] at this
    omega
  have ct : EvT K C Ω 0 (tTest (tOp (rIn K true) (tVar 8) (tVar 4))) δ (· = !decide (there ∈ m.map (·.1))) := by
    refine et_peek h.mt rfl ?_
    have e8 : (δ.set 4 (.val (Sl.oL (m.map fun p => D.str p.1)).thing))[8]? = some (.val (.str there)) := by rw [List.getElem?_set_ne (by decide)]; exact h8
    have e4 : (δ.set 4 (.val (Sl.oL (m.map fun p => D.str p.1)).thing))[4]? = some (.val (.lst ((m.map (·.1)).map D.str))) := by
      rw [List.getElem?_set_self (by rw [h.len]; decide), List.map_map]
      rfl
    exact (et1 (ev_op1 (ev_var e8) (ev_var e4) (rv_in_strs (neg := true)))).le (by omega)
  refine (run_if ct (c2 := 0) (c3 := 0) (fun z => ?_) fun z => run_next (old ?_)).le (by omega)
  · have nt : there ∉ m.map (·.1) := fun q => by
      rw [decide_eq_true q] at z
      cases z
    refine (run_seq (c1 := 0) (c2 := 0) (N := fun δ1 => δ1 = δ.set 4 (.oL ((m ++ [(there, some here)]).map fun p => D.str p.1))) (run_app h.mt (by rw [List.length_map]; omega) (ev_var h8) fun d e => by
      rw [e, List.map_append]
      rfl) fun δ1 e1 => ?_).le (by omega)
    subst e1
    have f5 : (δ.set 4 (.oL ((m ++ [(there, some here)]).map fun p => D.str p.1)))[5]? = some (.oL (wt.map D.str)) := by rw [List.getElem?_set_ne (by decide)]; exact h.wa
    have f8 : (δ.set 4 (.oL ((m ++ [(there, some here)]).map fun p => D.str p.1)))[8]? = some (.val (.str there)) := by rw [List.getElem?_set_ne (by decide)]; exact h8
    refine (run_seq (c1 := 0) (c2 := 0) (N := fun δ2 => δ2 = (δ.set 4 (.oL ((m ++ [(there, some here)]).map fun p => D.str p.1))).set 5 (.oL ((wt ++ [there]).map D.str))) (run_app f5 (by rw [List.length_map]; omega) (ev_var f8) fun d e => by
      rw [e, List.map_append (l₁ := wt)]
      rfl) fun δ2 e2 => ?_).le (by omega)
    subst e2
    have keep : ∀ {n : Nat}, n ≠ 4 → n ≠ 5 → ((δ.set 4 (.oL ((m ++ [(there, some here)]).map fun p => D.str p.1))).set 5 (.oL ((wt ++ [there]).map D.str)))[n]? = δ[n]? := fun {n} a b => by rw [List.getElem?_set_ne (Ne.symm b), List.getElem?_set_ne (Ne.symm a)]
    have g4 : ((δ.set 4 (.oL ((m ++ [(there, some here)]).map fun p => D.str p.1))).set 5 (.oL ((wt ++ [there]).map D.str)))[4]? = some (.oL ((m ++ [(there, some here)]).map fun p => D.str p.1)) := by
      rw [List.getElem?_set_ne (by decide)]
      exact List.getElem?_set_self (by rw [h.len]; decide)
    have g5 : ((δ.set 4 (.oL ((m ++ [(there, some here)]).map fun p => D.str p.1))).set 5 (.oL ((wt ++ [there]).map D.str)))[5]? = some (.oL ((wt ++ [there]).map D.str)) := List.getElem?_set_self (by rw [List.length_set, h.len]; decide)
    have gl : ((δ.set 4 (.oL ((m ++ [(there, some here)]).map fun p => D.str p.1))).set 5 (.oL ((wt ++ [there]).map D.str))).length = 9 := by
      rw [List.length_set, List.length_set]
      exact h.len
    have k2 := (keep (n := 2) (by decide) (by decide)).trans h.h
    have k1 := (keep (n := 1) (by decide) (by decide)).trans h.w
    have k0 := (keep (n := 0) (by decide) (by decide)).trans h.d
    have k6 := (keep (n := 6) (by decide) (by decide)).trans h.so
    have k7 := (keep (n := 7) (by decide) (by decide)).trans h7
    have k8 := (keep (n := 8) (by decide) (by decide)).trans h8
    generalize (δ.set 4 (.oL ((m ++ [(there, some here)]).map fun p => D.str p.1))).set 5 (.oL ((wt ++ [there]).map D.str)) = δ3 at g4 g5 gl k0 k1 k2 k6 k7 k8 ⊢
    have sub := (ev_op1 (K := K) (C := C) (Ω := Ω) (ev_at k2 k8 tr) (ev_at k2 k7 hr) (rv_int (g := fun i j => i - j))).le (c := 0) (by omega)
    have chn := ev_chain (K := K) (C := C) (Ω := Ω) (ev_int (x := 1)) sub (ev_at k1 k7 (i.inW _ hr))
    have both : Ev K C Ω 0 (tAndV (tVar 6) (tChain leq leq (tC (V.int 1)) (tOp minus (tDGet (tVar 2) (tVar 8)) (tDGet (tVar 2) (tVar 7))) (tDGet (tVar 1) (tVar 7)))) δ3 (· = .bl (burnsB i.w i.f (m ++ [(there, some here)]))) :=
      ((ev_and (c1 := 0) (c2 := 0) (RT := (· = burnsB i.w i.f m)) (RU := (· = burnsB i.w i.f (m ++ [(there, some here)]))) ((ev_var k6).imp fun d e => ⟨_, e, rfl⟩) (fun z => chn.imp fun d e => ⟨_, e, by rw [burns_add, ← z, Bool.true_and]⟩) fun z => by rw [burns_add, ← z, Bool.false_and]).imp fun d ⟨k, e, ek⟩ => by rw [e, ek]).le (by omega)
    refine run_asg both fun d e => new nt _ ⟨S.M.add hh (look_near hr) ht nt, fun x hx => ?_, ?_, fun x hx => ?_⟩ ⟨by rw [List.length_set]; exact gl, by rw [List.getElem?_set_ne (by decide)]; exact k0, by rw [List.getElem?_set_ne (by decide)]; exact k1, by rw [List.getElem?_set_ne (by decide)]; exact k2, by rw [List.getElem?_set_ne (by decide)]; exact g4, by rw [List.getElem?_set_ne (by decide)]; exact g5, by rw [List.getElem?_set_self (by rw [gl]; decide), e]⟩ (by rw [List.getElem?_set_ne (by decide)]; exact k7)
    · rw [List.map_append] at hx
      rcases List.mem_append.mp hx with q | q
      · exact S.sub x q
      · have q : x = there := by simpa using q
        rw [q]
        exact tr
    · rw [List.nodup_append]
      exact ⟨S.nd, by simp, fun a ha b hb e => nt (by rw [← List.mem_singleton.mp hb, ← e]; exact S.ws a ha)⟩
    · rw [List.map_append]
      rcases List.mem_append.mp hx with q | q
      · exact List.mem_append_left _ (S.ws x q)
      · rw [List.mem_singleton.mp q]
        exact List.mem_append_right _ (by simp)
  · apply Classical.byContradiction
    intro q
    rw [decide_eq_false q] at z
    cases z
def tSweep (K : PySem.W.Frag) (C : Addr) (Ω : List (Addr × Str)) : TS := tFor (iList K (tCall (spBeside K C Ω) [] C8.E0 (tCons (tVar 0) (tCons (tVar 7) tNil)))) (gName 8) (tReach K)
theorem run_sweep {i : BU} {first here : Str} {m : List (Str × Option Str)} {wt : List Str} (S : Srch i first m wt) (sw : ∀ x ∈ m.map (·.1), x ∉ wt → x ≠ here → ∀ y ∈ besides i.ds x, y ∈ m.map (·.1)) (hw : here ∉ wt) (h : BS i first m wt δ) (h7 : δ[7]? = some (.val (.str here))) (hh : here ∈ m.map (·.1))
    (hO : ∀ m' wt' δ', Srch i first m' wt' → Swept i m' wt' → BS i first m' wt' δ' → 2 * (i.rooms.length - m'.length) + wt'.length ≤ 2 * (i.rooms.length - m.length) + wt.length → O (.nx δ')) : Run K C Ω 0 (tSweep K C Ω) δ O := by
  have few := i.few
  have bl := besides_len i.ds here
  refine (run_for (n := 60) (c2 := 0) (RL := (· = (besides i.ds here).map D.str)) (Pv := fun _ k δ1 => ∃ m' wt', Srch i first m' wt' ∧ BS i first m' wt' δ1 ∧ δ1[7]? = some (.val (.str here)) ∧ here ∈ m'.map (·.1) ∧ here ∉ wt' ∧ (∀ j y, j < k → (besides i.ds here)[j]? = some y → y ∈ m'.map (·.1)) ∧ (∀ x ∈ m'.map (·.1), x ∉ wt' → x ≠ here → ∀ y ∈ besides i.ds x, y ∈ m'.map (·.1)) ∧ 2 * (i.rooms.length - m'.length) + wt'.length ≤ 2 * (i.rooms.length - m.length) + wt.length)
    (it_list1 (ev_beside (i := 0) (j := 7) (b := ⟨i.ds, here, i.few⟩) h.d h7)) (fun xs e => by rw [e, List.length_map]; omega) (fun xs e => ⟨m, wt, S, h, h7, hh, hw, fun j y hj => absurd hj (Nat.not_lt_zero j), sw, Nat.le_refl _⟩) (fun xs k x δ2 e hx hp => ?_) fun xs δ2 e hp => ?_).le (by omega)
  · subst e
    obtain ⟨m', wt', S', h', g7, hh', hw', dn, sw', ms⟩ := hp
    rw [List.getElem?_map] at hx
    obtain ⟨y, hy, rfl⟩ := Option.map_eq_some_iff.mp hx
    have f7 : (δ2.set 8 (.val (.str y)))[7]? = some (.val (.str here)) := by rw [List.getElem?_set_ne (by decide)]; exact g7
    have f8 : (δ2.set 8 (.val (.str y)))[8]? = some (.val (.str y)) := List.getElem?_set_self (by rw [h'.len]; decide)
    refine ⟨_, tf_name, run_reach S' (h'.upd (k := 8) (by decide)) f7 f8 hh' (List.mem_of_getElem? hy) (fun old => ⟨m', wt', S', h'.upd (by decide), f7, hh', hw', fun j z hj hz => ?_, sw', ms⟩) fun nt δ' S2 h2 k7 => ⟨_, _, S2, h2, k7, ?_, ?_, fun j z hj hz => ?_, fun x hx nx ne z hz => ?_, ?_⟩⟩
    · rcases Nat.lt_or_ge j k with c | c
      · exact dn j z c hz
      · have : j = k := by omega
        rw [this, hy] at hz
        cases hz
        exact old
    · rw [List.map_append]
      exact List.mem_append_left _ hh'
    · intro q
      rcases List.mem_append.mp q with q | q
      · exact hw' q
      · exact nt (by rw [← List.mem_singleton.mp q]; exact hh')
    · rw [List.map_append]
      rcases Nat.lt_or_ge j k with c | c
      · exact List.mem_append_left _ (dn j z c hz)
      · have : j = k := by omega
        rw [this, hy] at hz
        cases hz
        exact List.mem_append_right _ (by simp)
    · rw [List.map_append] at hx ⊢
      rcases List.mem_append.mp hx with q | q
      · exact List.mem_append_left _ (sw' x q (fun w => nx (List.mem_append_left _ w)) ne z hz)
      · have q : x = y := by simpa using q
        exact absurd (List.mem_append_right _ (by simp [q])) nx
    · have l2 := pigeon S2.M.nd S2.sub
      rw [List.length_map] at l2
      rw [List.length_append, List.length_append] at *
      simp at l2 ⊢
      omega
  · subst e
    obtain ⟨m', wt', S', h', g7, hh', hw', dn, sw', ms⟩ := hp
    refine hO m' wt' δ2 S' (fun x hx nx y hy => ?_) h' ms
    by_cases e : x = here
    · subst e
      obtain ⟨j, hj⟩ := List.getElem?_of_mem hy
      exact dn j y (by rw [List.length_map]; exact (List.getElem?_eq_some_iff.mp hj).1) hj
    · exact sw' x hx nx e y hy
def tSearch (K : PySem.W.Frag) (C : Addr) (Ω : List (Addr × Str)) : TS := tWhile (tTest (tOp (rNeD K) (tVar 5) (tLst tNil))) (tSeq (tAsg (tBM0 K "list" rPop (tVar 5)) (gName 7)) (tSweep K C Ω))
/-- a search gone through -/
def Sch (i : BU) (first : Str) (m : List (Str × Option Str)) : Prop := Met (nearOf i.ds i.rooms) first m ∧ (∀ x ∈ m.map (·.1), x ∈ i.rooms) ∧ ∀ x ∈ m.map (·.1), ∀ y ∈ besides i.ds x, y ∈ m.map (·.1)
theorem run_search {i : BU} {first : Str} {m : List (Str × Option Str)} {wt : List Str} (S : Srch i first m wt) (sw : Swept i m wt) (h : BS i first m wt δ) (hO : ∀ m' δ', Sch i first m' → BS i first m' [] δ' → O (.nx δ')) : Run K C Ω 0 (tSearch K C Ω) δ O := by
  refine run_while (n0 := 2 * (i.rooms.length - m.length) + wt.length) (Pv := fun n δ1 => ∃ m' wt', Srch i first m' wt' ∧ Swept i m' wt' ∧ BS i first m' wt' δ1 ∧ n = 2 * (i.rooms.length - m'.length) + wt'.length) ⟨m, wt, S, sw, h, rfl⟩ ?_
  rintro n δ1 ⟨m', wt', S', sw', h', rfl⟩
  have okw : ∀ x ∈ wt', PyData.strOk x = true := fun x hx => i.okS x (S'.sub x (S'.ws x hx))
  have ct : EvT K C Ω 0 (tTest (tOp (rNeD K) (tVar 5) (tLst tNil))) δ1 (· = !decide (wt' = [])) := by
    refine et_peek h'.wa rfl ?_
    have e5 : (δ1.set 5 (.val (Sl.oL (wt'.map D.str)).thing))[5]? = some (.val (.lst (wt'.map D.str))) := by
      rw [List.getElem?_set_self (by rw [h'.len]; decide)]
      rfl
    have en : Ev K C Ω 0 (tLst tNil) (δ1.set 5 (.val (Sl.oL (wt'.map D.str)).thing)) (· = .lst (([] : List Str).map D.str)) := ev_l (el_lst ea_nil fun ds e => by rw [e]; exact Nat.zero_le _)
    exact (et1 (ev_op1 (ev_var e5) en (rv_neStrs okw fun x hx => absurd hx (by simp)))).le (by omega)
  refine ⟨_, ct, fun z => ?_, fun z => ?_⟩
  · have nw : wt' ≠ [] := fun q => by
      rw [decide_eq_true q] at z
      cases z
    obtain ⟨here, ew⟩ : ∃ here, wt' = wt'.dropLast ++ [here] := ⟨wt'.getLast nw, (List.dropLast_concat_getLast nw).symm⟩
    generalize wt'.dropLast = w0 at ew
    subst ew
    have hh := S'.ws here (by simp)
    have nd := S'.nd
    rw [List.nodup_append] at nd
    have hw : here ∉ w0 := fun q => nd.2.2 here q here (by simp) rfl
    have pl : ((w0 ++ [here]).map D.str)[((w0 ++ [here]).map D.str).length - 1]? = some (D.str here) := by
      rw [List.map_append, List.length_append]
      simp
    refine (run_seq (c1 := 0) (c2 := 0) (N := fun δ2 => δ2 = (δ1.set 5 (.oL (w0.map D.str))).set 7 (.val (.str here))) (run_pop h'.wa (by decide) pl (by rw [List.map_append]; simp [thenO])) fun δ2 e => ?_).le (by omega)
    subst e
    have b2 : BS i first m' w0 ((δ1.set 5 (.oL (w0.map D.str))).set 7 (.val (.str here))) := by
      refine BS.upd ⟨by rw [List.length_set]; exact h'.len, by rw [List.getElem?_set_ne (by decide)]; exact h'.d, by rw [List.getElem?_set_ne (by decide)]; exact h'.w, by rw [List.getElem?_set_ne (by decide)]; exact h'.h, by rw [List.getElem?_set_ne (by decide)]; exact h'.mt, List.getElem?_set_self (by rw [h'.len]; decide), by rw [List.getElem?_set_ne (by decide)]; exact h'.so⟩ (by decide)
    have g7 : ((δ1.set 5 (.oL (w0.map D.str))).set 7 (.val (.str here)))[7]? = some (.val (.str here)) := List.getElem?_set_self (by rw [List.length_set, h'.len]; decide)
    refine run_sweep ⟨S'.M, S'.sub, nd.1, fun x hx => S'.ws x (List.mem_append_left _ hx)⟩ (fun x hx nx ne y hy => sw' x hx (fun q => (List.mem_append.mp q).elim nx fun q => ne (List.mem_singleton.mp q)) y hy) hw b2 g7 hh fun m2 wt2 δ' S2 sw2 h2 ms => ⟨2 * (i.rooms.length - m2.length) + wt2.length, ?_, m2, wt2, S2, sw2, h2, rfl⟩
    rw [List.length_append]
    simp
    omega
  · have ew : wt' = [] := by
      apply Classical.byContradiction
      intro q
      rw [decide_eq_false q] at z
      cases z
    subst ew
    exact hO m' δ1 ⟨S'.M, S'.sub, fun x hx y hy => sw' x hx (by simp) y hy⟩ h'
end
end Z
set_option maxRecDepth 100000
set_option maxHeartbeats 1000000
set_option linter.all false
namespace Z
open PySem PySem.Spec
open PyProof.Rows L2 LamX
section
variable {K : PySem.W.Frag} {C : Addr} {Ω : List (Addr × Str)} {δ : List Sl} {O : Out → Prop}
def tBurns (K : PySem.W.Frag) (C : Addr) (Ω : List (Addr × Str)) : TS := tSeq
  (tLkS (tFor (iKeys (tVar 2)) (gName 3) (tSeq (tPar3 4 5 6 (tCons (tLst (tCons (tVar 3) tNil)) (tCons (tLst (tCons (tVar 3) tNil)) (tCons (tC (V.bl true)) tNil)))) (tSeq (tSearch K C Ω) (tIfS (tB (tVar 6)) (tRet (tC (V.bl true))) tNext)))))
  (tRet (tC (V.bl false)))
/-- some search finds all within their woods, or none does -/
def BurnsB (i : BU) (b : Bool) : Prop := (b = true ∧ ∃ first m, first ∈ i.rooms ∧ Sch i first m ∧ burnsB i.w i.f m = true) ∨ (b = false ∧ ∀ first ∈ i.rooms, ∃ m, Sch i first m ∧ burnsB i.w i.f m = false)
abbrev spBurns (K : PySem.W.Frag) (C : Addr) (Ω : List (Addr × Str)) : Sp := SpX K C Ω (fun _ => 0) (fun i : BU => [prsD i.ds, .dic (dicS i.w D.int), .dic (dicS i.f D.int)]) fun i d => ∃ b, BurnsB i b ∧ d = .bl b
theorem run_burns (i : BU) : Run K C Ω 0 (tBurns K C Ω) (startS 9 [prsD i.ds, .dic (dicS i.w D.int), .dic (dicS i.f D.int)]) (retO fun d => ∃ b, BurnsB i b ∧ d = .bl b) := by
  have ks : keysOf (dicS i.f D.int) = i.rooms.map D.str := by
    unfold keysOf dicS BU.rooms
    rw [List.map_map, List.map_map]
    rfl
  have lf : i.rooms.length = i.f.length := List.length_map ..
  have few := i.fewF
  refine (run_seq (c1 := 0) (c2 := 0) (N := fun _ => ∀ first ∈ i.rooms, ∃ m, Sch i first m ∧ burnsB i.w i.f m = false)
    ((run_keys (n := 1000) (c2 := 0) (ds := dicS i.f D.int) (Pv := fun k δ1 => (∀ j x, j < k → i.rooms[j]? = some x → ∃ m, Sch i x m ∧ burnsB i.w i.f m = false) ∧ δ1.length = 9 ∧ δ1[0]? = some (.val (prsD i.ds)) ∧ δ1[1]? = some (.val (.dic (dicS i.w D.int))) ∧ δ1[2]? = some (.val (.dic (dicS i.f D.int))))
      (atd_var rfl) (by rw [ks, List.length_map]; omega) ⟨fun j x hj => absurd hj (Nat.not_lt_zero j), by simp [startS], rfl, rfl, rfl⟩ (fun k x δ1 hx hp => ?_) fun δ1 hp => ?_).le (by omega)) fun δ' hn => run_ret ev_bl fun d e => ⟨false, .inr ⟨rfl, hn⟩, e⟩).le (by omega)
  · obtain ⟨dn, len, h0, h1, h2⟩ := hp
    rw [ks, List.getElem?_map] at hx
    obtain ⟨r, hr, rfl⟩ := Option.map_eq_some_iff.mp hx
    have rin : r ∈ i.rooms := List.mem_of_getElem? hr
    refine ⟨_, tf_name, ?_⟩
    have g3 : (δ1.set 3 (.val (.str r)))[3]? = some (.val (.str r)) := List.getElem?_set_self (by rw [len]; decide)
    have w : ∀ {n : Nat}, n ≠ 3 → (δ1.set 3 (.val (.str r)))[n]? = δ1[n]? := fun {n} a => List.getElem?_set_ne (Ne.symm a)
    have gl : (δ1.set 3 (.val (.str r))).length = 9 := by rw [List.length_set]; exact len
    have k0 := (w (n := 0) (by decide)).trans h0
    have k1 := (w (n := 1) (by decide)).trans h1
    have k2 := (w (n := 2) (by decide)).trans h2
    generalize δ1.set 3 (.val (.str r)) = δ2 at g3 gl k0 k1 k2 ⊢
    refine (run_seq (c1 := 0) (c2 := 0) (N := fun δ3 => BS i r [(r, none)] [r] δ3) (run_par3 (by decide) (by decide) (by decide) g3 ?_) fun δ3 b3 => ?_).le (by omega)
    · have keep : ∀ {n : Nat} {x y z : Sl}, n < 4 → (((δ2.set 6 x).set 4 y).set 5 z)[n]? = δ2[n]? := fun {n x y z} a => by rw [List.getElem?_set_ne (by omega), List.getElem?_set_ne (by omega), List.getElem?_set_ne (by omega)]
      refine ⟨by rw [List.length_set, List.length_set, List.length_set]; exact gl, (keep (by decide)).trans k0, (keep (by decide)).trans k1, (keep (by decide)).trans k2, ?_, ?_, ?_⟩
      · rw [List.getElem?_set_ne (by decide), List.getElem?_set_self (by rw [List.length_set, gl]; decide)]
        rfl
      · rw [List.getElem?_set_self (by rw [List.length_set, List.length_set, gl]; decide)]
        rfl
      · rw [List.getElem?_set_ne (by decide), List.getElem?_set_ne (by decide), List.getElem?_set_self (by rw [gl]; decide)]
        rfl
    · refine (run_seq (c1 := 0) (c2 := 0) (N := fun δ4 => ∃ m, Sch i r m ∧ BS i r m [] δ4) (run_search ⟨Met.start, fun x hx => by simp at hx; rw [hx]; exact rin, by simp, fun x hx => by simpa using hx⟩ (fun x hx nx => absurd (by simpa using hx) nx) b3 fun m' δ' a b => ⟨m', a, b⟩) fun δ4 ⟨m, sc, b4⟩ => ?_).le (by omega)
      refine (run_if (RT := (· = burnsB i.w i.f m)) (et1B (ev_var b4.so)) (c2 := 0) (c3 := 0) (fun z => run_ret ev_bl fun d e => ⟨true, .inl ⟨rfl, r, m, rin, sc, z.symm⟩, e⟩) fun z => run_next ⟨fun j x hj hx => ?_, b4.len, b4.d, b4.w, b4.h⟩).le (by omega)
      rcases Nat.lt_or_ge j k with c | c
      · exact dn j x c hx
      · have : j = k := by omega
        rw [this, hr] at hx
        cases hx
        exact ⟨m, sc, z.symm⟩
  · obtain ⟨dn, _⟩ := hp
    rw [ks, List.length_map] at dn
    intro first hf
    obtain ⟨j, hj⟩ := List.getElem?_of_mem hf
    exact dn j first (List.getElem?_eq_some_iff.mp hj).1 hj
end
end Z
set_option maxRecDepth 100000
set_option maxHeartbeats 1000000
set_option linter.all false
namespace Z
open PySem PySem.Spec
open PyProof.Rows L2 LamX
/-! all fires from a room held against the spreads -/
def rgI (a b : Int) : List Int := (List.range (b - a).toNat).map fun k => a + (k : Nat)
section
variable {K : PySem.W.Frag} {C : Addr} {Ω : List (Addr × Str)} {δ : List Sl} {O : Out → Prop}
theorem el_range {ta tb : TE} {a b : Int} (ha : Ev K C Ω 0 ta δ (· = .int a)) (hb : Ev K C Ω 0 tb δ (· = .int b)) (ok : RgOk a b) (e : rgV a b = (rgI a b).map V.int) : EvL K C Ω 0 (tLstRg (tRg2 ta tb)) δ (· = (rgI a b).map D.int) := fun W F G H σ o s m Q q =>
  ha W F G H σ o s m _ fun x G1 H1 d1 st1 dd1 e1 => hb W F G1 H1 σ (st1.ok o) (s.step o st1) (cost1 (c1 := 0) (c2 := 0) st1 (by omega)) _ fun y G2 H2 d2 st2 dd2 e2 => by
    subst e1 e2
    cases dd1
    cases dd2
    refine ⟨a, b, rfl, rfl, ok, fun p hp => ?_⟩
    have st := st1.trans st2
    have o2 := st.ok o
    rw [e]
    exact q p _ G2 _ _ ((st.trans (o2.own (o := .lst ((rgI a b).map V.int)) hp)).le (by omega)) (none_of_ne fun z => st.dom z hp) (o2.gnone hp) upd_same (dens_ints _) rfl
end
theorem rg_map (a b : Int) : rgV a b = (rgI a b).map V.int := by
  unfold rgV rgI
  rw [List.map_map]
  rfl
def diffs (fs : List (List (Str × Int))) (r first : Str) : List Int := fs.map fun f => valF f r - valF f first
def wayWood (w : List (Str × Int)) (bs : List Str) : Int := (bs.dropLast.map (valF w)).sum
/-- how often a room's wood counts -/
def timesOf (ds : List (Str × Str)) (first r : Str) : Nat := ((besides ds r).length : Int).toNat - (if r = first then 0 else 1)
def manyOf (ds : List (Str × Str)) (w : List (Str × Int)) (first : Str) (ks : List Str) : Int := ks.foldl (fun a r => a * valF w r ^ timesOf ds first r) 1
structure SR where
  w : HW
  cn : Conn w.h
  ds : List (Str × Str)
  fewD : ds.length ≤ 30
  first : Str
  hf : first ∈ w.h.rooms
  fires : List (List (Str × Int))
  fewF : fires.length ≤ 100000
  inF : ∀ f ∈ fires, ∀ x ∈ w.h.rooms, x ∈ f.map (·.1)
  ks : ∀ x ∈ w.m.map (·.1), x ∈ w.h.rooms
  fewW : w.m.length ≤ 1000
  low : ∀ x ∈ w.m.map (·.1), valF w.m x < 2 ^ 64
  right : ∀ x ∈ w.m.map (·.1), ∀ bs, WayOf w.h first x bs → isort (onces (diffs fires x first)) = rgI ((bs.length : Int) - 1) (wayWood w.m bs + 1) ∧ RgOk ((bs.length : Int) - 1) (wayWood w.m bs + 1) ∧ (onces (diffs fires x first)).length < 64
  cnt : manyOf ds w.m first (w.m.map (·.1)) = fires.length
def firesD (fs : List (List (Str × Int))) : D := .lst (fs.map fun f => .dic (dicS f D.int))
section
variable {K : PySem.W.Frag} {C : Addr} {Ω : List (Addr × Str)} {δ : List Sl} {O : Out → Prop}
structure SS (i : SR) (δ : List Sl) : Prop where
  len : δ.length = 12
  h : δ[0]? = some (.val i.w.h.d)
  d : δ[1]? = some (.val (prsD i.ds))
  w : δ[2]? = some (.val (.dic (dicS i.w.m D.int)))
  f : δ[3]? = some (.val (.str i.first))
  a : δ[4]? = some (.val (firesD i.fires))
theorem SS.upd {i : SR} {δ : List Sl} (h : SS i δ) {k : Nat} {s : Sl} (hk : 5 ≤ k) : SS i (δ.set k s) :=
  ⟨by rw [List.length_set]; exact h.len, by rw [List.getElem?_set_ne (by omega)]; exact h.h, by rw [List.getElem?_set_ne (by omega)]; exact h.d, by rw [List.getElem?_set_ne (by omega)]; exact h.w, by rw [List.getElem?_set_ne (by omega)]; exact h.f, by rw [List.getElem?_set_ne (by omega)]; exact h.a⟩
def tDiffs (K : PySem.W.Frag) : TE := tLc (iList K (tVar 4)) (gName 9) tYes (tOp minus (tDGet (tVar 9) (tVar 5)) (tDGet (tVar 9) (tVar 3))) [9]
theorem el_diffs {i : SR} {r : Str} (h : SS i δ) (h5 : δ[5]? = some (.val (.str r))) (hr : r ∈ i.w.h.rooms) : EvL K C Ω 0 (tDiffs K) δ (· = (diffs i.fires r i.first).map D.int) := by
  have few := i.fewF
  have big : (100000 : Nat) < sizeLine := by decide
  refine ((el_map (K := K) (C := C) (Ω := Ω) (n := 100000) (vs := [9]) (g := gName 9) (te := tOp minus (tDGet (tVar 9) (tVar 5)) (tDGet (tVar 9) (tVar 3))) (xs := i.fires.map fun f => .dic (dicS f D.int))
    (f := fun d => match d with
      | .dic kvs => (match lookK kvs (Sum.inr r), lookK kvs (Sum.inr i.first) with
        | some (.int a), some (.int b) => .int (a - b)
        | _, _ => .non)
      | _ => .non) (it_list1 (ev_var h.a)) (by rw [List.length_map]; exact few) big fun x hx => ?_).imp fun xs e => ?_).le (by omega)
  · obtain ⟨f, hf, rfl⟩ := List.mem_map.mp hx
    have k5 : ((wipeS δ [9]).set 9 (.val (.dic (dicS f D.int))))[5]? = some (.val (.str r)) := by
      rw [List.getElem?_set_ne (by decide)]
      show (δ.set 9 .un)[5]? = _
      rw [List.getElem?_set_ne (by decide)]
      exact h5
    have k3 : ((wipeS δ [9]).set 9 (.val (.dic (dicS f D.int))))[3]? = some (.val (.str i.first)) := by
      rw [List.getElem?_set_ne (by decide)]
      show (δ.set 9 .un)[3]? = _
      rw [List.getElem?_set_ne (by decide)]
      exact h.f
    have k9 : ((wipeS δ [9]).set 9 (.val (.dic (dicS f D.int))))[9]? = some (.val (.dic (dicS f D.int))) := List.getElem?_set_self (by show 9 < (δ.set 9 .un).length; rw [List.length_set, h.len]; decide)
    refine ⟨_, tg_name (.inr (by simp)) (by simp), ((ev_op1 (ev_at k9 k5 (i.inF f hf r hr)) (ev_at k9 k3 (i.inF f hf i.first i.hf)) (rv_int (g := fun i j => i - j))).imp fun d e => ?_).le (by omega)⟩
    obtain ⟨v1, hv1⟩ := Option.isSome_iff_exists.mp (look_mem.mpr (i.inF f hf r hr))
    obtain ⟨v2, hv2⟩ := Option.isSome_iff_exists.mp (look_mem.mpr (i.inF f hf i.first i.hf))
    rw [e]
    simp only [look_dicS, hv1, hv2, Option.map_some, valF, Option.getD_some]
  · rw [e, List.map_map]
    unfold diffs
    rw [List.map_map]
    apply List.map_congr_left
    intro f hf
    obtain ⟨v1, hv1⟩ := Option.isSome_iff_exists.mp (look_mem.mpr (i.inF f hf r hr))
    obtain ⟨v2, hv2⟩ := Option.isSome_iff_exists.mp (look_mem.mpr (i.inF f hf i.first i.hf))
    show (match lookK (dicS f D.int) (Sum.inr r), lookK (dicS f D.int) (Sum.inr i.first) with
      | some (.int a), some (.int b) => D.int (a - b)
      | _, _ => .non) = D.int (valF f r - valF f i.first)
    simp only [look_dicS, hv1, hv2, Option.map_some, valF, Option.getD_some]
def tSpreadB (K : PySem.W.Frag) (C : Addr) (Ω : List (Addr × Str)) : TS := tSeq (tAsg (tCall (spSpread K C Ω) [] C8.E0 (tCons (tVar 0) (tCons (tVar 2) (tCons (tVar 3) (tCons (tVar 5) tNil))))) (gTup K 2 (gCons (gName 6) (gCons (gName 7) gNil))))
  (tSeq (tAsg (tCB (rSorted K) (tCons (tCall (spOnce K C Ω) [] C8.E0 (tCons (tDiffs K) tNil)) tNil)) (gName 8)) (tIfS (tTest (tOp (rNeD K) (tVar 8) (tLstRg (tRg2 (tVar 6) (tOp plus (tVar 7) (nr 1)))))) (tRet (tC (V.bl false))) tNext))
theorem run_spreadB {i : SR} {r : Str} (h : SS i δ) (h5 : δ[5]? = some (.val (.str r))) (hr : r ∈ i.w.m.map (·.1)) (hO : ∀ δ', SS i δ' → O (.nx δ')) : Run K C Ω 0 (tSpreadB K C Ω) δ O := by
  have rr := i.ks r hr
  have few := i.fewF
  have sp : Ev K C Ω 0 (tCall (spSpread K C Ω) [] C8.E0 (tCons (tVar 0) (tCons (tVar 2) (tCons (tVar 3) (tCons (tVar 5) tNil))))) δ (fun d => ∃ bs, WayOf i.w.h i.first r bs ∧ d = .tup [.int ((bs.length : Int) - 1), .int (wayWood i.w.m bs)]) :=
    (ev_callX (cc := fun _ => 0) (A := fun i : SPi => [i.w.h.d, .dic (dicS i.w.m D.int), .str i.one, .str i.other]) (Rx := fun i d => ∃ bs, WayOf i.w.h i.one i.other bs ∧ d = .tup [.int ((bs.length : Int) - 1), .int ((bs.dropLast.map (valF i.w.m)).sum)]) ⟨i.w, i.cn, i.first, r, i.hf, rr⟩ (ea1 (ev_var h.h) (ea1 (ev_var h.w) (ea1 (ev_var h.f) (ea1 (ev_var h5) ea_nil))))).le (by omega)
  refine (run_seq (c1 := 0) (c2 := 0) (N := fun δ1 => ∃ bs, WayOf i.w.h i.first r bs ∧ SS i δ1 ∧ δ1[5]? = some (.val (.str r)) ∧ δ1[6]? = some (.val (.int ((bs.length : Int) - 1))) ∧ δ1[7]? = some (.val (.int (wayWood i.w.m bs)))) ?_ fun δ1 ⟨bs, wo, s1, k5, k6, k7⟩ => ?_).le (by omega)
  · refine run_asgG (δ' := fun d => match d with
      | .tup [x, y] => (δ.set 6 (.val x)).set 7 (.val y)
      | _ => δ) sp (fun d ⟨bs, _, e⟩ => by rw [e]; exact tf_pair) fun d ⟨bs, wo, e⟩ => ?_
    subst e
    exact ⟨bs, wo, (h.upd (by decide)).upd (by decide), by rw [List.getElem?_set_ne (by decide), List.getElem?_set_ne (by decide)]; exact h5, by rw [List.getElem?_set_ne (by decide)]; exact List.getElem?_set_self (by rw [h.len]; decide), List.getElem?_set_self (by rw [List.length_set, h.len]; decide)⟩
  · obtain ⟨eq, rok, l64⟩ := i.right r hr bs wo
    have ld : (diffs i.fires r i.first).length ≤ 100000 := by
      unfold diffs
      rw [List.length_map]
      exact few
    have on : Ev K C Ω 0 (tCall (spOnce K C Ω) [] C8.E0 (tCons (tDiffs K) tNil)) δ1 (· = .lst ((onces (diffs i.fires r i.first)).map D.int)) := (ev_callX (cc := fun _ => 0) (A := fun i : ON => [.lst (i.xs.map D.int)]) (Rx := fun i d => d = .lst ((onces i.xs).map D.int)) ⟨diffs i.fires r i.first, ld⟩ (ea1 (ev_l (el_diffs s1 k5 rr)) ea_nil)).le (by omega)
    have so : Ev K C Ω 0 (tCB (rSorted K) (tCons (tCall (spOnce K C Ω) [] C8.E0 (tCons (tDiffs K) tNil)) tNil)) δ1 (· = .lst ((isort (onces (diffs i.fires r i.first))).map D.int)) := ev_l (el_cb (ea1 on ea_nil) fun ds e => by
      subst e
      exact rl_sortI l64)
    refine (row_asg1 (c1 := 0) (c2 := 0) so ?_).le (by omega)
    have s2 := s1.upd (k := 8) (s := .val (.lst ((isort (onces (diffs i.fires r i.first))).map D.int))) (by decide)
    have g6 : (δ1.set 8 (.val (.lst ((isort (onces (diffs i.fires r i.first))).map D.int))))[6]? = some (.val (.int ((bs.length : Int) - 1))) := by rw [List.getElem?_set_ne (by decide)]; exact k6
    have g7 : (δ1.set 8 (.val (.lst ((isort (onces (diffs i.fires r i.first))).map D.int))))[7]? = some (.val (.int (wayWood i.w.m bs))) := by rw [List.getElem?_set_ne (by decide)]; exact k7
    have g8 : (δ1.set 8 (.val (.lst ((isort (onces (diffs i.fires r i.first))).map D.int))))[8]? = some (.val (.lst ((isort (onces (diffs i.fires r i.first))).map D.int))) := List.getElem?_set_self (by rw [s1.len]; decide)
    generalize δ1.set 8 (.val (.lst ((isort (onces (diffs i.fires r i.first))).map D.int))) = δ2 at s2 g6 g7 g8 ⊢
    have up := (ev_op1 (K := K) (C := C) (Ω := Ω) (ev_var g7) (ev_int (x := 1)) (rv_int (g := fun i j => i + j))).le (c := 0) (by omega)
    have rg := ev_l (el_range (K := K) (C := C) (Ω := Ω) (ev_var g6) up rok (rg_map _ _))
    have ct : EvT K C Ω 0 (tTest (tOp (rNeD K) (tVar 8) (tLstRg (tRg2 (tVar 6) (tOp plus (tVar 7) (nr 1)))))) δ2 (· = false) := ((et1 (ev_op1 (ev_var g8) rg rv_neInts)).imp fun b e => by
      rw [e, eq]
      simp).le (by omega)
    exact (run_if ct (c2 := 0) (c3 := 0) (fun z => by cases z) fun _ => run_next (hO δ2 s2)).le (by omega)
/-! how many fires -/
def tHow (K : PySem.W.Frag) (C : Addr) (Ω : List (Addr × Str)) : TE := tOp minus (tCB (rLenV K) (tCons (tCall (spBeside K C Ω) [] C8.E0 (tCons (tVar 1) (tCons (tVar 5) tNil))) tNil)) (tCB asInt (tCons (tOp rNe (tVar 5) (tVar 3)) tNil))
def tMulB (K : PySem.W.Frag) (C : Addr) (Ω : List (Addr × Str)) : TS := tFor (iRng1 (tCons (tHow K C Ω) tNil)) (gName 11) (tAsg (tOp times (tVar 10) (tDGet (tVar 2) (tVar 5))) (gName 10))
theorem ev_how {i : SR} {r : Str} (h : SS i δ) (h5 : δ[5]? = some (.val (.str r))) : Ev K C Ω 0 (tHow K C Ω) δ (· = .int (((besides i.ds r).length : Int) - (if r = i.first then 0 else 1))) := by
  have few := i.fewD
  have be := ev_beside (K := K) (C := C) (Ω := Ω) (i := 1) (j := 5) (b := ⟨i.ds, r, i.fewD⟩) h.d h5
  have ln : Ev K C Ω 0 (tCB (rLenV K) (tCons (tCall (spBeside K C Ω) [] C8.E0 (tCons (tVar 1) (tCons (tVar 5) tNil))) tNil)) δ (· = .int (besides i.ds r).length) := ev_cb (ea1 be ea_nil) fun ds e => by
    subst e
    have := rc_len_l (K := K) (C := C) (Ω := Ω) (xs := (besides i.ds r).map D.str)
    rw [List.length_map] at this
    exact this
  have ne : Ev K C Ω 0 (tCB asInt (tCons (tOp rNe (tVar 5) (tVar 3)) tNil)) δ (· = .int (if r = i.first then 0 else 1)) := ((ev_cb (ea1 (ev_neS (ev_var h5) (ev_var h.f)) ea_nil) fun ds e => by
    subst e
    exact rc_intB).imp fun d e => by
    rw [e]
    by_cases q : r = i.first
    · simp [q]
    · simp [q]).le (by omega)
  exact (ev_op1 ln ne (rv_int (g := fun i j => i - j))).le (by omega)
theorem times_eq (ds : List (Str × Str)) (first r : Str) : (((besides ds r).length : Int) - (if r = first then 0 else 1)).toNat = timesOf ds first r := by
  unfold timesOf
  split <;> omega
theorem run_mulB {i : SR} {r : Str} {a : Int} (h : SS i δ) (h5 : δ[5]? = some (.val (.str r))) (h10 : δ[10]? = some (.val (.int a))) (hr : r ∈ i.w.m.map (·.1)) (hO : ∀ δ', SS i δ' → δ'[10]? = some (.val (.int (a * valF i.w.m r ^ timesOf i.ds i.first r))) → O (.nx δ')) : Run K C Ω 0 (tMulB K C Ω) δ O := by
  have few := i.fewD
  have bl := besides_len i.ds r
  have tb : timesOf i.ds i.first r ≤ 60 := by
    unfold timesOf
    omega
  have pos : 1 ≤ valF i.w.m r := by
    obtain ⟨v, hv⟩ := Option.isSome_iff_exists.mp (look_mem.mpr hr)
    have := i.w.pos r v (i.ks r hr) hv
    unfold valF
    rw [hv]
    exact this
  have it := it_rng1 (K := K) (C := C) (Ω := Ω) (c := 0) (δ := δ) (tA := tCons (tHow K C Ω) tNil) (n := ((besides i.ds r).length : Int) - (if r = i.first then 0 else 1)) (ea1 (ev_how h h5) ea_nil) (by constructor <;> (split <;> omega))
  rw [times_eq] at it
  refine (run_for (n := 60) (c2 := 0) (Pv := fun _ k δ1 => SS i δ1 ∧ δ1[5]? = some (.val (.str r)) ∧ δ1[10]? = some (.val (.int (a * valF i.w.m r ^ k)))) it (fun xs e => by rw [e, intsD_len]; exact tb) (fun xs e => ⟨h, h5, by rw [Int.pow_zero, Int.mul_one]; exact h10⟩) (fun xs k x δ1 e hx hp => ?_) fun xs δ1 e hp => ?_).le (by omega)
  · obtain ⟨s1, k5, k10⟩ := hp
    refine ⟨_, tf_name, ?_⟩
    have s2 := s1.upd (k := 11) (s := .val x) (by decide)
    have g5 : (δ1.set 11 (.val x))[5]? = some (.val (.str r)) := by rw [List.getElem?_set_ne (by decide)]; exact k5
    have g10 : (δ1.set 11 (.val x))[10]? = some (.val (.int (a * valF i.w.m r ^ k))) := by rw [List.getElem?_set_ne (by decide)]; exact k10
    have low := i.low r hr
    have mu := (ev_op1 (K := K) (C := C) (Ω := Ω) (ev_var g10) (ev_at s2.w g5 hr) (rv_intC (P := CMul) (g := fun i j => i * j) (.inr ⟨by omega, low⟩))).le (c := 0) (by omega)
    refine run_asg mu fun d e => ⟨s2.upd (by decide), by rw [List.getElem?_set_ne (by decide)]; exact g5, ?_⟩
    rw [List.getElem?_set_self (by rw [s2.len]; decide), e, Int.pow_succ, Int.mul_assoc]
  · subst e
    obtain ⟨s1, _, k10⟩ := hp
    rw [intsD_len] at k10
    exact hO δ1 s1 k10
def tSpreadR (K : PySem.W.Frag) (C : Addr) (Ω : List (Addr × Str)) : TS := tSeq (tLkS (tFor (iKeys (tVar 2)) (gName 5) (tSpreadB K C Ω))) (tSeq (tAsg (tC (V.int 1)) (gName 10)) (tSeq (tLkS (tFor (iKeys (tVar 2)) (gName 5) (tMulB K C Ω)))
  (tRet (tOp rEq (tCB (rLenV K) (tCons (tVar 4) tNil)) (tVar 10)))))
abbrev spSpreadR (K : PySem.W.Frag) (C : Addr) (Ω : List (Addr × Str)) : Sp := SpX K C Ω (fun _ => 0) (fun i : SR => [i.w.h.d, prsD i.ds, .dic (dicS i.w.m D.int), .str i.first, firesD i.fires]) fun _ d => d = .bl true
theorem run_spreadR (i : SR) : Run K C Ω 0 (tSpreadR K C Ω) (startS 12 [i.w.h.d, prsD i.ds, .dic (dicS i.w.m D.int), .str i.first, firesD i.fires]) (retO (· = .bl true)) := by
  have ks : keysOf (dicS i.w.m D.int) = (i.w.m.map (·.1)).map D.str := by
    unfold keysOf dicS
    rw [List.map_map, List.map_map]
    rfl
  have few := i.fewW
  have lk : (keysOf (dicS i.w.m D.int)).length ≤ 1000 := by rw [ks, List.length_map, List.length_map]; exact few
  refine (run_seq (c1 := 0) (c2 := 0) (N := fun δ1 => SS i δ1) ((run_keys (n := 1000) (c2 := 0) (ds := dicS i.w.m D.int) (Pv := fun _ δ1 => SS i δ1) (atd_var rfl) lk ⟨by simp [startS], rfl, rfl, rfl, rfl, rfl⟩ (fun k x δ1 hx s1 => ?_) fun δ1 s1 => s1).le (by omega)) fun δ1 s1 => ?_).le (by omega)
  · rw [ks, List.getElem?_map] at hx
    obtain ⟨r, hr, rfl⟩ := Option.map_eq_some_iff.mp hx
    exact ⟨_, tf_name, run_spreadB (s1.upd (by decide)) (List.getElem?_set_self (by rw [s1.len]; decide)) (List.mem_of_getElem? hr) fun δ' s => s⟩
  · refine (row_asg1 (c1 := 0) (c2 := 0) ev_int ?_).le (by omega)
    have s2 := s1.upd (k := 10) (s := .val (.int 1)) (by decide)
    have g10 : (δ1.set 10 (.val (.int 1)))[10]? = some (.val (.int 1)) := List.getElem?_set_self (by rw [s1.len]; decide)
    generalize δ1.set 10 (.val (.int 1)) = δ2 at s2 g10 ⊢
    refine (run_seq (c1 := 0) (c2 := 0) (N := fun δ3 => SS i δ3 ∧ δ3[10]? = some (.val (.int (i.fires.length : Int)))) ((run_keys (n := 1000) (c2 := 0) (ds := dicS i.w.m D.int) (Pv := fun k δ3 => SS i δ3 ∧ δ3[10]? = some (.val (.int (manyOf i.ds i.w.m i.first ((i.w.m.map (·.1)).take k))))) (atd_var s2.w) lk ⟨s2, g10⟩ (fun k x δ3 hx hp => ?_) fun δ3 hp => ?_).le (by omega)) fun δ3 ⟨s3, k10⟩ => ?_).le (by omega)
    · obtain ⟨s3, k10⟩ := hp
      rw [ks, List.getElem?_map] at hx
      obtain ⟨r, hr, rfl⟩ := Option.map_eq_some_iff.mp hx
      refine ⟨_, tf_name, run_mulB (s3.upd (by decide)) (List.getElem?_set_self (by rw [s3.len]; decide)) (by rw [List.getElem?_set_ne (by decide)]; exact k10) (List.mem_of_getElem? hr) fun δ' a b => ⟨a, ?_⟩⟩
      rw [b, List.take_add_one, hr]
      unfold manyOf
      rw [List.foldl_append]
      rfl
    · obtain ⟨s3, k10⟩ := hp
      rw [ks, List.length_map, List.take_length, i.cnt] at k10
      exact ⟨s3, k10⟩
    · have ln : Ev K C Ω 0 (tCB (rLenV K) (tCons (tVar 4) tNil)) δ3 (· = .int i.fires.length) := (ev_lenL s3.a).imp fun d e => by rw [e, List.length_map]
      refine run_ret ((ev_op1 ln (ev_var k10) (rv_eq rfl rfl rfl)).imp fun d e => ?_) fun d e => e
      rw [e]
      simp
      rfl
end
end Z
set_option maxRecDepth 100000
set_option maxHeartbeats 1000000
set_option linter.all false
namespace Z
open PySem PySem.Spec
open PyProof.Rows L2 LamX
/-! names -/
def letters : Str := "abcdefghijklmnopqrstuvwxyz"
def nsigns : Str := "abcdefghijklmnopqrstuvwxyz0123456789"
def nameOk (x : Str) : Bool := (match x.cps.toList with
  | c :: _ => decide (c ∈ letters.cps.toList)
  | [] => false) && x.cps.toList.all fun c => decide (c ∈ nsigns.cps.toList)
section
variable {K : PySem.W.Frag} {C : Addr} {Ω : List (Addr × Str)} {δ : List Sl} {O : Out → Prop} {ta tb : TE}
def inSign : R2 := fun x y H Q => ∃ c z, x = V.str { cps := #[c] } ∧ y = V.str z ∧ Q (V.bl (decide (c ∈ z.cps.toList))) H
theorem ev_sign {c : Nat} {z : Str} (ha : Ev K C Ω 0 ta δ (· = .str ⟨#[c]⟩)) (hb : Ev K C Ω 0 tb δ (· = .str z)) : Ev K C Ω 0 (tOp inSign ta tb) δ (· = .bl (decide (c ∈ z.cps.toList))) :=
  (ev_op1 ha hb fun W F G H v w o da db Q q => by
    cases da
    cases db
    exact ⟨c, z, rfl, rfl, q _ G H _ o.refl (.bl _) rfl⟩).le (by omega)
theorem ev_ixS {x : Str} {c : Nat} (ha : Ev K C Ω 0 ta δ (· = .str x)) (hl : x.length ≤ sizeLine) (hc : atI x.cps.toList 0 = some c) : Ev K C Ω 0 (tOp rIxS ta (tC (V.int 0))) δ (· = .str ⟨#[c]⟩) :=
  (ev_op1 ha ev_int fun W F G H v w o da db Q q => by
    cases da
    cases db
    exact ⟨x, 0, c, rfl, rfl, hl, hc, q _ G H _ o.refl (.str _) rfl⟩).le (by omega)
def tIsName (K : PySem.W.Frag) : TS := tSeq (tIfS (tOr (tNot (tB (tCB (rIsi K) (tCons (tVar 0) (tCons (tC (V.ty "str")) tNil))))) (tOr (tTest (tOp ltI (tCB (rLenV K) (tCons (tVar 0) tNil)) (tC (V.int 1)))) (tTest (tOp gtI (tCB (rLenV K) (tCons (tVar 0) tNil)) (tC (V.int 12)))))) (tRet (tC (V.bl false))) tNext)
  (tRet (tAndV (tOp inSign (tOp rIxS (tVar 0) (tC (V.int 0))) (tC (V.str letters))) (tCB (rAll K) (tCons (tLc (iStr (tVar 0)) (gName 1) tYes (tOp inSign (tVar 1) (tC (V.str nsigns))) [1]) tNil))))
structure NA where
  x : Str
  l1 : 1 ≤ x.length
  l2 : x.length ≤ 12
abbrev spIsName (K : PySem.W.Frag) (C : Addr) (Ω : List (Addr × Str)) : Sp := SpX K C Ω (fun _ => 0) (fun i : NA => [.str i.x]) fun i d => d = .bl (nameOk i.x)
theorem run_is_name (i : NA) : Run K C Ω 0 (tIsName K) (startS 2 [.str i.x]) (retO (· = .bl (nameOk i.x))) := by
  have l1 := i.l1
  have l2 := i.l2
  have big : 12 ≤ sizeLine := by decide
  have v0 : Ev K C Ω 0 (tVar 0) (startS 2 [.str i.x]) (· = .str i.x) := ev_var rfl
  have ln : Ev K C Ω 0 (tCB (rLenV K) (tCons (tVar 0) tNil)) (startS 2 [.str i.x]) (· = .int i.x.length) := ev_cb (ea1 v0 ea_nil) fun ds e => by
    subst e
    exact rc_len_s (by omega)
  have t1 : EvT K C Ω 0 (tTest (tOp ltI (tCB (rLenV K) (tCons (tVar 0) tNil)) (tC (V.int 1)))) (startS 2 [.str i.x]) (· = false) := ((et1 (ev_op1 ln ev_int (rv_bl (g := fun i j => decide (i < j))))).imp fun b e => by rw [e]; exact decide_eq_false (by omega)).le (by omega)
  have t2 : EvT K C Ω 0 (tTest (tOp gtI (tCB (rLenV K) (tCons (tVar 0) tNil)) (tC (V.int 12)))) (startS 2 [.str i.x]) (· = false) := ((et1 (ev_op1 ln ev_int (rv_bl (g := fun i j => decide (j < i))))).imp fun b e => by rw [e]; exact decide_eq_false (by omega)).le (by omega)
  have ct : EvT K C Ω 0 (tOr (tNot (tB (tCB (rIsi K) (tCons (tVar 0) (tCons (tC (V.ty "str")) tNil))))) (tOr (tTest (tOp ltI (tCB (rLenV K) (tCons (tVar 0) tNil)) (tC (V.int 1)))) (tTest (tOp gtI (tCB (rLenV K) (tCons (tVar 0) tNil)) (tC (V.int 12)))))) (startS 2 [.str i.x]) (· = false) :=
    (et_or (c1 := 0) (c2 := 0) (RT := (· = false)) (RU := (· = false)) (et_not (et_ofB ((ev_isi v0 rfl rfl).imp fun d e => ⟨_, e, rfl⟩))) (fun _ => (et_or (c1 := 0) (c2 := 0) (RT := (· = false)) (RU := (· = false)) t1 (fun _ => t2) fun e => by cases e).le (by omega)) fun e => by cases e).le (by omega)
  refine (row_guard (c1 := 0) (c2 := 0) (c3 := 0) (RT := (· = false)) ct (fun z => by cases z) fun _ => ?_).le (by omega)
  have lx : i.x.length = i.x.cps.toList.length := by
    first
    | rfl
    | simp [Str.length]
  obtain ⟨c, r, er⟩ : ∃ c r, i.x.cps.toList = c :: r := by
    cases q : i.x.cps.toList with
    | nil =>
      rw [q] at lx
      rw [lx] at l1
      exact absurd l1 (by decide)
    | cons c r => exact ⟨c, r, rfl⟩
  have e1 := ev_sign (K := K) (C := C) (Ω := Ω) (ev_ixS v0 (by omega) (c := c) (by rw [er, at_nat (Int.le_refl 0) (by rw [List.length_cons]; omega)]; rfl)) (ev_str (x := letters))
  have e2 := ev_all_map (K := K) (C := C) (Ω := Ω) (δ := startS 2 [.str i.x]) (vs := [1]) (g := gName 1) (te := tOp inSign (tVar 1) (tC (V.str nsigns))) (xs := signs i.x) (fun d => match d with
    | .str y => (match y.cps.toList with
      | c :: _ => decide (c ∈ nsigns.cps.toList)
      | [] => false)
    | _ => false) (it_str v0) (by unfold signs; rw [List.length_map, ← lx]; omega) fun d hd => by
      unfold signs at hd
      obtain ⟨c, hc, rfl⟩ := List.mem_map.mp hd
      exact ⟨_, tg_name (.inr (by simp)) (by simp), ev_sign (ev_var (i := 1) rfl) ev_str⟩
  refine run_ret (R := fun d => ∃ k, d = .bl k ∧ k = nameOk i.x) ((ev_and (c1 := 0) (c2 := 0) (RT := (· = decide (c ∈ letters.cps.toList))) (RU := (· = nameOk i.x)) (e1.imp fun d e => ⟨_, e, rfl⟩) (fun z => e2.imp fun d e => ⟨_, e, ?_⟩) fun z => ?_).le (by omega)) ?_
  · unfold nameOk signs
    rw [er, List.all_map]
    show _ = (decide (c ∈ letters.cps.toList) && _)
    rw [← z, Bool.true_and]
    rfl
  · unfold nameOk
    rw [er]
    show _ = (decide (c ∈ letters.cps.toList) && _)
    rw [← z, Bool.false_and]
  · rintro d ⟨k, rfl, rfl⟩
    rfl
theorem names_ok : ∀ x ∈ twelve, nameOk x = true ∧ 1 ≤ x.length ∧ x.length ≤ 12 := by decide +kernel
/-! all names, none twice -/
abbrev spIsRow (K : PySem.W.Frag) (C : Addr) (Ω : List (Addr × Str)) : Sp := SpX K C Ω (fun _ => 0) (fun xs : List D => [.lst xs]) fun _ d => d = .bl true
def tBadIx (K : PySem.W.Frag) (C : Addr) (Ω : List (Addr × Str)) (S : Addr → Option Sp) : TS := tSeq (tIfS (tNot (tB (tCall (spIsRow K C Ω) [] C8.E0 (tCons (tVar 0) tNil)))) (tRet (tC (V.int 0))) tNext) (tSeq (tAsg tDNewK (gName 2))
  (tSeq (tFor (iEnum K (tCons (tVar 0) tNil)) (gTup K 2 (gCons (gName 3) (gCons (gName 4) gNil))) (tSeq (tIfS (tOr (tNot (tB (tCallA 1 S (tCons (tVar 4) tNil)))) (tB (tDIn (tVar 4) (tVar 2)))) (tRet (tVar 3)) tNext) (sDPut (tVar 2) (tVar 4) (tC (V.bl true))))) (tRet (tC V.non))))
structure BI where
  xs : List Str
  nd : xs.Nodup
  nm : ∀ x ∈ xs, x ∈ twelve
def seenD (xs : List Str) : List (Str × Bool) := xs.map fun x => (x, true)
theorem run_bad_ix {S : Addr → Option Sp} {f : Addr} (hS : S f = some (spIsName K C Ω)) (i : BI) : Run K C Ω 0 (tBadIx K C Ω S) (startS 5 [strsD i.xs, .adr f]) (retO (· = .non)) := by
  have big : 12 < sizeLine := by decide
  have lx : i.xs.length ≤ 12 := pigeon i.nd i.nm
  have v0 : Ev K C Ω 0 (tVar 0) (startS 5 [strsD i.xs, .adr f]) (· = strsD i.xs) := ev_var rfl
  have rw1 : Ev K C Ω 0 (tCall (spIsRow K C Ω) [] C8.E0 (tCons (tVar 0) tNil)) (startS 5 [strsD i.xs, .adr f]) (· = .bl true) := (ev_callX (cc := fun _ => 0) (A := fun xs : List D => [.lst xs]) (Rx := fun _ d => d = .bl true) (i.xs.map D.str) (ea1 v0 ea_nil)).le (by omega)
  refine (row_guard (c1 := 0) (c2 := 0) (c3 := 0) (RT := (· = false)) (et_not (et_ofB (rw1.imp fun d e => ⟨true, e, rfl⟩))) (fun z => by cases z) fun _ => ?_).le (by omega)
  refine (row_asgD (c1 := 0) (c2 := 0) ed_newK fun xs e => ?_).le (by omega)
  subst e
  refine (run_seq (c1 := 0) (c2 := 0) (N := fun _ => True) ((run_for (n := 12) (c2 := 0) (RL := (· = nums (i.xs.map D.str))) (Pv := fun _ k δ1 => δ1.length = 5 ∧ δ1[1]? = some (.val (.adr f)) ∧ δ1[2]? = some (.oD (dicS (seenD (i.xs.take k)) D.bl)))
    (it_enum (ea1 (ev_var (i := 0) (d := strsD i.xs) rfl) ea_nil)) (fun xs e => by rw [e]; unfold nums; rw [List.length_map, List.length_range, List.length_map]; exact lx) (fun xs e => ⟨by simp [startS], rfl, rfl⟩) (fun xs k x δ1 e hx hp => ?_) fun xs δ1 e hp => trivial).le (by omega)) fun δ' _ => run_ret ev_non fun d e => e).le (by omega)
  subst e
  obtain ⟨len, h1, h2⟩ := hp
  unfold nums at hx
  rw [List.getElem?_map] at hx
  obtain ⟨n, hn, rfl⟩ := Option.map_eq_some_iff.mp hx
  have lk : k < i.xs.length := by
    have := (List.getElem?_eq_some_iff.mp hn).1
    rwa [List.length_range, List.length_map] at this
  have hn : n = k := by
    have := (List.getElem?_eq_some_iff.mp hn).2
    rw [List.getElem_range] at this
    exact this.symm
  subst hn
  obtain ⟨y, hy⟩ : ∃ y, i.xs[n]? = some y := ⟨_, List.getElem?_eq_getElem lk⟩
  have ym := List.mem_of_getElem? hy
  have ey : ((i.xs.map D.str)[n]?).getD .non = .str y := by
    rw [List.getElem?_map, hy]
    rfl
  rw [ey]
  refine ⟨_, tf_pair, ?_⟩
  have g1 : ((δ1.set 3 (.val (.int (n : Nat)))).set 4 (.val (.str y)))[1]? = some (.val (.adr f)) := by rw [List.getElem?_set_ne (by decide), List.getElem?_set_ne (by decide)]; exact h1
  have g2 : ((δ1.set 3 (.val (.int (n : Nat)))).set 4 (.val (.str y)))[2]? = some (.oD (dicS (seenD (i.xs.take n)) D.bl)) := by rw [List.getElem?_set_ne (by decide), List.getElem?_set_ne (by decide)]; exact h2
  have g4 : ((δ1.set 3 (.val (.int (n : Nat)))).set 4 (.val (.str y)))[4]? = some (.val (.str y)) := List.getElem?_set_self (by rw [List.length_set, len]; decide)
  have gl : ((δ1.set 3 (.val (.int (n : Nat)))).set 4 (.val (.str y))).length = 5 := by rw [List.length_set, List.length_set]; exact len
  generalize (δ1.set 3 (.val (.int (n : Nat)))).set 4 (.val (.str y)) = δ2 at g1 g2 g4 gl ⊢
  obtain ⟨ok, o1, o2⟩ := names_ok y (i.nm y ym)
  have isn : Ev K C Ω 0 (tCallA 1 S (tCons (tVar 4) tNil)) δ2 (· = .bl true) := ((ev_callAX (cc := fun _ => 0) (A := fun i : NA => [.str i.x]) (Rx := fun i d => d = .bl (nameOk i.x)) g1 hS ⟨y, o1, o2⟩ (ea1 (ev_var g4) ea_nil)).imp fun d e => by rw [e]; exact congrArg D.bl ok).le (by omega)
  have kx : (seenD (i.xs.take n)).map (·.1) = i.xs.take n := by
    unfold seenD
    rw [List.map_map]
    exact List.map_id _
  have ny : y ∉ (seenD (i.xs.take n)).map (·.1) := fun q => by
    rw [kx] at q
    obtain ⟨j, hj⟩ := List.getElem?_of_mem q
    have lj := (List.getElem?_eq_some_iff.mp hj).1
    rw [List.length_take] at lj
    rw [List.getElem?_take_of_lt (by omega)] at hj
    have := (List.getElem?_inj (by omega) i.nd).mp (hj.trans hy.symm)
    omega
  have notin : EvT K C Ω 0 (tB (tDIn (tVar 4) (tVar 2))) δ2 (· = false) := by
    refine et_peek g2 rfl ?_
    have e4 : (δ2.set 2 (.val (Sl.oD (dicS (seenD (i.xs.take n)) D.bl)).thing))[4]? = some (.val (.str y)) := by rw [List.getElem?_set_ne (by decide)]; exact g4
    have e2 : (δ2.set 2 (.val (Sl.oD (dicS (seenD (i.xs.take n)) D.bl)).thing))[2]? = some (.val (.dic (dicS (seenD (i.xs.take n)) D.bl))) := by
      rw [List.getElem?_set_self (by rw [gl]; decide)]
      rfl
    have ev := ev_din (K := K) (C := C) (Ω := Ω) (k := Sum.inr y) (ev_var e4) (ev_var e2) rfl
    rw [has_dicS] at ev
    refine ((et1B ev).imp fun b e => ?_).le (by omega)
    rw [e]
    cases q : ((seenD (i.xs.take n)).lookup y).isSome with
    | false => rfl
    | true => exact absurd (look_mem.mp q) ny
  refine (row_guard (c1 := 0) (c2 := 0) (c3 := 0) (RT := (· = false)) ((et_or (c1 := 0) (c2 := 0) (RT := (· = false)) (RU := (· = false)) (et_not (et_ofB (isn.imp fun d e => ⟨true, e, rfl⟩))) (fun _ => notin) fun e => by cases e).le (by omega)) (fun z => by cases z) fun _ => ?_).le (by omega)
  refine (run_dput (R := (· = D.bl true)) g2 (by unfold dicS seenD; rw [List.length_map, List.length_map, List.length_take]; omega) ev_bl (ev_var g4) (k := Sum.inr y) rfl fun d e => ?_).le (by omega)
  subst e
  refine ⟨by rw [List.length_set]; exact gl, by rw [List.getElem?_set_ne (by decide)]; exact g1, ?_⟩
  rw [List.getElem?_set_self (by rw [gl]; decide), put_dicS, put_new ny, List.take_add_one, hy]
  unfold seenD
  rw [List.map_append]
  rfl
end
end Z
set_option maxRecDepth 100000
set_option maxHeartbeats 1000000
set_option linter.all false
namespace Z
open PySem PySem.Spec
open PyProof.Rows L2 LamX
/-! houses without rings: rooms met from a first one, by their places -/
def Adj (ds : List (Str × Str)) (a b : Str) : Prop := (a, b) ∈ ds ∨ (b, a) ∈ ds
theorem Adj.symm {ds : List (Str × Str)} {a b : Str} (h : Adj ds a b) : Adj ds b a := Or.symm h
abbrev Ms := List (Str × Option Str)
structure Par (ds : List (Str × Str)) (first : Str) (m : Ms) : Prop where
  z : m[0]? = some (first, none)
  nd : ∀ {i j : Nat} {x : Str} {o o' : Option Str}, m[i]? = some (x, o) → m[j]? = some (x, o') → i = j
  pr : ∀ {i : Nat} {x : Str} {o : Option Str}, m[i]? = some (x, o) → 0 < i → ∃ (b : Str) (j : Nat) (o' : Option Str), o = some b ∧ j < i ∧ m[j]? = some (b, o') ∧ Adj ds b x
/-- x was met from b -/
def Pm (m : Ms) (x b : Str) : Prop := ∃ i : Nat, m[i]? = some (x, some b)
theorem nd_at {m : Ms} (h : (m.map (·.1)).Nodup) {i j : Nat} {x : Str} {o o' : Option Str} (hi : m[i]? = some (x, o)) (hj : m[j]? = some (x, o')) : i = j := by
  have li := (List.getElem?_eq_some_iff.mp hi).1
  have e1 : (m.map (·.1))[i]? = some x := by rw [List.getElem?_map, hi]; rfl
  have e2 : (m.map (·.1))[j]? = some x := by rw [List.getElem?_map, hj]; rfl
  exact (List.getElem?_inj (by rw [List.length_map]; exact li) h).mp (e1.trans e2.symm)
theorem Met.par' {near : List (Str × List Str)} {ds : List (Str × Str)} {first : Str} {m : Ms} (M : Met near first m) (hn : ∀ b ns, near.lookup b = some ns → ∀ x ∈ ns, Adj ds b x) : Par ds first m where
  z := by
    obtain ⟨r, e, _⟩ := M.hd
    rw [e]
    rfl
  nd := fun hi hj => nd_at M.nd hi hj
  pr := fun {i x o} hi h0 => by
    obtain ⟨r, e, hr⟩ := M.hd
    cases i with
    | zero => exact absurd h0 (Nat.lt_irrefl 0)
    | succ i =>
      have hi2 : r[i]? = some (x, o) := by rw [e] at hi; simpa using hi
      have := hr _ (List.mem_of_getElem? hi2)
      cases o with
      | none => exact absurd rfl this
      | some b =>
        have li := (List.getElem?_eq_some_iff.mp hi).1
        have cut : m = m.take (i + 1) ++ (x, some b) :: m.drop (i + 1 + 1) := by
          have := List.getElem_cons_drop (as := m) (i := i + 1) li
          rw [(List.getElem?_eq_some_iff.mp hi).2] at this
          rw [this, List.take_append_drop]
        obtain ⟨hb, ns, en, hx⟩ := M.par _ x b _ cut
        obtain ⟨p, hp, e1⟩ := List.mem_map.mp hb
        obtain ⟨j, hj⟩ := List.getElem?_of_mem hp
        have lj := (List.getElem?_eq_some_iff.mp hj).1
        rw [List.length_take] at lj
        rw [List.getElem?_take_of_lt (by omega)] at hj
        exact ⟨b, j, p.2, rfl, by omega, by rw [hj, ← e1], hn b ns en x hx⟩
section
variable {ds : List (Str × Str)} {first : Str} {m m' : Ms} {x y b c : Str}
theorem Par.uniq (M : Par ds first m) (h : Pm m x b) (h' : Pm m x c) : b = c := by
  obtain ⟨i, hi⟩ := h
  obtain ⟨j, hj⟩ := h'
  have e := M.nd hi hj
  subst e
  rw [hi] at hj
  cases hj
  rfl
theorem Par.top (M : Par ds first m) (h : Pm m first b) : False := by
  obtain ⟨i, hi⟩ := h
  have e := M.nd hi M.z
  subst e
  rw [M.z] at hi
  cases hi
/-- the one that it was met from stands ahead -/
theorem Par.up (M : Par ds first m) {i : Nat} (hi : m[i]? = some (x, some b)) : ∃ (j : Nat) (o : Option Str), j < i ∧ m[j]? = some (b, o) ∧ Adj ds b x := by
  have h0 : 0 < i := by
    cases i with
    | zero =>
      rw [M.z] at hi
      cases hi
    | succ i => exact Nat.succ_pos i
  obtain ⟨b', j, o', e, lt, hj, a⟩ := M.pr hi h0
  cases e
  exact ⟨j, o', lt, hj, a⟩
theorem Par.adj (M : Par ds first m) (h : Pm m x b) : Adj ds b x := by
  obtain ⟨i, hi⟩ := h
  obtain ⟨_, _, _, _, a⟩ := M.up hi
  exact a
theorem Par.not_both (M : Par ds first m) (h : Pm m x b) (h' : Pm m b x) : False := by
  obtain ⟨i, hi⟩ := h
  obtain ⟨j, hj⟩ := h'
  obtain ⟨j', o, lt, hj', _⟩ := M.up hi
  obtain ⟨i', o', lt', hi', _⟩ := M.up hj
  have e1 := M.nd hj hj'
  have e2 := M.nd hi hi'
  omega
/-- each but the first was met from one -/
theorem Par.ex (M : Par ds first m) (hx : x ∈ m.map (·.1)) : x = first ∨ ∃ b, Pm m x b := by
  obtain ⟨p, hp, e⟩ := List.mem_map.mp hx
  obtain ⟨i, hi⟩ := List.getElem?_of_mem hp
  cases i with
  | zero =>
    left
    rw [M.z] at hi
    cases hi
    exact e.symm
  | succ i =>
    right
    have hi' : m[i + 1]? = some (x, p.2) := by rw [hi, ← e]
    obtain ⟨b, _, _, e2, _⟩ := M.pr hi' (Nat.succ_pos i)
    exact ⟨b, i + 1, by rw [hi', e2]⟩
end
/-! the doors are just those by which rooms were met -/
def doorOf (ds : List (Str × Str)) (x b : Str) : Str × Str := if (b, x) ∈ ds then (b, x) else (x, b)
theorem doorOf_in {ds : List (Str × Str)} {x b : Str} (h : Adj ds b x) : doorOf ds x b ∈ ds := by
  unfold doorOf
  split
  · assumption
  · rename_i q
    exact h.resolve_left q
theorem doorOf_or (ds : List (Str × Str)) (x b : Str) : doorOf ds x b = (b, x) ∨ doorOf ds x b = (x, b) := by
  unfold doorOf
  split
  · exact .inl rfl
  · exact .inr rfl
/-- the rooms met, less the first, with those they were met from -/
def restOf : Ms → List (Str × Str)
  | [] => []
  | (_, none) :: r => restOf r
  | (x, some b) :: r => (x, b) :: restOf r
theorem restOf_len : ∀ {m : Ms}, (∀ p ∈ m, p.2 ≠ none) → (restOf m).length = m.length
  | [], _ => rfl
  | (x, none) :: r, h => absurd rfl (h _ List.mem_cons_self)
  | (x, some b) :: r, h => by
    show (restOf r).length + 1 = r.length + 1
    rw [restOf_len fun p hp => h p (List.mem_cons_of_mem _ hp)]
theorem mem_restOf {x b : Str} : ∀ {m : Ms}, (x, b) ∈ restOf m ↔ (x, some b) ∈ m
  | [] => by simp [restOf]
  | (y, none) :: r => by
    show (x, b) ∈ restOf r ↔ _
    rw [mem_restOf (m := r), List.mem_cons]
    exact ⟨.inr, fun h => h.resolve_left fun e => by cases e⟩
  | (y, some c) :: r => by
    show (x, b) ∈ (y, c) :: restOf r ↔ _
    rw [List.mem_cons, mem_restOf (m := r), List.mem_cons]
    constructor
    · rintro (e | h)
      · cases e
        exact .inl rfl
      · exact .inr h
    · rintro (e | h)
      · cases e
        exact .inl rfl
      · exact .inr h
theorem mem_Pm {x b : Str} {m : Ms} : (x, some b) ∈ m ↔ Pm m x b := ⟨fun h => List.getElem?_of_mem h, fun ⟨_, h⟩ => List.mem_of_getElem? h⟩
theorem restOf_sub : ∀ {m : Ms} {x : Str}, x ∈ (restOf m).map (·.1) → x ∈ m.map (·.1)
  | m, x, h => by
    obtain ⟨p, hp, e⟩ := List.mem_map.mp h
    exact List.mem_map.mpr ⟨(p.1, some p.2), mem_restOf.mp hp, e⟩
theorem restOf_nd : ∀ {m : Ms}, (m.map (·.1)).Nodup → ((restOf m).map (·.1)).Nodup
  | [], _ => List.Pairwise.nil
  | (x, none) :: r, h => restOf_nd (m := r) (List.nodup_cons.mp h).2
  | (x, some b) :: r, h => by
    show (x :: (restOf r).map (·.1)).Nodup
    rw [List.nodup_cons]
    have := List.nodup_cons.mp h
    exact ⟨fun q => this.1 (restOf_sub q), restOf_nd (m := r) this.2⟩
theorem perm_of_len {α : Type} [DecidableEq α] : ∀ {E l : List α}, E.Nodup → (∀ x ∈ E, x ∈ l) → l.length ≤ E.length → l.Perm E
  | [], l, _, _, h => by
    have : l = [] := List.length_eq_zero_iff.mp (Nat.le_zero.mp h)
    rw [this]
  | e :: E, l, nd, sub, h => by
    have he : e ∈ l := sub e List.mem_cons_self
    have n := List.nodup_cons.mp nd
    have p1 := List.perm_cons_erase he
    refine p1.trans (List.Perm.cons e (perm_of_len n.2 (fun x hx => ?_) ?_))
    · exact (List.mem_erase_of_ne (fun (q : x = e) => n.1 (by rw [← q]; exact hx))).mpr (sub x (List.mem_cons_of_mem _ hx))
    · rw [List.length_erase_of_mem he]
      rw [List.length_cons] at h
      omega
theorem nodup_map_on {α β : Type} {f : α → β} : ∀ {l : List α}, l.Nodup → (∀ x ∈ l, ∀ y ∈ l, f x = f y → x = y) → (l.map f).Nodup
  | [], _, _ => List.Pairwise.nil
  | x :: r, h, inj => by
    have n := List.nodup_cons.mp h
    rw [List.map_cons, List.nodup_cons]
    refine ⟨fun q => ?_, nodup_map_on n.2 fun a ha b hb e => inj a (List.mem_cons_of_mem _ ha) b (List.mem_cons_of_mem _ hb) e⟩
    obtain ⟨y, hy, e⟩ := List.mem_map.mp q
    have := inj y (List.mem_cons_of_mem _ hy) x List.mem_cons_self e
    exact n.1 (by rw [← this]; exact hy)
theorem nodup_of_map {α β : Type} {f : α → β} {l : List α} (h : (l.map f).Nodup) : l.Nodup := by
  induction l with
  | nil => exact List.Pairwise.nil
  | cons x r ih =>
    rw [List.map_cons, List.nodup_cons] at h
    exact List.nodup_cons.mpr ⟨fun q => h.1 (List.mem_map.mpr ⟨x, q, rfl⟩), ih h.2⟩
section
variable {ds : List (Str × Str)} {first : Str} {m m' : Ms} {x y b c : Str}
theorem Par.ndm (M : Par ds first m) : (m.map (·.1)).Nodup := by
  rw [List.Nodup, List.pairwise_iff_getElem]
  intro i j hi hj lt e
  rw [List.length_map] at hi hj
  rw [List.getElem_map, List.getElem_map] at e
  have h1 : m[i]? = some ((m[i]).1, (m[i]).2) := List.getElem?_eq_getElem hi
  have h2 : m[j]? = some ((m[i]).1, (m[j]).2) := by rw [e]; exact List.getElem?_eq_getElem hj
  have := M.nd h1 h2
  omega
/-- all rooms of a house with a door less than rooms are met by all of its doors -/
theorem Par.doors (M : Par ds first m) (cnt : ds.length + 1 ≤ m.length) : ds.Perm ((restOf m).map fun p => doorOf ds p.1 p.2) := by
  have ndr : (restOf m).Nodup := nodup_of_map (restOf_nd M.ndm)
  have nd2 : ((restOf m).map fun p => doorOf ds p.1 p.2).Nodup := nodup_map_on ndr fun p hp q hq e => by
    have hp' := mem_Pm.mp (mem_restOf.mp hp)
    have hq' := mem_Pm.mp (mem_restOf.mp hq)
    have same : p.1 = q.1 → p = q := fun e1 => by
      rw [e1] at hp'
      have := M.uniq hp' hq'
      exact Prod.ext e1 this
    rcases doorOf_or ds p.1 p.2 with e1 | e1 <;> rcases doorOf_or ds q.1 q.2 with e2 | e2
    · have e : doorOf ds p.1 p.2 = doorOf ds q.1 q.2 := e
      rw [e1, e2] at e
      exact same (Prod.mk.inj e).2
    · have e : doorOf ds p.1 p.2 = doorOf ds q.1 q.2 := e
      rw [e1, e2] at e
      obtain ⟨e3, e4⟩ := Prod.mk.inj e
      rw [e3, e4] at hp'
      exact (M.not_both hp' hq').elim
    · have e : doorOf ds p.1 p.2 = doorOf ds q.1 q.2 := e
      rw [e1, e2] at e
      obtain ⟨e3, e4⟩ := Prod.mk.inj e
      rw [e3, e4] at hp'
      exact (M.not_both hp' hq').elim
    · have e : doorOf ds p.1 p.2 = doorOf ds q.1 q.2 := e
      rw [e1, e2] at e
      exact same (Prod.mk.inj e).1
  refine perm_of_len nd2 (fun p hp => ?_) ?_
  · obtain ⟨q, hq, e⟩ := List.mem_map.mp hp
    rw [← e]
    exact doorOf_in (M.adj (mem_Pm.mp (mem_restOf.mp hq)))
  · rw [List.length_map]
    have hm : m = (first, none) :: m.drop 1 := by
      have l0 := (List.getElem?_eq_some_iff.mp M.z).1
      have := List.getElem_cons_drop (as := m) (i := 0) l0
      rw [(List.getElem?_eq_some_iff.mp M.z).2, List.drop_zero] at this
      exact this.symm
    have : (restOf m).length = m.length - 1 := by
      rw [hm]
      show (restOf (m.drop 1)).length = _
      rw [restOf_len, List.length_cons, Nat.add_sub_cancel]
      intro p hp q
      obtain ⟨i, hi⟩ := List.getElem?_of_mem hp
      rw [List.getElem?_drop] at hi
      have hi' : m[1 + i]? = some (p.1, p.2) := hi
      obtain ⟨b, _, _, e, _⟩ := M.pr hi' (by omega)
      rw [e] at q
      cases q
    omega
/-- each door was gone through one way -/
theorem Par.door (M : Par ds first m) (cnt : ds.length + 1 ≤ m.length) (h : Adj ds x y) : Pm m y x ∨ Pm m x y := by
  have P := M.doors cnt
  have key : ∀ {x y : Str}, (x, y) ∈ ds → Pm m y x ∨ Pm m x y := fun {x y} h => by
    obtain ⟨q, hq, e⟩ := List.mem_map.mp (P.mem_iff.mp h)
    have hq' := mem_Pm.mp (mem_restOf.mp hq)
    rcases doorOf_or ds q.1 q.2 with e1 | e1
    · have e : doorOf ds q.1 q.2 = (x, y) := e
      rw [e1] at e
      obtain ⟨e3, e4⟩ := Prod.mk.inj e
      rw [e3, e4] at hq'
      exact .inl hq'
    · have e : doorOf ds q.1 q.2 = (x, y) := e
      rw [e1] at e
      obtain ⟨e3, e4⟩ := Prod.mk.inj e
      rw [e3, e4] at hq'
      exact .inr hq'
  rcases h with h | h
  · exact key h
  · exact (key h).symm
/-- from one first room all are met from the same ones, in whatever order -/
theorem Par.same (M : Par ds first m) (M' : Par ds first m') (cnt' : ds.length + 1 ≤ m'.length) (h : Pm m x b) : Pm m' x b := by
  obtain ⟨i, hi⟩ := h
  induction i using Nat.strongRecOn generalizing x b with
  | ind i ih =>
    obtain ⟨j, o, lt, hj, a⟩ := M.up hi
    rcases M'.door cnt' a with q | q
    · exact q
    · exfalso
      cases j with
      | zero =>
        rw [M.z] at hj
        cases hj
        exact M'.top q
      | succ j =>
        obtain ⟨c, k, o2, e, lt2, hk, _⟩ := M.pr hj (Nat.succ_pos j)
        rw [e] at hj
        have := M'.uniq (ih (j + 1) lt hj) q
        subst this
        have := M.nd hk hi
        omega
end
end Z
set_option maxRecDepth 100000
set_option maxHeartbeats 1000000
set_option linter.all false
namespace Z
open PySem PySem.Spec
open PyProof.Rows L2 LamX
/-! hours judged by going, by doors: the same -/
abbrev Stp1 (w f : List (Str × Int)) (x b : Str) : Prop := 1 ≤ valF f x - valF f b ∧ valF f x - valF f b ≤ valF w b
theorem burns_iff {w f : List (Str × Int)} {m : Ms} : burnsB w f m = true ↔ ∀ x b, Pm m x b → Stp1 w f x b := by
  unfold burnsB
  rw [List.all_eq_true]
  constructor
  · intro h x b hp
    have := h _ (mem_Pm.mpr hp)
    exact of_decide_eq_true this
  · intro h p hp
    obtain ⟨x, o⟩ := p
    cases o with
    | none => rfl
    | some b => exact decide_eq_true (h x b (mem_Pm.mp hp))
section
variable {ds : List (Str × Str)} {first : Str} {m m' : Ms} {x y b c : Str} {w f : List (Str × Int)}
theorem Par.burns_same (M : Par ds first m) (M' : Par ds first m') (cnt : ds.length + 1 ≤ m.length) (cnt' : ds.length + 1 ≤ m'.length) : burnsB w f m = burnsB w f m' := by
  rw [Bool.eq_iff_iff, burns_iff, burns_iff]
  exact ⟨fun h x b p => h x b (M'.same M cnt p), fun h x b p => h x b (M.same M' cnt' p)⟩
/-- the first room is lit ahead of all others -/
theorem Par.ahead (M : Par ds first m) (h : burnsB w f m = true) : ∀ {i : Nat} {x : Str} {o : Option Str}, m[i]? = some (x, o) → 0 < i → valF f first < valF f x := by
  intro i
  induction i using Nat.strongRecOn with
  | ind i ih =>
    intro x o hi h0
    obtain ⟨b, j, o', e, lt, hj, a⟩ := M.pr hi h0
    subst e
    have s := burns_iff.mp h x b ⟨i, hi⟩
    unfold Stp1 at s
    cases j with
    | zero =>
      rw [M.z] at hj
      cases hj
      omega
    | succ j =>
      have := ih (j + 1) lt hj (Nat.succ_pos j)
      omega
theorem Par.ahead_of (M : Par ds first m) (h : burnsB w f m = true) (hx : x ∈ m.map (·.1)) (ne : x ≠ first) : valF f first < valF f x := by
  obtain ⟨p, hp, e⟩ := List.mem_map.mp hx
  obtain ⟨i, hi⟩ := List.getElem?_of_mem hp
  have hi' : m[i]? = some (x, p.2) := by rw [hi, ← e]
  cases i with
  | zero =>
    rw [M.z] at hi'
    exact absurd (Prod.mk.inj (Option.some.inj hi')).1.symm ne
  | succ i => exact M.ahead h hi' (Nat.succ_pos i)
end
theorem one_filter {α : Type} [DecidableEq α] {p : α → Bool} {a : α} : ∀ {l : List α}, l.Nodup → a ∈ l → (∀ x ∈ l, p x = true ↔ x = a) → l.filter p = [a]
  | [], _, h, _ => absurd h (by simp)
  | x :: r, nd, h, hp => by
    have n := List.nodup_cons.mp nd
    by_cases e : x = a
    · subst e
      rw [List.filter_cons, if_pos ((hp x List.mem_cons_self).mpr rfl)]
      have : r.filter p = [] := List.filter_eq_nil_iff.mpr fun y hy q => by
        have := (hp y (List.mem_cons_of_mem _ hy)).mp q
        exact n.1 (by rw [← this]; exact hy)
      rw [this]
    · have px : p x = false := by
        cases q : p x with
        | false => rfl
        | true => exact absurd ((hp x List.mem_cons_self).mp q) e
      rw [List.filter_cons, px]
      exact one_filter n.2 ((List.mem_cons.mp h).resolve_left (Ne.symm e)) fun y hy => hp y (List.mem_cons_of_mem _ hy)
theorem one_uniq {α : Type} {p : α → Bool} {a b : α} {l : List α} (h : (l.filter p).length = 1) (ha : a ∈ l) (pa : p a = true) (hb : b ∈ l) (pb : p b = true) : a = b := by
  have h1 : a ∈ l.filter p := List.mem_filter.mpr ⟨ha, pa⟩
  have h2 : b ∈ l.filter p := List.mem_filter.mpr ⟨hb, pb⟩
  match q : l.filter p, h with
  | [c], _ =>
    rw [q] at h1 h2
    rw [List.mem_singleton.mp h1, List.mem_singleton.mp h2]
theorem doorOk_iff {w f : List (Str × Int)} {p : Str × Str} : doorOk w f p = true ↔ (valF f p.1 < valF f p.2 ∧ valF f p.2 - valF f p.1 ≤ valF w p.1) ∨ (valF f p.2 < valF f p.1 ∧ valF f p.1 - valF f p.2 ≤ valF w p.2) := by
  unfold doorOk inOrder
  by_cases h : valF f p.1 < valF f p.2
  · rw [if_pos h]
    simp
    omega
  · rw [if_neg h]
    simp
    omega
/-- what the hours and woods of a house are told from -/
structure Hours (ds : List (Str × Str)) (w f : List (Str × Int)) : Prop where
  nd : (f.map (·.1)).Nodup
  inF : ∀ p ∈ ds, p.1 ∈ f.map (·.1) ∧ p.2 ∈ f.map (·.1)
section
variable {ds : List (Str × Str)} {first : Str} {m m' : Ms} {x y b c : Str} {w f : List (Str × Int)}
theorem lowest_iff {r : Str} : ((besides ds r).all fun o => decide (valF f r < valF f o)) = true ↔ ∀ o, Adj ds r o → valF f r < valF f o := by
  rw [List.all_eq_true]
  constructor
  · intro h o a
    exact of_decide_eq_true (h o (besides_mem.mpr a))
  · intro h o ho
    exact decide_eq_true (h o (besides_mem.mp ho))
theorem Par.doors_of (M : Par ds first m) (cnt : ds.length + 1 ≤ m.length) (H : Hours ds w f) (all : ∀ x ∈ m.map (·.1), x ∈ f.map (·.1)) (hf : first ∈ f.map (·.1)) (back : ∀ x ∈ f.map (·.1), x ∈ m.map (·.1)) (h : burnsB w f m = true) : byDoors ds w f = true := by
  have hb := burns_iff.mp h
  unfold byDoors
  rw [Bool.and_eq_true]
  refine ⟨List.all_eq_true.mpr fun p hp => ?_, decide_eq_true ?_⟩
  · rw [doorOk_iff]
    rcases M.door cnt (x := p.1) (y := p.2) (.inl hp) with q | q
    · have s := hb _ _ q
      unfold Stp1 at s
      left
      omega
    · have s := hb _ _ q
      unfold Stp1 at s
      right
      omega
  · have : firstsOf ds f = [first] := one_filter H.nd hf fun x hx => by
      rw [lowest_iff]
      constructor
      · intro low
        rcases M.ex (back x hx) with e | ⟨b, q⟩
        · exact e
        · have s := hb _ _ q
          unfold Stp1 at s
          have := low b (M.adj q).symm
          omega
      · intro e o a
        subst e
        rcases M.door cnt a with q | q
        · have s := hb _ _ q
          unfold Stp1 at s
          omega
        · exact (M.top q).elim
    rw [this]
    rfl
theorem byDoors_ok (h : byDoors ds w f = true) (a : Adj ds x y) : (valF f x < valF f y ∧ valF f y - valF f x ≤ valF w x) ∨ (valF f y < valF f x ∧ valF f x - valF f y ≤ valF w y) := by
  unfold byDoors at h
  rw [Bool.and_eq_true] at h
  have := List.all_eq_true.mp h.1
  rcases a with a | a
  · exact doorOk_iff.mp (this _ a)
  · exact (doorOk_iff.mp (this _ a)).symm
/-- from the one room that is lowest all burns -/
theorem Par.burns_of (M : Par ds first m) (cnt : ds.length + 1 ≤ m.length) (H : Hours ds w f) (all : ∀ x ∈ m.map (·.1), x ∈ f.map (·.1)) (low : ∀ o, Adj ds first o → valF f first < valF f o) (h : byDoors ds w f = true) : burnsB w f m = true := by
  have one : (firstsOf ds f).length = 1 := by
    unfold byDoors at h
    rw [Bool.and_eq_true] at h
    exact of_decide_eq_true h.2
  have hf : first ∈ f.map (·.1) := all first (List.mem_map.mpr ⟨_, List.mem_of_getElem? M.z, rfl⟩)
  have good : ∀ (k i : Nat) (x b : Str), m.length - i = k → m[i]? = some (x, some b) → valF f b < valF f x := by
    intro k
    induction k using Nat.strongRecOn with
    | ind k ih =>
      intro i x b hk hi
      have li := (List.getElem?_eq_some_iff.mp hi).1
      apply Classical.byContradiction
      intro bad
      have ab := M.adj ⟨i, hi⟩
      have xb : valF f x < valF f b := by
        rcases byDoors_ok h ab with q | q
        · exact absurd q.1 bad
        · exact q.1
      have lowx : ∀ o, Adj ds x o → valF f x < valF f o := fun o a => by
        rcases M.door cnt a with q | q
        · obtain ⟨j, hj⟩ := q
          obtain ⟨i', o', lt, hi', _⟩ := M.up hj
          have e := M.nd hi' hi
          subst e
          have lj := (List.getElem?_eq_some_iff.mp hj).1
          exact ih (m.length - j) (by omega) j o x rfl hj
        · have := M.uniq q ⟨i, hi⟩
          subst this
          exact xb
      have hx : x ∈ f.map (·.1) := all x (List.mem_map.mpr ⟨_, List.mem_of_getElem? hi, rfl⟩)
      have e := one_uniq (p := fun r => (besides ds r).all fun o => decide (valF f r < valF f o)) one hx (lowest_iff.mpr lowx) hf (lowest_iff.mpr low)
      subst e
      exact M.top ⟨i, hi⟩
  refine burns_iff.mpr fun x b q => ?_
  obtain ⟨i, hi⟩ := q
  have g := good _ i x b rfl hi
  unfold Stp1
  rcases byDoors_ok h (M.adj ⟨i, hi⟩) with q | q
  · omega
  · omega
theorem lowest_of_least (h : byDoors ds w f = true) (least : ∀ o, Adj ds x o → valF f x ≤ valF f o) : ∀ o, Adj ds x o → valF f x < valF f o := fun o a => by
  have := least o a
  rcases byDoors_ok h a with q | q
  · exact q.1
  · omega
end
end Z
set_option maxRecDepth 100000
set_option maxHeartbeats 1000000
set_option linter.all false
namespace Z
open PySem PySem.Spec
open PyProof.Rows L2 LamX
/-! all fires from a room, grown room by room -/
abbrev Fi := List (Str × Int)
def grow1 (w : Fi) (x b : Str) (f : Fi) : List Fi := (List.range (valF w b).toNat).map fun (k : Nat) => f ++ [(x, valF f b + 1 + (k : Int))]
def growL (w : Fi) (x b : Str) (Fs : List Fi) : List Fi := Fs.flatMap (grow1 w x b)
theorem valF_old {f : Fi} {x y : Str} {v : Int} (h : y ∈ f.map (·.1)) : valF (f ++ [(x, v)]) y = valF f y := by
  unfold valF
  induction f with
  | nil => simp at h
  | cons p r ih =>
    rw [List.cons_append, List.lookup_cons, List.lookup_cons]
    by_cases e : y = p.1
    · have e2 : (y == p.1) = true := beq_iff_eq.mpr e
      simp only [e2]
    · have e2 : (y == p.1) = false := beq_eq_false_iff_ne.mpr e
      simp only [e2]
      exact ih ((List.mem_cons.mp h).resolve_left e)
theorem valF_new {f : Fi} {x : Str} {v : Int} (h : x ∉ f.map (·.1)) : valF (f ++ [(x, v)]) x = v := by
  unfold valF
  induction f with
  | nil => simp
  | cons p r ih =>
    rw [List.map_cons, List.mem_cons, not_or] at h
    rw [List.cons_append, List.lookup_cons]
    have e2 : (x == p.1) = false := beq_eq_false_iff_ne.mpr h.1
    simp only [e2]
    exact ih h.2
theorem mem_growL {w : Fi} {x b : Str} {Fs : List Fi} {g : Fi} : g ∈ growL w x b Fs ↔ ∃ f ∈ Fs, ∃ k : Nat, (k : Int) < valF w b ∧ g = f ++ [(x, valF f b + 1 + (k : Int))] := by
  unfold growL grow1
  rw [List.mem_flatMap]
  constructor
  · rintro ⟨f, hf, hg⟩
    obtain ⟨k, hk, e⟩ := List.mem_map.mp hg
    have := List.mem_range.mp hk
    exact ⟨f, hf, k, by omega, e.symm⟩
  · rintro ⟨f, hf, k, hk, e⟩
    exact ⟨f, hf, List.mem_map.mpr ⟨k, List.mem_range.mpr (by omega), e.symm⟩⟩
theorem growL_len {w : Fi} {x b : Str} : ∀ {Fs : List Fi}, (growL w x b Fs).length = Fs.length * (valF w b).toNat
  | [] => by simp [growL]
  | f :: r => by
    have ih := growL_len (w := w) (x := x) (b := b) (Fs := r)
    unfold growL at ih ⊢
    rw [List.flatMap_cons, List.length_append, ih]
    unfold grow1
    rw [List.length_map, List.length_range, List.length_cons, Nat.succ_mul, Nat.add_comm]
/-- hours that a room can have behind a first one's, least and most -/
inductive Dp (w : Fi) (m : Ms) (first : Str) : Str → Int → Int → Prop
  | top : Dp w m first first 0 0
  | up {x b : Str} {lo hi : Int} : Pm m x b → Dp w m first b lo hi → Dp w m first x (lo + 1) (hi + valF w b)
structure Grown (w : Fi) (first : Str) (hour : Int) (m : Ms) (Fs : List Fi) : Prop where
  keys : ∀ f ∈ Fs, f.map (·.1) = m.map (·.1)
  top : ∀ f ∈ Fs, valF f first = hour
  stp : ∀ f ∈ Fs, ∀ x b, Pm m x b → Stp1 w f x b
  val : ∀ x lo hi, Dp w m first x lo hi → ∀ v, hour + lo ≤ v → v ≤ hour + hi → ∃ f ∈ Fs, valF f x = v
  cnt : Fs.length = ((restOf m).map fun p => (valF w p.2).toNat).prod
theorem restOf_snoc {x b : Str} : ∀ {m : Ms}, restOf (m ++ [(x, some b)]) = restOf m ++ [(x, b)]
  | [] => rfl
  | (y, none) :: r => restOf_snoc (m := r)
  | (y, some c) :: r => congrArg ((y, c) :: ·) (restOf_snoc (m := r))
theorem prod_snoc : ∀ {l : List Nat} {a : Nat}, (l ++ [a]).prod = l.prod * a
  | [], a => by simp
  | b :: r, a => by rw [List.cons_append, List.prod_cons, List.prod_cons, prod_snoc (l := r), Nat.mul_assoc]
theorem Grown.start {w : Fi} {first : Str} {hour : Int} : Grown w first hour [(first, none)] [[(first, hour)]] where
  keys := fun f hf => by rw [List.mem_singleton.mp hf]; rfl
  top := fun f hf => by
    rw [List.mem_singleton.mp hf]
    unfold valF
    simp
  stp := fun f hf x b ⟨i, hi⟩ => by
    cases i with
    | zero => cases hi
    | succ i => simp at hi
  val := fun x lo hi d v h1 h2 => by
    cases d with
    | top =>
      refine ⟨_, List.mem_singleton.mpr rfl, ?_⟩
      unfold valF
      simp
      omega
    | up p d =>
      obtain ⟨i, hi⟩ := p
      cases i with
      | zero => cases hi
      | succ i => simp at hi
  cnt := rfl
section
variable {ds : List (Str × Str)} {first : Str} {m m' : Ms} {x y b c : Str} {w : Fi} {hour lo hi : Int} {Fs : List Fi}
theorem Pm.snoc (h : Pm (m ++ [(x, some b)]) y c) : Pm m y c ∨ (y = x ∧ c = b) := by
  have := mem_Pm.mpr h
  rcases List.mem_append.mp this with q | q
  · exact .inl (mem_Pm.mp q)
  · have q := List.mem_singleton.mp q
    cases q
    exact .inr ⟨rfl, rfl⟩
theorem Pm.old (h : Pm m y c) : Pm (m ++ [(x, some b)]) y c := mem_Pm.mp (List.mem_append_left _ (mem_Pm.mpr h))
theorem Pm.new : Pm (m ++ [(x, some b)]) x b := mem_Pm.mp (List.mem_append_right _ (List.mem_singleton.mpr rfl))
theorem Pm.key (h : Pm m y c) : y ∈ m.map (·.1) := List.mem_map.mpr ⟨_, mem_Pm.mpr h, rfl⟩
theorem Par.key (M : Par ds first m) (h : Pm m y c) : c ∈ m.map (·.1) := by
  obtain ⟨i, hi⟩ := h
  obtain ⟨j, o, _, hj, _⟩ := M.up hi
  exact List.mem_map.mpr ⟨_, List.mem_of_getElem? hj, rfl⟩
theorem Par.fst (M : Par ds first m) : first ∈ m.map (·.1) := List.mem_map.mpr ⟨_, List.mem_of_getElem? M.z, rfl⟩
theorem Dp.old (M : Par ds first m) (nx : x ∉ m.map (·.1)) : Dp w (m ++ [(x, some b)]) first y lo hi → y ∈ m.map (·.1) → Dp w m first y lo hi := fun d => by
  induction d with
  | top => exact fun _ => .top
  | up p d ih =>
    intro hy
    rcases Pm.snoc p with q | ⟨e, _⟩
    · exact .up q (ih (M.key q))
    · subst e
      exact absurd hy nx
theorem Par.snoc (M : Par ds first m) (nx : x ∉ m.map (·.1)) (hb : b ∈ m.map (·.1)) (a : Adj ds b x) : Par ds first (m ++ [(x, some b)]) where
  z := by
    rw [List.getElem?_append_left (List.getElem?_eq_some_iff.mp M.z).1]
    exact M.z
  nd := fun hi hj => nd_at (by
    rw [List.map_append, List.nodup_append]
    refine ⟨M.ndm, by simp, fun u hu v hv e => ?_⟩
    have hv : v = x := by simpa using hv
    exact nx (by rw [← hv, ← e]; exact hu)) hi hj
  pr := fun {i y o} hi h0 => by
    by_cases lt : i < m.length
    · rw [List.getElem?_append_left lt] at hi
      obtain ⟨b', j, o', e, l2, hj, a'⟩ := M.pr hi h0
      exact ⟨b', j, o', e, l2, by rw [List.getElem?_append_left (by omega)]; exact hj, a'⟩
    · have li := (List.getElem?_eq_some_iff.mp hi).1
      rw [List.length_append] at li
      simp at li
      have e : i = m.length := by omega
      subst e
      rw [List.getElem?_append_right (Nat.le_refl _), Nat.sub_self] at hi
      cases hi
      obtain ⟨p, hp, e⟩ := List.mem_map.mp hb
      obtain ⟨j, hj⟩ := List.getElem?_of_mem hp
      have lj := (List.getElem?_eq_some_iff.mp hj).1
      exact ⟨b, j, p.2, rfl, lj, by rw [List.getElem?_append_left lj, hj, ← e], a⟩
theorem Grown.add (G : Grown w first hour m Fs) (M : Par ds first m) (nx : x ∉ m.map (·.1)) (hb : b ∈ m.map (·.1)) (pos : 1 ≤ valF w b) : Grown w first hour (m ++ [(x, some b)]) (growL w x b Fs) where
  keys := fun g hg => by
    obtain ⟨f, hf, k, _, e⟩ := mem_growL.mp hg
    rw [e, List.map_append, List.map_append, G.keys f hf]
    rfl
  top := fun g hg => by
    obtain ⟨f, hf, k, _, e⟩ := mem_growL.mp hg
    rw [e, valF_old (by rw [G.keys f hf]; exact M.fst)]
    exact G.top f hf
  stp := fun g hg y c p => by
    obtain ⟨f, hf, k, hk, e⟩ := mem_growL.mp hg
    have kf := G.keys f hf
    rcases Pm.snoc p with q | ⟨e1, e2⟩
    · have := G.stp f hf y c q
      unfold Stp1 at this ⊢
      rw [e, valF_old (by rw [kf]; exact q.key), valF_old (by rw [kf]; exact M.key q)]
      exact this
    · subst e1 e2
      unfold Stp1
      rw [e, valF_new (by rw [kf]; exact nx), valF_old (by rw [kf]; exact hb)]
      omega
  val := fun y lo hi d v h1 h2 => by
    by_cases hy : y ∈ m.map (·.1)
    · obtain ⟨f, hf, e⟩ := G.val y lo hi (d.old M nx hy) v h1 h2
      refine ⟨_, mem_growL.mpr ⟨f, hf, 0, by simp; omega, rfl⟩, ?_⟩
      rw [valF_old (by rw [G.keys f hf]; exact hy)]
      exact e
    · cases d with
      | top => exact absurd M.fst hy
      | up p d =>
        rename_i c lo hi
        rcases Pm.snoc p with q | ⟨e1, e2⟩
        · exact absurd q.key hy
        · subst e1 e2
          have d0 := d.old M nx hb
          have go : ∀ v0, hour + lo ≤ v0 → v0 ≤ hour + hi → v0 + 1 ≤ v → v - v0 ≤ valF w c → ∃ f ∈ growL w y c Fs, valF f y = v := fun v0 a1 a2 a3 a4 => by
            obtain ⟨f, hf, e⟩ := G.val c lo hi d0 v0 a1 a2
            refine ⟨_, mem_growL.mpr ⟨f, hf, (v - v0 - 1).toNat, by omega, rfl⟩, ?_⟩
            rw [valF_new (by rw [G.keys f hf]; exact hy), e]
            omega
          by_cases q : hour + lo ≤ v - valF w c
          · exact go (v - valF w c) q (by omega) (by omega) (by omega)
          · have : hour + lo ≤ hour + hi := by
              have mono : ∀ {z : Str} {l h : Int}, Dp w m first z l h → (∀ z' b', Pm m z' b' → 1 ≤ valF w b') → l ≤ h := fun {z l h} d ps => by
                induction d with
                | top => exact Int.le_refl _
                | up p d ih =>
                  have := ps _ _ p
                  omega
              have := mono d0 fun z' b' p => by
                have ne : Fs ≠ [] := fun z => by
                  obtain ⟨f, hf, _⟩ := G.val first 0 0 .top hour (by omega) (by omega)
                  rw [z] at hf
                  exact absurd hf (by simp)
                obtain ⟨f, hf⟩ := List.exists_mem_of_ne_nil _ ne
                have := G.stp f hf z' b' p
                unfold Stp1 at this
                omega
              omega
            exact go (hour + lo) (by omega) this (by omega) (by omega)
  cnt := by rw [growL_len, restOf_snoc, List.map_append, List.map_cons, List.map_nil, prod_snoc, G.cnt]
theorem Grown.rng (G : Grown w first hour m Fs) (d : Dp w m first x lo hi) {f : Fi} (hf : f ∈ Fs) : hour + lo ≤ valF f x ∧ valF f x ≤ hour + hi := by
  induction d with
  | top =>
    have := G.top f hf
    omega
  | up p d ih =>
    have s := G.stp f hf _ _ p
    unfold Stp1 at s
    omega
/-! the way there -/
theorem Par.way (M : Par ds first m) (cnt : ds.length + 1 ≤ m.length) (M' : Par ds x m') (look : ∀ {y z : Str}, m'.lookup y = some (some z) → Pm m' y z) {bs : List Str} {last : Str} (k : Wk m' first bs last) :
    Dp w m first last ((bs.length : Int) - 1) (wayWood w bs) ∧ (last = first ∨ ∃ z, Pm m last z ∧ Pm m' z last) := by
  induction k with
  | one => exact ⟨.top, .inl rfl⟩
  | snoc k lk ih =>
    rename_i bs y z
    obtain ⟨d, o⟩ := ih
    have p' := look lk
    have p : Pm m z y := by
      rcases M.door cnt (M'.adj p').symm with q | q
      · exact q
      · rcases o with e | ⟨u, q1, q2⟩
        · subst e
          exact (M.top q).elim
        · have := M.uniq q1 q
          subst this
          exact (M'.not_both p' q2).elim
    refine ⟨?_, .inr ⟨y, p, p'⟩⟩
    have e1 : ((bs ++ [z]).length : Int) - 1 = ((bs.length : Int) - 1) + 1 := by
      rw [List.length_append]
      simp
    have e2 : wayWood w (bs ++ [z]) = wayWood w bs + valF w y := by
      obtain ⟨r, e⟩ := k.last
      subst e
      unfold wayWood
      rw [List.dropLast_concat, List.dropLast_concat, List.map_append, List.sum_append]
      simp
    rw [e1, e2]
    exact .up p d
end
end Z
set_option maxRecDepth 100000
set_option maxHeartbeats 1000000
set_option linter.all false
namespace Z
open PySem PySem.Spec
open PyProof.Rows L2 LamX
/-! a house and its doors; what its fires are -/
structure Hd (ds : List (Str × Str)) (h : Hs) : Prop where
  ok : HsOk h
  cn : Conn h
  adj1 : ∀ b ns, h.near.lookup b = some ns → ∀ y ∈ ns, Adj ds b y
  adj2 : ∀ b y, Adj ds b y → ∃ ns, h.near.lookup b = some ns ∧ y ∈ ns
  cnt : ds.length + 1 = h.rooms.length
  inn : ∀ p ∈ ds, p.1 ∈ h.rooms ∧ p.2 ∈ h.rooms
/-- all rooms are met -/
structure Full (ds : List (Str × Str)) (h : Hs) (first : Str) (m : Ms) : Prop where
  p : Par ds first m
  all : ∀ x, x ∈ m.map (·.1) ↔ x ∈ h.rooms
theorem Full.cnt {ds : List (Str × Str)} {h : Hs} {first : Str} {m : Ms} (F : Full ds h first m) (T : Hd ds h) : ds.length + 1 ≤ m.length := by
  have := pigeon T.ok.nd fun x hx => (F.all x).mpr hx
  rw [List.length_map] at this
  have := T.cnt
  omega
section
variable {ds : List (Str × Str)} {h : Hs} {first x : Str} {m m' : Ms}
theorem Hd.ahead (T : Hd ds h) (hf : first ∈ h.rooms) (a : Ahead h first m) : Full ds h first m where
  p := a.1.par' T.adj1
  all := fun x => ⟨a.2.2 x, a.all T.cn hf x⟩
theorem Hd.sch (T : Hd ds h) {i : BU} (e : i.ds = ds) (er : ∀ x, x ∈ i.rooms ↔ x ∈ h.rooms) (hf : first ∈ h.rooms) (s : Sch i first m) : Full ds h first m where
  p := s.1.par' fun b ns hb y hy => by
    by_cases q : b ∈ i.rooms
    · rw [look_near q] at hb
      cases hb
      rw [e] at hy
      exact besides_mem.mp hy
    · exfalso
      have : (nearOf i.ds i.rooms).lookup b ≠ none := by rw [hb]; exact fun z => by cases z
      have := look_mem.mp (Option.isSome_iff_ne_none.mpr this)
      unfold nearOf at this
      rw [List.map_map] at this
      obtain ⟨r, hr, e2⟩ := List.mem_map.mp this
      exact q (by rw [← e2]; exact hr)
  all := fun x => by
    refine ⟨fun hx => (er x).mp (s.2.1 x hx), fun hx => ?_⟩
    refine T.cn (fun y => y ∈ m.map (·.1)) ⟨first, hf, ?_⟩ (fun b ns hb hn y hy => ?_) x hx
    · obtain ⟨r, e3, _⟩ := s.1.hd
      rw [e3]
      simp
    · exact s.2.2 b hb y (by rw [e]; exact besides_mem.mpr (T.adj1 b ns hn y hy))
theorem Earliest.least {f : Fi} (T : Hd ds h) (e : Earliest h f x) (all : ∀ y ∈ h.rooms, y ∈ f.map (·.1)) : ∀ o, Adj ds x o → valF f x ≤ valF f o := fun o a => by
  obtain ⟨_, v, hv, mn⟩ := e
  have ho : o ∈ h.rooms := by
    rcases a with a | a
    · exact (T.inn _ a).2
    · exact (T.inn _ a).1
  obtain ⟨u, hu⟩ := Option.isSome_iff_exists.mp (look_mem.mpr (all o ho))
  have := mn o u ho hu
  unfold valF
  rw [hv, hu]
  exact this
end
/-- hours of all rooms -/
structure Hrs (ds : List (Str × Str)) (h : Hs) (f : Fi) : Prop where
  nd : (f.map (·.1)).Nodup
  all : ∀ x, x ∈ f.map (·.1) ↔ x ∈ h.rooms
theorem Hrs.hours {ds : List (Str × Str)} {h : Hs} {f w : Fi} (T : Hd ds h) (H : Hrs ds h f) : Hours ds w f where
  nd := H.nd
  inF := fun p hp => ⟨(H.all _).mpr (T.inn p hp).1, (H.all _).mpr (T.inn p hp).2⟩
section
variable {ds : List (Str × Str)} {h : Hs} {first x : Str} {m m' : Ms} {w f : Fi}
theorem Full.by_burns (F : Full ds h first m) (T : Hd ds h) (H : Hrs ds h f) (b : burnsB w f m = true) : byDoors ds w f = true :=
  F.p.doors_of (F.cnt T) (H.hours (w := w) T) (fun x hx => (H.all x).mpr ((F.all x).mp hx)) ((H.all first).mpr ((F.all first).mp F.p.fst)) (fun x hx => (F.all x).mpr ((H.all x).mp hx)) b
theorem Full.burns_by (F : Full ds h first m) (T : Hd ds h) (H : Hrs ds h f) (low : ∀ o, Adj ds first o → valF f first < valF f o) (b : byDoors ds w f = true) : burnsB w f m = true :=
  F.p.burns_of (F.cnt T) (H.hours (w := w) T) (fun x hx => (H.all x).mpr ((F.all x).mp hx)) low b
/-- a fire by the program is one by the doors -/
theorem fire_doors {i : FI} {b : Bool} (T : Hd ds i.w.h) (H : Hrs ds i.w.h i.f) (z : FireB i b) : b = byDoors ds i.w.m i.f := by
  obtain ⟨x, m, er, ah, e⟩ := z
  have F := T.ahead er.1 ah
  rw [e, Bool.eq_iff_iff]
  refine ⟨F.by_burns T H, fun q => F.burns_by T H (lowest_of_least q (er.least T fun y hy => (H.all y).mpr hy)) q⟩
theorem burns_doors {i : BU} {b : Bool} (T : Hd ds h) (H : Hrs ds h i.f) (e : i.ds = ds) (z : BurnsB i b) : b = byDoors ds i.w i.f := by
  have er : ∀ x, x ∈ i.rooms ↔ x ∈ h.rooms := H.all
  rcases z with ⟨eb, first, m, hf, s, bb⟩ | ⟨eb, all⟩
  · rw [eb]
    exact ((T.sch e er ((er _).mp hf) s).by_burns T H bb).symm
  · rw [eb]
    apply Eq.symm
    cases q : byDoors ds i.w i.f with
    | false => rfl
    | true =>
      exfalso
      have q2 := q
      unfold byDoors at q2
      rw [Bool.and_eq_true] at q2
      have one := of_decide_eq_true q2.2
      match w : firstsOf ds i.f, one with
      | [x], _ =>
        have hx : x ∈ firstsOf ds i.f := by rw [w]; exact List.mem_singleton.mpr rfl
        have hx := List.mem_filter.mp hx
        obtain ⟨m, s, bb⟩ := all x hx.1
        have F := T.sch e er ((er x).mp hx.1) s
        rw [F.burns_by T H (lowest_iff.mp hx.2) q] at bb
        cases bb
/-- the one room that is earliest is the first -/
theorem Full.earliest (F : Full ds h first m) (H : Hrs ds h f) (b : burnsB w f m = true) (er : Earliest h f x) : x = first := by
  apply Classical.byContradiction
  intro ne
  have lt := F.p.ahead_of b ((F.all x).mpr er.1) ne
  obtain ⟨_, v, hv, mn⟩ := er
  have hf : first ∈ h.rooms := (F.all first).mp F.p.fst
  obtain ⟨u, hu⟩ := Option.isSome_iff_exists.mp (look_mem.mpr ((H.all first).mpr hf))
  have := mn first u hf hu
  unfold valF at lt
  rw [hv, hu] at lt
  simp at lt
  omega
/-- what is lit from none: the first room alone -/
theorem froms_none (T : Hd ds h) (hx : x ∈ h.rooms) (a : Ahead h x m) {m' : Ms} (s : AscOf m m') : (m'.map (·.1)).filter (fun r => decide (m'.lookup r = some none)) = [x] := by
  have F := T.ahead hx a
  have pm := ssort_perm (m.map (·.1))
  have nd2 : (m'.map (·.1)).Nodup := by rw [s.1]; exact pm.nodup_iff.mpr a.1.nd
  have look : ∀ r ∈ m'.map (·.1), m'.lookup r = m.lookup r := fun r hr => by
    obtain ⟨p, hp, e⟩ := List.mem_map.mp hr
    obtain ⟨j, hj⟩ := List.getElem?_of_mem hp
    have := look_at (v := p.2) nd2 hj
    rw [← e, this, s.2 p hp]
  refine one_filter nd2 (by rw [s.1]; exact pm.mem_iff.mpr F.p.fst) fun r hr => ?_
  rw [decide_eq_true_eq, look r hr]
  constructor
  · intro e
    have rm : r ∈ m.map (·.1) := by rw [s.1] at hr; exact pm.mem_iff.mp hr
    rcases F.p.ex rm with q | ⟨b, i, hi⟩
    · exact q
    · rw [look_at a.1.nd hi] at e
      cases e
  · intro e
    subst e
    exact look_at a.1.nd F.p.z
end
end Z
set_option maxRecDepth 100000
set_option maxHeartbeats 1000000
set_option linter.all false
namespace Z
open PySem PySem.Spec
open PyProof.Rows L2 LamX
/-! all fires told in order of their rooms; how many, and with which hours -/
def sortF (f : Fi) : Fi := (ssort (f.map (·.1))).map fun r => (r, valF f r)
theorem valF_map {l : List Str} {g : Str → Int} {y : Str} (h : y ∈ l) : valF (l.map fun r => (r, g r)) y = g y := by
  unfold valF
  induction l with
  | nil => simp at h
  | cons x r ih =>
    rw [List.map_cons, List.lookup_cons]
    by_cases e : y = x
    · subst e
      simp
    · have e2 : (y == x) = false := beq_eq_false_iff_ne.mpr e
      simp only [e2]
      exact ih ((List.mem_cons.mp h).resolve_left e)
theorem sortF_keys (f : Fi) : (sortF f).map (·.1) = ssort (f.map (·.1)) := by
  unfold sortF
  rw [List.map_map]
  exact (List.map_congr_left fun _ _ => rfl).trans (List.map_id _)
theorem valF_sortF {f : Fi} {y : Str} (h : y ∈ f.map (·.1)) : valF (sortF f) y = valF f y :=
  valF_map ((ssort_perm _).mem_iff.mpr h)
theorem burns_congr {w f g : Fi} {m : Ms} (h : ∀ x b, Pm m x b → valF f x = valF g x ∧ valF f b = valF g b) : burnsB w f m = burnsB w g m := by
  rw [Bool.eq_iff_iff, burns_iff, burns_iff]
  constructor
  · intro q x b p
    obtain ⟨e1, e2⟩ := h x b p
    have := q x b p
    unfold Stp1 at this ⊢
    rw [← e1, ← e2]
    exact this
  · intro q x b p
    obtain ⟨e1, e2⟩ := h x b p
    have := q x b p
    unfold Stp1 at this ⊢
    rw [e1, e2]
    exact this
theorem rgI_mem {a b v : Int} : v ∈ rgI a b ↔ a ≤ v ∧ v < b := by
  unfold rgI
  rw [List.mem_map]
  constructor
  · rintro ⟨k, hk, e⟩
    have := List.mem_range.mp hk
    omega
  · intro h
    exact ⟨(v - a).toNat, List.mem_range.mpr (by omega), by omega⟩
theorem rgI_pw (a b : Int) : (rgI a b).Pairwise (· < ·) := by
  unfold rgI
  rw [List.pairwise_map]
  exact List.pairwise_lt_range.imp fun h => by omega
theorem rgI_len (a b : Int) : (rgI a b).length = (b - a).toNat := by
  unfold rgI
  rw [List.length_map, List.length_range]
section
variable {ds : List (Str × Str)} {h : Hs} {first x : Str} {m m' : Ms} {w f : Fi} {Fs : List Fi} {hour lo hi : Int}
theorem Grown.diffs_mem (G : Grown w first hour m Fs) (F : Full ds h first m) (hx : x ∈ h.rooms) {v : Int} (d : Dp w m first x lo hi) : v ∈ diffs (Fs.map sortF) x first ↔ lo ≤ v ∧ v ≤ hi := by
  have eq : ∀ f ∈ Fs, valF (sortF f) x - valF (sortF f) first = valF f x - hour := fun f hf => by
    rw [valF_sortF (by rw [G.keys f hf]; exact (F.all x).mpr hx), valF_sortF (by rw [G.keys f hf]; exact F.p.fst), G.top f hf]
  unfold diffs
  rw [List.map_map, List.mem_map]
  constructor
  · rintro ⟨f, hf, e⟩
    have e : valF (sortF f) x - valF (sortF f) first = v := e
    rw [eq f hf] at e
    have := G.rng d hf
    omega
  · intro hv
    obtain ⟨f, hf, e⟩ := G.val x lo hi d (hour + v) (by omega) (by omega)
    refine ⟨f, hf, ?_⟩
    show valF (sortF f) x - valF (sortF f) first = v
    rw [eq f hf, e]
    omega
theorem Grown.right (G : Grown w first hour m Fs) (F : Full ds h first m) (hx : x ∈ h.rooms) (d : Dp w m first x lo hi) : isort (onces (diffs (Fs.map sortF) x first)) = rgI lo (hi + 1) := by
  refine (isort_uniq ?_ ((rgI_pw _ _).imp fun h => by omega)).symm
  refine (List.perm_ext_iff_of_nodup ((rgI_pw _ _).imp fun h => by omega) (once_nd List.Pairwise.nil)).mpr fun v => ?_
  rw [once_mem, G.diffs_mem F hx d, rgI_mem]
  simp
  omega
theorem Grown.few (G : Grown w first hour m Fs) (F : Full ds h first m) (hx : x ∈ h.rooms) (d : Dp w m first x lo hi) : (onces (diffs (Fs.map sortF) x first)).length = (hi + 1 - lo).toNat := by
  rw [← (isort_perm _).length_eq, G.right F hx d, rgI_len]
end
/-! how many -/
def prd (g : Str → Int) : List Str → Int
  | [] => 1
  | r :: t => g r * prd g t
theorem prd_fold {g : Str → Int} : ∀ {ks : List Str} {c : Int}, ks.foldl (fun a r => a * g r) c = c * prd g ks
  | [], c => by simp [prd]
  | r :: t, c => by
    rw [List.foldl_cons, prd_fold (ks := t)]
    show c * g r * prd g t = c * (g r * prd g t)
    rw [Int.mul_assoc]
theorem prd_congr {g g' : Str → Int} : ∀ {ks : List Str}, (∀ r ∈ ks, g r = g' r) → prd g ks = prd g' ks
  | [], _ => rfl
  | r :: t, h => by
    unfold prd
    rw [h r List.mem_cons_self, prd_congr fun x hx => h x (List.mem_cons_of_mem _ hx)]
theorem prd_step {g : Str → Int} {bs : List Str} {b : Str} : ∀ {ks : List Str}, ks.Nodup → b ∈ ks → prd (fun r => g r ^ (b :: bs).count r) ks = g b * prd (fun r => g r ^ bs.count r) ks
  | [], _, h => absurd h (by simp)
  | r :: t, nd, h => by
    have n := List.nodup_cons.mp nd
    unfold prd
    by_cases e : b = r
    · subst e
      have same : prd (fun r => g r ^ (b :: bs).count r) t = prd (fun r => g r ^ bs.count r) t := prd_congr fun r hr => by
        have ne : b ≠ r := fun q => n.1 (q ▸ hr)
        show g r ^ (b :: bs).count r = g r ^ bs.count r
        rw [List.count_cons_of_ne ne]
      rw [same]
      show g b ^ (b :: bs).count b * _ = _
      rw [List.count_cons_self, Int.pow_succ, Int.mul_comm (g b ^ bs.count b) (g b), Int.mul_assoc]
    · have ht := (List.mem_cons.mp h).resolve_left e
      rw [prd_step n.2 ht]
      show g r ^ (b :: bs).count r * _ = _
      rw [List.count_cons_of_ne e, Int.mul_left_comm]
theorem prd_all {g : Str → Int} {ks : List Str} (nd : ks.Nodup) : ∀ {bs : List Str}, (∀ b ∈ bs, b ∈ ks) → prd (fun r => g r ^ bs.count r) ks = (bs.map g).prod
  | [], _ => by
    have : ∀ {l : List Str}, prd (fun r => g r ^ ([] : List Str).count r) l = 1 := fun {l} => by
      induction l with
      | nil => rfl
      | cons x t ih =>
        unfold prd
        rw [ih]
        simp
    rw [this]
    rfl
  | b :: bs, h => by
    rw [prd_step nd (h b List.mem_cons_self), prd_all nd fun c hc => h c (List.mem_cons_of_mem _ hc), List.map_cons, List.prod_cons]
theorem prod_cast : ∀ {l : List Int}, (∀ a ∈ l, 0 ≤ a) → (((l.map Int.toNat).prod : Nat) : Int) = l.prod
  | [], _ => rfl
  | a :: r, h => by
    rw [List.map_cons, List.prod_cons, List.prod_cons, Int.natCast_mul, prod_cast fun x hx => h x (List.mem_cons_of_mem _ hx)]
    have := h a List.mem_cons_self
    rw [show ((a.toNat : Nat) : Int) = a by omega]
section
variable {ds : List (Str × Str)} {first : Str} {m : Ms} {w : Fi}
theorem restOf_keys (M : Par ds first m) : m.map (·.1) = first :: (restOf m).map (·.1) := by
  have l0 := (List.getElem?_eq_some_iff.mp M.z).1
  have hm : (first, none) :: m.drop 1 = m := by
    have := List.getElem_cons_drop (as := m) (i := 0) l0
    rwa [(List.getElem?_eq_some_iff.mp M.z).2, List.drop_zero] at this
  have key : ∀ {l : Ms}, (∀ p ∈ l, p.2 ≠ none) → (restOf l).map (·.1) = l.map (·.1) := fun {l} h => by
    induction l with
    | nil => rfl
    | cons p r ih =>
      obtain ⟨x, o⟩ := p
      cases o with
      | none => exact absurd rfl (h _ List.mem_cons_self)
      | some b =>
        show x :: (restOf r).map (·.1) = x :: r.map (·.1)
        rw [ih fun q hq => h q (List.mem_cons_of_mem _ hq)]
  rw [← hm]
  show first :: (m.drop 1).map (·.1) = first :: (restOf (m.drop 1)).map (·.1)
  rw [key]
  intro p hp q
  obtain ⟨i, hi⟩ := List.getElem?_of_mem hp
  rw [List.getElem?_drop] at hi
  have hi' : m[1 + i]? = some (p.1, p.2) := hi
  obtain ⟨b, _, _, e, _⟩ := M.pr hi' (by omega)
  rw [e] at q
  cases q
theorem count_nd {r : Str} : ∀ {l : List Str}, l.Nodup → l.count r = if r ∈ l then 1 else 0
  | [], _ => by simp
  | x :: t, nd => by
    have n := List.nodup_cons.mp nd
    rw [List.count_cons, count_nd n.2]
    by_cases e : x = r
    · subst e
      simp [n.1]
    · have e2 : (x == r) = false := beq_eq_false_iff_ne.mpr e
      simp [e2, List.mem_cons, Ne.symm e]
theorem besides_count (M : Par ds first m) (cnt : ds.length + 1 ≤ m.length) {r : Str} : (besides ds r).length = ((restOf m).map (·.2)).count r + ((restOf m).map (·.1)).count r := by
  have P := M.doors cnt
  unfold besides
  rw [(ssort_perm _).length_eq, List.length_append, List.length_map, List.length_map, (P.filter _).length_eq, (P.filter _).length_eq]
  have key : ∀ l : List (Str × Str), ((l.map fun p => doorOf ds p.1 p.2).filter fun p => decide (p.1 = r)).length + ((l.map fun p => doorOf ds p.1 p.2).filter fun p => decide (p.2 = r)).length = (l.map (·.2)).count r + (l.map (·.1)).count r := fun l => by
    induction l with
    | nil => rfl
    | cons p t ih =>
      rw [List.map_cons, List.map_cons, List.map_cons, List.filter_cons, List.filter_cons, List.count_cons, List.count_cons]
      obtain ⟨x, b⟩ := p
      have ih : ((t.map fun p => doorOf ds p.1 p.2).filter fun p => decide (p.1 = r)).length + ((t.map fun p => doorOf ds p.1 p.2).filter fun p => decide (p.2 = r)).length = (t.map (·.2)).count r + (t.map (·.1)).count r := ih
      rcases doorOf_or ds x b with e | e
      · simp only [e]
        by_cases e1 : b = r <;> by_cases e2 : x = r <;> simp [e1, e2] <;> omega
      · simp only [e]
        by_cases e1 : b = r <;> by_cases e2 : x = r <;> simp [e1, e2] <;> omega
  exact key _
theorem times_count (M : Par ds first m) (cnt : ds.length + 1 ≤ m.length) {r : Str} (hr : r ∈ m.map (·.1)) : timesOf ds first r = ((restOf m).map (·.2)).count r := by
  have k := restOf_keys M
  have nd := M.ndm
  rw [k] at nd hr
  have n := List.nodup_cons.mp nd
  unfold timesOf
  have := besides_count M cnt (r := r)
  rw [count_nd n.2] at this
  by_cases e : r = first
  · subst e
    rw [if_neg n.1] at this
    simp
    omega
  · rw [if_pos ((List.mem_cons.mp hr).resolve_left e)] at this
    rw [if_neg e]
    omega
theorem Grown.many {hour : Int} {Fs : List Fi} (G : Grown w first hour m Fs) (M : Par ds first m) (cnt : ds.length + 1 ≤ m.length) {ks : List Str} (nd : ks.Nodup) (km : ∀ x, x ∈ ks ↔ x ∈ m.map (·.1)) (pos : ∀ b ∈ ks, 0 ≤ valF w b) : manyOf ds w first ks = Fs.length := by
  have e1 : manyOf ds w first ks = prd (fun r => valF w r ^ ((restOf m).map (·.2)).count r) ks := by
    have e0 : manyOf ds w first ks = 1 * prd (fun r => valF w r ^ timesOf ds first r) ks := prd_fold (g := fun r => valF w r ^ timesOf ds first r) (ks := ks) (c := 1)
    rw [e0, Int.one_mul]
    exact prd_congr fun r hr => by
      show valF w r ^ timesOf ds first r = _
      rw [times_count M cnt ((km r).mp hr)]
  have sub : ∀ b ∈ (restOf m).map (·.2), b ∈ ks := fun b hb => by
    obtain ⟨p, hp, e⟩ := List.mem_map.mp hb
    exact (km b).mpr (by rw [← e]; exact M.key (mem_Pm.mp (mem_restOf.mp hp)))
  rw [e1, prd_all nd sub, G.cnt]
  have : ((restOf m).map fun p => (valF w p.2).toNat) = (((restOf m).map (·.2)).map (valF w)).map Int.toNat := by
    rw [List.map_map, List.map_map]
    rfl
  rw [this, prod_cast]
  intro a ha
  obtain ⟨b, hb, e⟩ := List.mem_map.mp ha
  rw [← e]
  exact pos b (sub b hb)
end
end Z
set_option maxRecDepth 100000
set_option maxHeartbeats 1000000
set_option linter.all false
namespace Z
open PySem PySem.Spec
open PyProof.Rows L2 LamX
/-! list(d.items()) of a dict, locked or not; a pair of a thing and a new list, taken apart -/
def itemsR : V → Hp → VK → Prop := fun x G Ψ => ∃ (b : Addr) (es : List (Key × V)), x = .ref b ∧ Rd G b (.dK es) ∧
  ∀ (G' : Hp) (q : Addr) (ts : List Addr), (∀ c o, G c = some o → G' c = some o) → G q = none → (∀ t ∈ ts, G t = none) → q ∉ ts →
    G' q = some (.lst (ts.map V.ref)) → Paired (fun (t : Addr) (e : Key × V) => G' t = some (.tup [kV e.1, e.2])) ts es → Ψ (.ref q) G'
def tLiR (te : TE) : TE := fun ν G Ψ => te ν G fun x G1 => itemsR x G1 Ψ
theorem pe_liR {X : Cx} {e : Expr} {te : TE} {p apos cpos pos : Pos} (calm : X.calm = true) (he : PE X e te) (gl : Gl X "list") (nm : X.mg "list" = none) (bt : bootBuiltins "list" = some (.type "list"))
    (base : attributeBase e "items" X.env (eval e X.env) = eval e X.env := by rfl) (line : (apos.endLine == cpos.line) = true := by rfl)
    (st : starEach [.Call (.Attribute e "items" apos) [] [] cpos] X.env = (false, eval (.Call (.Attribute e "items" apos) [] [] cpos) X.env) :: starEach [] X.env := by rfl) :
    PE X (.Call (.Name "list" p) [.Call (.Attribute e "items" apos) [] [] cpos] [] pos) (tLiR te) := by
  refine ⟨fun pins z ν G Ψ J want => ?_⟩
  refine wpAny_Call_Name_kw (ld_blt J gl nm bt ?_)
  refine PyProof.Rows.callWith_type1 ?_ st rfl
  rw [st]
  show wpAny _ _ (spliced ((false, eval (.Call (.Attribute e "items" apos) [] [] cpos) X.env) :: backTo pos (starEach [] X.env))) _ _ z
  refine Calls.spliced_cons ?_
  refine wpAny_Call_method (T := "dict") (id := "dict.items") base rfl line F.plainAttrs_dict F.slot_dict_items F.type_dict_items (thn (he.run pins z ν G _ J want) fun u z1 hu => ?_)
  obtain ⟨x, G1, J1, rx, b, es, ex, hb, go⟩ := hu
  subst ex
  have eu : u = Value.ref b := rx
  subst eu
  obtain ⟨few, ns, vs, kv, dof⟩ := dk_rd J1.hok hb
  obtain ⟨ep, dat⟩ := dof.dictAt
  have len : es.length = vs.length := Paired.length kv
  have J2 : L2.Inv X pins ν G1 { z1 with heap := z1.heap.push { cls := .type "dict_items", data := .fields #[.ref b] } } := J1.kept (t' := z1.toks) fun c o q => Heap.get?_push_of_some _ q
  refine ⟨dof.typeIs, dof.mapOf.noDict, ?_⟩
  show wpAny _ _ (callWith cpos (.builtin "dict.items") [.ref b] [] []) _ X.xe z1
  refine method_meetsIn F.slot_dict_items F.entry_dict_items rfl (PySem.evalArgs_none ⟨rfl, dof.typeIs, F.args_dict_items_1 _, _, meets_dict_items (mixKind X.prog X.w) b ns, ⟨vs, dof⟩, ?_⟩)
  refine Calls.spliced_nil ?_
  refine PySem.W.kdx_call (knd := mixKind X.prog X.w) (kvs := vs) (ep := ep) (J1.ok.hd calm) ⟨_, Heap.get?_push_size _ rfl, rfl, rfl⟩ (dat.push _) (by omega) fun h1 tk acc c ts keep at_ l1 gg l2 => ?_
  obtain ⟨G', k1, k2, k3, k4, k5, k6, J3⟩ := LiI.items_laid (tk := tk) J2 few kv keep at_ l1 gg l2
  exact ⟨.ref _, G', J3, rfl, go G' _ ts k1 k2 k3 k4 k5 k6⟩
section
variable {K : PySem.W.Frag} {C : Addr} {Ω : List (Addr × Str)} {c c1 c2 : Nat} {δ : List Sl} {O : Out → Prop} {te : TE} {R : D → Prop}
theorem dens_pairs {W : Wd K C Ω} {G : Hp} : ∀ {ts : List Addr} {es : List (Key × V)} {ds : List (Key × D)}, Paired (fun (t : Addr) (e : Key × V) => G t = some (.tup [kV e.1, e.2])) ts es → DenK W G ds es → Dens W G (itemsOf ds) (ts.map V.ref)
  | _, _, _, .nil, .nil => .nil
  | _, _, _, .cons h1 h2, .cons d1 d2 => .cons (.tup (.inl (.inl h1)) (.cons (den_key _) (.cons d1 .nil))) (dens_pairs h2 d2)
theorem paired_mem {α β : Type} {F : α → β → Prop} : ∀ {xs : List α} {ys : List β} {x : α}, Paired F xs ys → x ∈ xs → ∃ y, F x y
  | _, _, _, .nil, h => absurd h (by simp)
  | _, _, _, .cons h1 h2, h => (List.mem_cons.mp h).elim (fun e => ⟨_, e ▸ h1⟩) fun q => paired_mem h2 q
/-- new things laid, for good -/
theorem Ok.laid {W : Wd K C Ω} {F : Addr → Prop} {G H H' : Hp} (o : Ok W F G H) (k : ∀ b u, H b = some u → H' b = some u) : Stp W 0 G H (fun a => if H a = none then H' a else G a) H' := by
  have kp : W.Kp H H' := fun a u _ e => k a u e
  refine ⟨fun a u e => ?_, fun a u e => ?_, fun a u e _ => k a u e, fun a e => ?_, W.loc _ _ kp o.iv, ?_⟩
  · show (if H a = none then H' a else G a) = some u
    rw [if_neg (by rw [o.gh a u e]; exact fun z => nomatch z)]
    exact e
  · have e : (if H a = none then H' a else G a) = some u := e
    by_cases h : H a = none
    · rw [if_pos h] at e
      exact e
    · rw [if_neg h] at e
      exact k a u (o.gh a u e)
  · have e : (if H a = none then H' a else G a) ≠ none := e
    by_cases h : H a = none
    · exact .inr h
    · rw [if_neg h] at e
      exact .inl e
  · rw [W.cloc H H' kp o.iv]
    exact Nat.le_refl _
theorem ev_liR {ds : List (Key × D)} (h : Ev K C Ω c te δ (· = .dic ds)) : Ev K C Ω c (tLiR te) δ (· = .lst (itemsOf ds)) := fun W F G H σ o s m Q q9 =>
  h W F G H σ o s m _ fun v G1 H1 d st dd e => by
    subst e
    cases dd with
    | dic h1 h2 =>
      rename_i a es
      have o1 := st.ok o
      refine ⟨a, es, rfl, same_rd o1.gh h1, fun H' p ts k kp kt pn hp pr => ?_⟩
      have s2 := o1.laid k
      have new : ∀ {t : Addr} {u : HO}, H1 t = none → H' t = some u → (fun a => if H1 a = none then H' a else G1 a) t = some u := fun {t u} z e => by
        show (if H1 t = none then H' t else G1 t) = some u
        rw [if_pos z]
        exact e
      have dn : Dens W (fun a => if H1 a = none then H' a else G1 a) (itemsOf ds) (ts.map V.ref) := by
        refine dens_pairs (es := es) ?_ (h2.mono s2.gg)
        have go : ∀ {ts : List Addr} {es : List (Key × V)}, (∀ t ∈ ts, H1 t = none) → Paired (fun (t : Addr) (e : Key × V) => H' t = some (.tup [kV e.1, e.2])) ts es → Paired (fun (t : Addr) (e : Key × V) => (fun a => if H1 a = none then H' a else G1 a) t = some (.tup [kV e.1, e.2])) ts es := fun {ts es} kt pr => by
          induction pr with
          | nil => exact .nil
          | cons h1 h2 ih => exact .cons (new (kt _ List.mem_cons_self) h1) (ih fun t ht => kt t (List.mem_cons_of_mem _ ht))
        exact go kt pr
      exact q9 _ _ H' _ ((st.trans s2).le (by omega)) (.lst (new kp hp) dn) rfl
theorem run_tupL {i j : Nat} (ha : Ev K C Ω c te δ R) (k : ∀ d, R d → O (.nx ((δ.set i (.val d)).set j (.oL [])))) : Run K C Ω c (tAsg (tTup (tCons te (tCons (tLst tNil) tNil))) (gTup K 2 (gCons (gName i) (gCons (gName j) gNil)))) δ O := fun W F G H σ o s m Z n r b e =>
  ha W F G H σ o s m _ fun v G1 H1 d st dd rd => by
    refine ⟨Nat.zero_le _, fun p hp => ⟨by show 2 ≤ sizeLine; decide, fun t ht => ⟨t, [v, .ref p], rfl, .inl (.inl upd_same), rfl, v, [.ref p], rfl, .ref p, [], rfl, rfl, ?_⟩⟩⟩
    have o1 := st.ok o
    have st2 := o1.own (o := .lst []) hp
    have o2 := st2.ok o1
    have st3 := o2.own (o := .tup [v, .ref p]) ht
    have ne : p ≠ t := fun z => by
      rw [← z, upd_same] at ht
      cases ht
    have s1 := (s.step o st).set (i := i) dd
    have s2 := (s1.step o1 st2).step o2 st3
    exact n _ _ G1 _ (k d rd) ((((st.trans st2).trans st3).le (by omega)).f o) (s2.setOwn ⟨p, [], rfl, by rw [upd_ne ne]; exact upd_same, o1.gnone hp, fun z => o1.fd p z hp, .nil⟩ fun j t _ ej ht => s1.fresh hp j t ej ht)
end
end Z
set_option maxRecDepth 100000
set_option maxHeartbeats 1000000
set_option linter.all false
namespace Z
open PySem PySem.Spec
open PyProof.Rows L2 LamX
/-! all fires from a room, as the law grows them -/
def sortedD : List V → Hp → VK → Prop := fun xs H Q => ∃ (a : Addr) (kvs : List (Key × V)) (ks : List Str), xs = [V.ref a] ∧ Rd H a (HO.dK kvs) ∧ kvs.map (fun x => x.1) = ks.map Sum.inr ∧ ks.length < 64 ∧
  ∀ (ys : List Str) (p : Addr), ys.Perm ks → sortedS ys = true → H p = none → Q (V.ref p) (upd H p (HO.lst (ys.map V.str)))
def tSortD (i : Nat) : TE := tCB sortedD (tCons (tVar i) tNil)
def dicD (f : Fi) : D := .dic (dicS f D.int)
def unF : D → Fi
  | .dic kvs => kvs.filterMap fun kv => match kv with
    | (Sum.inr x, .int v) => some (x, v)
    | _ => none
  | _ => []
theorem unF_dicD (f : Fi) : unF (dicD f) = f := by
  unfold unF dicD dicS
  show (f.map fun p => ((Sum.inr p.1 : Key), D.int p.2)).filterMap _ = f
  rw [List.filterMap_map]
  induction f with
  | nil => rfl
  | cons p r ih =>
    rw [List.filterMap_cons]
    show (p.1, p.2) :: _ = _
    rw [ih]
section
variable {K : PySem.W.Frag} {C : Addr} {Ω : List (Addr × Str)} {c : Nat} {δ : List Sl} {O : Out → Prop} {te : TE} {ds : List (Str × Str)} {w : Fi} {first : Str} {hour : Int}
theorem ev_ix0 {d : D} {xs : List D} (h : Ev K C Ω c te δ (· = .lst (d :: xs))) : Ev K C Ω c (tOp (rIxL K) te (nr 0)) δ (· = d) :=
  (ev_op1 h ev_int (rv_ixl ((at_nat (by omega) (by simp)).trans rfl))).le (by omega)
theorem ev_sortD {i : Nat} {f : Fi} (h : δ[i]? = some (.val (dicD f))) (few : f.length < 64) : Ev K C Ω 0 (tSortD i) δ (· = .lst ((ssort (f.map (·.1))).map D.str)) :=
  ev_l (el_cb (ea1 (ev_var h) ea_nil) fun ds e => by
    subst e
    exact rl_sortD (ds := dicS f D.int) (xs := f.map (·.1)) (by unfold dicS; rw [List.map_map, List.map_map]; rfl) (by rw [List.length_map]; exact few))
theorem ev_dlen {f : Fi} (h : Ev K C Ω c te δ (· = dicD f)) : Ev K C Ω c (tCB dlen (tCons te tNil)) δ (· = .int f.length) :=
  ((ev_cb (ea1 h ea_nil) fun ds e => by
    subst e
    exact rc_len_d).imp fun d e => by rw [e]; unfold dicS; rw [List.length_map]).le (by omega)
theorem mem_fromsL {f : Fi} {r x : Str} : x ∈ fromsL ds f r ↔ Adj ds r x ∧ x ∈ f.map (·.1) := by
  unfold fromsL
  rw [List.mem_filter, besides_mem, look_mem]
  rfl
/-- a house by its woods alone -/
structure HAl where
  ds : List (Str × Str)
  w : Fi
  first : Str
  hour : Int
  nd : (w.map (·.1)).Nodup
  few : ds.length ≤ 30
  fewW : w.length ≤ 5
  hf : first ∈ w.map (·.1)
  inn : ∀ p ∈ ds, p.1 ∈ w.map (·.1) ∧ p.2 ∈ w.map (·.1)
  cn : ∀ S : Str → Prop, S first → (∀ x y, S x → Adj ds x y → S y) → ∀ x ∈ w.map (·.1), S x
  pos : ∀ r ∈ w.map (·.1), 1 ≤ valF w r ∧ valF w r ≤ 3
  okS : ∀ x ∈ w.map (·.1), PyData.strOk x = true
abbrev sA (i : HAl) (x4 x5 x6 x7 x8 x9 x10 x11 : Sl) : List Sl := [.val (prsD i.ds), .val (dicD i.w), .val (.str i.first), .val (.int i.hour), x4, x5, x6, x7, x8, x9, x10, x11]
/-- fires grown so far -/
structure Gw (i : HAl) (m : Ms) (Fs : List Fi) : Prop where
  p : Par i.ds i.first m
  g : Grown i.w i.first i.hour m Fs
  sub : ∀ x ∈ m.map (·.1), x ∈ i.w.map (·.1)
  ne : Fs ≠ []
  few : Fs.length ≤ 3 ^ m.length
theorem Gw.len {i : HAl} {m : Ms} {Fs : List Fi} (G : Gw i m Fs) : m.length ≤ i.w.length := by
  have := pigeon G.p.ndm G.sub
  rwa [List.length_map, List.length_map] at this
theorem Gw.keys {i : HAl} {m : Ms} {Fs : List Fi} (G : Gw i m Fs) {f : Fi} (hf : f ∈ Fs) : f.length = m.length := by
  have := congrArg List.length (G.g.keys f hf)
  rwa [List.length_map, List.length_map] at this
theorem pow3 {n : Nat} (h : n ≤ 5) : 3 ^ n ≤ 243 := Nat.pow_le_pow_right (by decide) h
theorem Gw.most {i : HAl} {m : Ms} {Fs : List Fi} (G : Gw i m Fs) : Fs.length ≤ 243 := Nat.le_trans G.few (pow3 (Nat.le_trans G.len i.fewW))
theorem Gw.add {i : HAl} {m : Ms} {Fs : List Fi} {x b : Str} (G : Gw i m Fs) (hx : x ∈ i.w.map (·.1)) (nx : x ∉ m.map (·.1)) (hb : b ∈ m.map (·.1)) (a : Adj i.ds x b) : Gw i (m ++ [(x, some b)]) (growL i.w x b Fs) := by
  have pb := i.pos b (G.sub b hb)
  refine ⟨G.p.snoc nx hb a.symm, G.g.add G.p nx hb pb.1, fun y hy => ?_, ?_, ?_⟩
  · rw [List.map_append, List.mem_append] at hy
    rcases hy with q | q
    · exact G.sub y q
    · rw [List.mem_singleton.mp q]
      exact hx
  · intro z
    have l := growL_len (w := i.w) (x := x) (b := b) (Fs := Fs)
    rw [z] at l
    have l0 : 0 < Fs.length := List.length_pos_iff.mpr G.ne
    have : 0 < Fs.length * (valF i.w b).toNat := Nat.mul_pos l0 (by omega)
    rw [List.length_nil] at l
    omega
  · rw [growL_len, List.length_append]
    show _ ≤ 3 ^ (m.length + 1)
    rw [Nat.pow_succ]
    exact Nat.mul_le_mul G.few (by omega)
/-! the next room -/
def nextP (i : HAl) (f : Fi) (r : Str) : Bool := !(f.lookup r).isSome && !decide (fromsL i.ds f r = [])
def tNextE (K : PySem.W.Frag) (C : Addr) (Ω : List (Addr × Str)) : TE := tOp (rIxL K) (tLc (iList K (tSortD 1)) (gName 7)
  (tAnd (tB (tDNotIn (tVar 7) (tVar 5))) (tTest (tOp (rNeD K) (tCall (spHFrom K C Ω) [] C8.E0 (tCons (tVar 0) (tCons (tVar 5) (tCons (tVar 7) tNil)))) (tLst tNil)))) (tVar 7) [7]) (nr 0)
theorem ev_hfrom {i : HAl} {f : Fi} {r : Str} {j : Nat} (h0 : δ[0]? = some (.val (prsD i.ds))) (h5 : δ[5]? = some (.val (dicD f))) (hj : δ[j]? = some (.val (.str r))) : Ev K C Ω 0 (tCall (spHFrom K C Ω) [] C8.E0 (tCons (tVar 0) (tCons (tVar 5) (tCons (tVar j) tNil)))) δ (· = strsD (fromsL i.ds f r)) :=
  (ev_callX (cc := fun _ => 0) (A := fun i : HFr => [prsD i.ds, .dic (dicS i.f D.int), .str i.r]) (Rx := fun i d => d = strsD (fromsL i.ds i.f i.r)) ⟨⟨i.ds, r, i.few⟩, f⟩ (ea1 (ev_var h0) (ea1 (ev_var h5) (ea1 (ev_var hj) ea_nil)))).le (by omega)
theorem next_ex {i : HAl} {m : Ms} {Fs : List Fi} {f : Fi} (G : Gw i m Fs) (hf : f ∈ Fs) (lt : m.length < i.w.length) : ∃ r ∈ i.w.map (·.1), nextP i f r = true := by
  apply Classical.byContradiction
  intro none
  have all : ∀ x ∈ i.w.map (·.1), x ∈ m.map (·.1) := i.cn (fun x => x ∈ m.map (·.1)) G.p.fst fun x y hx a => by
    apply Classical.byContradiction
    intro ny
    refine none ⟨y, ?_, ?_⟩
    · rcases a with a | a
      · exact (i.inn _ a).2
      · exact (i.inn _ a).1
    · have kf := G.g.keys f hf
      unfold nextP
      rw [Bool.and_eq_true]
      constructor
      · cases q : (f.lookup y).isSome with
        | false => rfl
        | true =>
          have := look_mem.mp q
          rw [kf] at this
          exact absurd this ny
      · have : x ∈ fromsL i.ds f y := mem_fromsL.mpr ⟨a.symm, by rw [kf]; exact hx⟩
        rw [decide_eq_false fun z => by rw [z] at this; exact absurd this (by simp)]
        rfl
  have := pigeon i.nd all
  rw [List.length_map, List.length_map] at this
  omega
theorem nextP_iff {i : HAl} {m : Ms} {Fs : List Fi} {f : Fi} {r : Str} (G : Gw i m Fs) (hf : f ∈ Fs) (h : nextP i f r = true) : r ∉ m.map (·.1) ∧ ∃ b t, fromsL i.ds f r = b :: t ∧ b ∈ m.map (·.1) ∧ Adj i.ds r b := by
  have kf := G.g.keys f hf
  unfold nextP at h
  rw [Bool.and_eq_true] at h
  refine ⟨fun q => ?_, ?_⟩
  · rw [look_mem.mpr (by rw [kf]; exact q)] at h
    exact absurd h.1 (by decide)
  · cases e : fromsL i.ds f r with
    | nil =>
      rw [decide_eq_true e] at h
      exact absurd h.2 (by decide)
    | cons b t =>
      have := mem_fromsL.mp (show b ∈ fromsL i.ds f r by rw [e]; exact List.mem_cons_self)
      rw [kf] at this
      exact ⟨b, t, rfl, this.2, this.1⟩
theorem ev_next {i : HAl} {m : Ms} {Fs : List Fi} {f : Fi} {x4 x6 x7 x8 x9 x10 x11 : Sl} (G : Gw i m Fs) (hf : f ∈ Fs) (lt : m.length < i.w.length) : Ev K C Ω 0 (tNextE K C Ω) (sA i x4 (.val (dicD f)) x6 x7 x8 x9 x10 x11) (fun d => ∃ r, d = .str r ∧ r ∈ i.w.map (·.1) ∧ nextP i f r = true) := by
  have fw := i.fewW
  have pm := ssort_perm (i.w.map (·.1))
  have el := el_filter (K := K) (C := C) (Ω := Ω) (δ := sA i x4 (.val (dicD f)) x6 x7 x8 x9 x10 x11) (n := 64) (vs := [7]) (g := gName 7) (te := tVar 7) (xs := (ssort (i.w.map (·.1))).map D.str)
    (tt := tAnd (tB (tDNotIn (tVar 7) (tVar 5))) (tTest (tOp (rNeD K) (tCall (spHFrom K C Ω) [] C8.E0 (tCons (tVar 0) (tCons (tVar 5) (tCons (tVar 7) tNil)))) (tLst tNil))))
    (p := fun d => match d with
      | .str r => nextP i f r
      | _ => false) (f := fun d => d) (it_list1 (ev_sortD (i := 1) (f := i.w) rfl (by omega))) (by rw [List.length_map, pm.length_eq, List.length_map]; omega) (by decide) fun d hd => by
      obtain ⟨r, hr, rfl⟩ := List.mem_map.mp hd
      refine ⟨_, tg_name (.inr (by simp)) (by simp), ?_, fun _ => ev_var (i := 7) rfl⟩
      have e1 := ev_dnot (K := K) (C := C) (Ω := Ω) (δ := (wipeS (sA i x4 (.val (dicD f)) x6 x7 x8 x9 x10 x11) [7]).set 7 (.val (.str r))) (k := Sum.inr r) (ev_var (i := 7) (d := .str r) rfl) (ev_var (i := 5) (d := dicD f) rfl) rfl
      rw [has_dicS] at e1
      have e2 : EvT K C Ω 0 (tTest (tOp (rNeD K) (tCall (spHFrom K C Ω) [] C8.E0 (tCons (tVar 0) (tCons (tVar 5) (tCons (tVar 7) tNil)))) (tLst tNil))) ((wipeS (sA i x4 (.val (dicD f)) x6 x7 x8 x9 x10 x11) [7]).set 7 (.val (.str r))) (· = !decide (fromsL i.ds f r = [])) := by
        have en : Ev K C Ω 0 (tLst tNil) ((wipeS (sA i x4 (.val (dicD f)) x6 x7 x8 x9 x10 x11) [7]).set 7 (.val (.str r))) (· = .lst (([] : List Str).map D.str)) := ev_l (el_lst ea_nil fun ds e => by rw [e]; exact Nat.zero_le _)
        exact (et1 (ev_op1 (ev_hfrom (i := i) (f := f) (r := r) (j := 7) rfl rfl rfl) en (rv_neStrs (fun x hx => i.okS x (by
          have a := (mem_fromsL.mp hx).1
          rcases a with a | a
          · exact (i.inn _ a).2
          · exact (i.inn _ a).1)) fun x hx => absurd hx (by simp)))).le (by omega)
      refine (et_and (RT := (· = !(f.lookup r).isSome)) (et1B (e1.le (c := 0) (by omega))) (fun z => e2.imp fun b e => ?_) fun z => ?_).le (by omega)
      · show b = nextP i f r
        unfold nextP
        rw [← z, e]
        rfl
      · show false = nextP i f r
        unfold nextP
        rw [← z]
        rfl
  have el2 : EvL K C Ω 0 (tLc (iList K (tSortD 1)) (gName 7) (tAnd (tB (tDNotIn (tVar 7) (tVar 5))) (tTest (tOp (rNeD K) (tCall (spHFrom K C Ω) [] C8.E0 (tCons (tVar 0) (tCons (tVar 5) (tCons (tVar 7) tNil)))) (tLst tNil)))) (tVar 7) [7]) (sA i x4 (.val (dicD f)) x6 x7 x8 x9 x10 x11) (· = ((ssort (i.w.map (·.1))).filter (nextP i f)).map D.str) := (el.imp fun xs e => by
    rw [e, List.filter_map, List.map_map]
    rfl).le (by omega)
  obtain ⟨r, hr, pr⟩ := next_ex G hf lt
  cases q : (ssort (i.w.map (·.1))).filter (nextP i f) with
  | nil =>
    have : r ∈ (ssort (i.w.map (·.1))).filter (nextP i f) := List.mem_filter.mpr ⟨pm.mem_iff.mpr hr, pr⟩
    rw [q] at this
    exact absurd this (by simp)
  | cons y t =>
    rw [q] at el2
    refine (ev_ix0 (ev_l el2)).imp fun d e => ⟨y, e, ?_⟩
    have : y ∈ (ssort (i.w.map (·.1))).filter (nextP i f) := by rw [q]; exact List.mem_cons_self
    have := List.mem_filter.mp this
    exact ⟨pm.mem_iff.mp this.1, this.2⟩
end
end Z
set_option maxRecDepth 100000
set_option maxHeartbeats 1000000
set_option linter.all false
namespace Z
open PySem PySem.Spec
open PyProof.Rows L2 LamX
/-! all fires from a room: the law's own walk -/
def tPairE : TE := tTup (tCons (tVar 6) (tCons (tOp plus (tOp plus (tDGet (tVar 10) (tVar 8)) (nr 1)) (tVar 11)) tNil))
def tGrow1 (K : PySem.W.Frag) : TE := tLc (iRng1 (tCons (tDGet (tVar 1) (tVar 8)) tNil)) (gName 11) tYes (tCB (rDictV K) (tCons (tOp rCat (tLiR (tVar 10)) (tLst (tCons tPairE tNil))) tNil)) [11]
def tGrowB (K : PySem.W.Frag) : TS := tDrop (tBM K "list" rExtend (tVar 9) (tCons (tGrow1 K) tNil))
def tSortE (K : PySem.W.Frag) : TE := tCB (rDictV K) (tCons (tLc (iList K (tSortD 10)) (gName 7) tYes (tTup (tCons (tVar 7) (tCons (tDGet (tVar 10) (tVar 7)) tNil))) [7]) tNil)
def tAllC (K : PySem.W.Frag) : TT := tTest (tOp ltI (tCB dlen (tCons (tOp (rIxL K) (tVar 4) (nr 0)) tNil)) (tCB dlen (tCons (tVar 1) tNil)))
def tAllB (K : PySem.W.Frag) (C : Addr) (Ω : List (Addr × Str)) : TS := tSeq (tAsg (tOp (rIxL K) (tVar 4) (nr 0)) (gName 5)) (tSeq (tAsg (tNextE K C Ω) (gName 6))
  (tSeq (tAsg (tTup (tCons (tOp (rIxL K) (tCall (spHFrom K C Ω) [] C8.E0 (tCons (tVar 0) (tCons (tVar 5) (tCons (tVar 6) tNil)))) (nr 0)) (tCons (tLst tNil) tNil))) (gTup K 2 (gCons (gName 8) (gCons (gName 9) gNil))))
    (tSeq (tFor (iList K (tVar 4)) (gName 10) (tGrowB K)) (tAsg (tVar 9) (gName 4)))))
def tAllFires (K : PySem.W.Frag) (C : Addr) (Ω : List (Addr × Str)) : TS := tSeq (tAsg (tLst (tCons (tCB (rDictV K) (tCons (tLst (tCons (tTup (tCons (tVar 2) (tCons (tVar 3) tNil))) tNil)) tNil)) tNil)) (gName 4))
  (tSeq (tWhile (tAllC K) (tAllB K C Ω)) (tRet (tLc (iList K (tVar 4)) (gName 10) tYes (tSortE K) [10])))
section
variable {K : PySem.W.Frag} {C : Addr} {Ω : List (Addr × Str)} {c : Nat} {δ : List Sl} {O : Out → Prop} {te : TE}
/-- a dict of pairs given -/
theorem ev_dictF {f : Fi} (nd : (f.map (·.1)).Nodup) (h : Ev K C Ω c te δ (· = .lst (f.map fun p => .tup [.str p.1, .int p.2]))) : Ev K C Ω c (tCB (rDictV K) (tCons te tNil)) δ (· = dicD f) := by
  refine (ev_d (ed_cb (Rs := (· = [.lst (itemsOf (dicS f D.int))])) (S := (· = dicS f D.int)) ((ea1 h ea_nil).imp fun ds e => by rw [e, items_dicS]) fun ds e => ?_)).le (by omega)
  subst e
  have r := rd_dict (K := K) (C := C) (Ω := Ω) (ds := dicS f D.int)
  rw [mergeD_nd nd] at r
  exact r
theorem el_grow1 {i : HAl} {f : Fi} {y b : Str} {x4 x5 x7 x9 x11 : Sl} (nd : (f.map (·.1)).Nodup) (ny : y ∉ f.map (·.1)) (hb : b ∈ f.map (·.1)) (bw : b ∈ i.w.map (·.1)) (few : f.length ≤ 5) :
    EvL K C Ω 0 (tGrow1 K) (sA i x4 x5 (.val (.str y)) x7 (.val (.str b)) x9 (.val (dicD f)) x11) (· = (grow1 i.w y b f).map dicD) := by
  have pb := i.pos b bw
  have big : (5 : Nat) + 1 ≤ sizeLine := by decide
  have it := it_rng1 (K := K) (C := C) (Ω := Ω) (c := 0) (δ := sA i x4 x5 (.val (.str y)) x7 (.val (.str b)) x9 (.val (dicD f)) x11) (tA := tCons (tDGet (tVar 1) (tVar 8)) tNil) (n := valF i.w b) (ea1 (ev_at (i := 1) (j := 8) rfl rfl bw) ea_nil) (by omega)
  have el := el_map (K := K) (C := C) (Ω := Ω) (δ := sA i x4 x5 (.val (.str y)) x7 (.val (.str b)) x9 (.val (dicD f)) x11) (n := 3) (vs := [11]) (g := gName 11) (te := tCB (rDictV K) (tCons (tOp rCat (tLiR (tVar 10)) (tLst (tCons tPairE tNil))) tNil)) (xs := intsD 0 (valF i.w b).toNat)
    (f := fun d => match d with
      | .int k => dicD (f ++ [(y, valF f b + 1 + k)])
      | _ => .non) it (by rw [intsD_len]; omega) (by decide) fun x hx => by
      unfold intsD at hx
      obtain ⟨k, hk, rfl⟩ := List.mem_map.mp hx
      refine ⟨_, tg_name (.inr (by simp)) (by simp), ?_⟩
      have g := ev_at (K := K) (C := C) (Ω := Ω) (δ := (wipeS (sA i x4 x5 (.val (.str y)) x7 (.val (.str b)) x9 (.val (dicD f)) x11) [11]).set 11 (.val (.int (0 + (k : Nat))))) (i := 10) (j := 8) (f := f) (x := b) rfl rfl hb
      have s1 := (ev_op1 (K := K) (C := C) (Ω := Ω) g (ev_int (x := 1)) (rv_int (g := fun i j => i + j))).le (c := 0) (by omega)
      have s2 := (ev_op1 (K := K) (C := C) (Ω := Ω) s1 (ev_var (i := 11) (d := .int (0 + (k : Nat))) rfl) (rv_int (g := fun i j => i + j))).le (c := 0) (by omega)
      have tp : Ev K C Ω 0 tPairE ((wipeS (sA i x4 x5 (.val (.str y)) x7 (.val (.str b)) x9 (.val (dicD f)) x11) [11]).set 11 (.val (.int (0 + (k : Nat))))) (· = .tup [.str y, .int (valF f b + 1 + (0 + (k : Nat)))]) :=
        (ev_tup1 (ea1 (ev_var (i := 6) (d := .str y) rfl) (ea1 s2 ea_nil)) (by show 2 ≤ sizeLine; decide)).le (by omega)
      have l1 := ev_liR (K := K) (C := C) (Ω := Ω) (δ := (wipeS (sA i x4 x5 (.val (.str y)) x7 (.val (.str b)) x9 (.val (dicD f)) x11) [11]).set 11 (.val (.int (0 + (k : Nat))))) (te := tVar 10) (ds := dicS f D.int) (ev_var (i := 10) rfl)
      rw [items_dicS] at l1
      have l2 : Ev K C Ω 0 (tLst (tCons tPairE tNil)) ((wipeS (sA i x4 x5 (.val (.str y)) x7 (.val (.str b)) x9 (.val (dicD f)) x11) [11]).set 11 (.val (.int (0 + (k : Nat))))) (· = .lst [.tup [.str y, .int (valF f b + 1 + (0 + (k : Nat)))]]) :=
        (ev_l (el_lst (ea1 tp ea_nil) fun ds e => by rw [e]; show 1 ≤ sizeLine; decide)).le (by omega)
      have cat := (ev_l (rl_cat l1 l2 (by rw [List.length_map]; simp; omega))).le (c := 0) (by omega)
      refine (ev_dictF (f := f ++ [(y, valF f b + 1 + (0 + (k : Nat)))]) ?_ (cat.imp fun d e => by rw [e, List.map_append]; rfl))
      rw [List.map_append, List.nodup_append]
      refine ⟨nd, by simp, fun u hu v hv e => ?_⟩
      have hv : v = y := by simpa using hv
      exact ny (by rw [← hv, ← e]; exact hu)
  refine (el.imp fun xs e => ?_).le (by omega)
  rw [e]
  unfold intsD grow1
  rw [List.map_map, List.map_map]
  apply List.map_congr_left
  intro k _
  show dicD (f ++ [(y, valF f b + 1 + (0 + (k : Int)))]) = dicD (f ++ [(y, valF f b + 1 + (k : Int))])
  rw [Int.zero_add]
theorem firesD_eq (Fs : List Fi) : firesD Fs = .lst (Fs.map dicD) := rfl
theorem growL_take {w : Fi} {y b : Str} {Fs : List Fi} {k : Nat} {f : Fi} (h : Fs[k]? = some f) : growL w y b (Fs.take (k + 1)) = growL w y b (Fs.take k) ++ grow1 w y b f := by
  unfold growL
  rw [List.take_add_one, h, List.flatMap_append]
  simp
theorem grow1_len (w : Fi) (y b : Str) (f : Fi) : (grow1 w y b f).length = (valF w b).toNat := by
  unfold grow1
  rw [List.length_map, List.length_range]
theorem run_allB {i : HAl} {m : Ms} {Fs : List Fi} {x5 x6 x7 x8 x9 x10 x11 : Sl} (G : Gw i m Fs) (lt : m.length < i.w.length)
    (hO : ∀ m' Fs' x5 x6 x7 x8 x9 x10 x11, Gw i m' Fs' → m'.length = m.length + 1 → O (.nx (sA i (.val (firesD Fs')) x5 x6 x7 x8 x9 x10 x11))) : Run K C Ω 0 (tAllB K C Ω) (sA i (.val (firesD Fs)) x5 x6 x7 x8 x9 x10 x11) O := by
  obtain ⟨f0, Ft, eF⟩ : ∃ f0 Ft, Fs = f0 :: Ft := by
    cases Fs with
    | nil => exact absurd rfl G.ne
    | cons a b => exact ⟨a, b, rfl⟩
  have hf0 : f0 ∈ Fs := by rw [eF]; exact List.mem_cons_self
  have most := G.most
  have big : (3 * 243 : Nat) ≤ sizeLine := by decide
  have fw := i.fewW
  refine (row_asg1 (c1 := 0) (c2 := 0) (d := dicD f0) (ev_ix0 (xs := Ft.map dicD) (ev_var (i := 4) (by rw [eF]; rfl))) ?_).le (by omega)
  show Run K C Ω 0 _ (sA i (.val (firesD Fs)) (.val (dicD f0)) x6 x7 x8 x9 x10 x11) O
  refine (row_asg (c1 := 0) (c2 := 0) (ev_next G hf0 lt) fun d hd => ?_).le (by omega)
  obtain ⟨y, rfl, yw, np⟩ := hd
  obtain ⟨ny, b, t, ef, hb, a⟩ := nextP_iff G hf0 np
  show Run K C Ω 0 _ (sA i (.val (firesD Fs)) (.val (dicD f0)) (.val (.str y)) x7 x8 x9 x10 x11) O
  have ev8 : Ev K C Ω 0 (tOp (rIxL K) (tCall (spHFrom K C Ω) [] C8.E0 (tCons (tVar 0) (tCons (tVar 5) (tCons (tVar 6) tNil)))) (nr 0)) (sA i (.val (firesD Fs)) (.val (dicD f0)) (.val (.str y)) x7 x8 x9 x10 x11) (· = .str b) :=
    ev_ix0 (xs := t.map D.str) ((ev_hfrom (i := i) (f := f0) (r := y) (j := 6) rfl rfl rfl).imp fun d e => by rw [e, ef]; rfl)
  refine (run_seq (c1 := 0) (c2 := 0) (N := fun δ' => δ' = sA i (.val (firesD Fs)) (.val (dicD f0)) (.val (.str y)) x7 (.val (.str b)) (.oL []) x10 x11) (run_tupL ev8 fun d e => by rw [e]; rfl) fun δ' e => ?_).le (by omega)
  subst e
  have bw := G.sub b hb
  have pb := i.pos b bw
  refine (run_seq (c1 := 0) (c2 := 0) (N := fun δ' => ∃ x10 x11, δ' = sA i (.val (firesD Fs)) (.val (dicD f0)) (.val (.str y)) x7 (.val (.str b)) (.oL ((growL i.w y b Fs).map dicD)) x10 x11)
    ((run_for (n := 243) (c2 := 0) (RL := (· = Fs.map dicD)) (Pv := fun _ k δ' => ∃ x10 x11, δ' = sA i (.val (firesD Fs)) (.val (dicD f0)) (.val (.str y)) x7 (.val (.str b)) (.oL ((growL i.w y b (Fs.take k)).map dicD)) x10 x11)
      (it_list1 (ev_var (i := 4) rfl)) (fun xs e => by rw [e, List.length_map]; exact most) (fun xs e => ⟨x10, x11, rfl⟩) (fun xs k x δ2 e hx hp => ?_) fun xs δ2 e hp => ?_).le (by omega)) fun δ' ⟨y10, y11, e⟩ => ?_).le (by omega)
  · subst e
    obtain ⟨y10, y11, rfl⟩ := hp
    rw [List.getElem?_map] at hx
    obtain ⟨f, hf, rfl⟩ := Option.map_eq_some_iff.mp hx
    have fm := List.mem_of_getElem? hf
    have kf := G.g.keys f fm
    refine ⟨_, tf_name, run_ext (i := 9) rfl (el_grow1 (i := i) (f := f) (y := y) (b := b) (by rw [kf]; exact G.p.ndm) (by rw [kf]; exact ny) (by rw [kf]; exact hb) bw (by rw [G.keys fm]; exact Nat.le_trans G.len fw)) (fun ys e => ?_) fun ys e => ?_⟩
    · rw [e, List.length_map, List.length_map, grow1_len, growL_len, List.length_take]
      have : min k Fs.length ≤ 243 := by omega
      have h3 : (valF i.w b).toNat ≤ 3 := by omega
      have := Nat.mul_le_mul this h3
      have kl := (List.getElem?_eq_some_iff.mp hf).1
      have s : min k Fs.length = k := by omega
      rw [s] at this ⊢
      have : k * (valF i.w b).toNat + (valF i.w b).toNat ≤ 243 * 3 := by
        have := Nat.mul_le_mul (show k + 1 ≤ 243 by omega) h3
        rw [Nat.succ_mul] at this
        exact this
      omega
    · refine ⟨.val (dicD f), y11, ?_⟩
      rw [e, growL_take hf, List.map_append]
      rfl
  · subst e
    obtain ⟨y10, y11, rfl⟩ := hp
    rw [List.length_map, List.take_length]
    exact ⟨y10, y11, rfl⟩
  · subst e
    refine run_keep (i := 9) (s := .oL ((growL i.w y b Fs).map dicD)) rfl rfl (run_asg (ev_var (i := 9) (d := firesD (growL i.w y b Fs)) rfl) fun d e => ?_)
    rw [e]
    exact hO (m ++ [(y, some b)]) (growL i.w y b Fs) _ _ _ _ _ _ _ (G.add yw ny hb a) (by rw [List.length_append]; rfl)
theorem ev_sortE {i : HAl} {f : Fi} {x4 x5 x6 x7 x8 x9 x11 : Sl} (nd : (f.map (·.1)).Nodup) (few : f.length ≤ 5) : Ev K C Ω 0 (tSortE K) (sA i x4 x5 x6 x7 x8 x9 (.val (dicD f)) x11) (· = dicD (sortF f)) := by
  have pm := ssort_perm (f.map (·.1))
  have el := el_map (K := K) (C := C) (Ω := Ω) (δ := sA i x4 x5 x6 x7 x8 x9 (.val (dicD f)) x11) (n := 64) (vs := [7]) (g := gName 7) (te := tTup (tCons (tVar 7) (tCons (tDGet (tVar 10) (tVar 7)) tNil))) (xs := (ssort (f.map (·.1))).map D.str)
    (f := fun d => match d with
      | .str r => .tup [.str r, .int (valF f r)]
      | _ => .non) (it_list1 (ev_sortD (i := 10) (f := f) rfl (by omega))) (by rw [List.length_map, pm.length_eq, List.length_map]; omega) (by decide) fun x hx => by
      obtain ⟨r, hr, rfl⟩ := List.mem_map.mp hx
      refine ⟨_, tg_name (.inr (by simp)) (by simp), ?_⟩
      have g := ev_at (K := K) (C := C) (Ω := Ω) (δ := (wipeS (sA i x4 x5 x6 x7 x8 x9 (.val (dicD f)) x11) [7]).set 7 (.val (.str r))) (i := 10) (j := 7) (f := f) (x := r) rfl rfl (pm.mem_iff.mp hr)
      exact (ev_tup1 (ea1 (ev_var (i := 7) (d := .str r) rfl) (ea1 g ea_nil)) (by show 2 ≤ sizeLine; decide)).le (by omega)
  refine ev_dictF (by rw [sortF_keys]; exact pm.nodup_iff.mpr nd) (((ev_l el).imp fun d e => ?_).le (by omega))
  rw [e]
  unfold sortF
  rw [List.map_map, List.map_map]
  rfl
abbrev spAllFires (K : PySem.W.Frag) (C : Addr) (Ω : List (Addr × Str)) : Sp := SpX K C Ω (fun _ => 0) (fun i : HAl => [prsD i.ds, dicD i.w, .str i.first, .int i.hour]) fun i d => ∃ m Fs, Gw i m Fs ∧ m.length = i.w.length ∧ d = firesD (Fs.map sortF)
theorem run_all_fires (i : HAl) : Run K C Ω 0 (tAllFires K C Ω) (startS 12 [prsD i.ds, dicD i.w, .str i.first, .int i.hour]) (retO fun d => ∃ m Fs, Gw i m Fs ∧ m.length = i.w.length ∧ d = firesD (Fs.map sortF)) := by
  have fw := i.fewW
  show Run K C Ω 0 (tAllFires K C Ω) (sA i .un .un .un .un .un .un .un .un) _
  have e1 : Ev K C Ω 0 (tLst (tCons (tCB (rDictV K) (tCons (tLst (tCons (tTup (tCons (tVar 2) (tCons (tVar 3) tNil))) tNil)) tNil)) tNil)) (sA i .un .un .un .un .un .un .un .un) (· = firesD [[(i.first, i.hour)]]) := by
    have tp : Ev K C Ω 0 (tTup (tCons (tVar 2) (tCons (tVar 3) tNil))) (sA i .un .un .un .un .un .un .un .un) (· = .tup [.str i.first, .int i.hour]) := (ev_tup1 (ea1 (ev_var (i := 2) rfl) (ea1 (ev_var (i := 3) rfl) ea_nil)) (by show 2 ≤ sizeLine; decide)).le (by omega)
    have l1 := (ev_l (el_lst (ea1 tp ea_nil) fun ds e => by rw [e]; show 1 ≤ sizeLine; decide)).le (c := 0) (by omega)
    have d1 := ev_dictF (f := [(i.first, i.hour)]) (by simp) l1
    exact (ev_l (el_lst (ea1 d1 ea_nil) fun ds e => by rw [e]; show 1 ≤ sizeLine; decide)).le (by omega)
  refine (row_asg1 (c1 := 0) (c2 := 0) e1 ?_).le (by omega)
  show Run K C Ω 0 _ (sA i (.val (firesD [[(i.first, i.hour)]])) .un .un .un .un .un .un .un) _
  refine (run_seq (c1 := 0) (c2 := 0) (N := fun δ' => ∃ m Fs x5 x6 x7 x8 x9 x10 x11, Gw i m Fs ∧ m.length = i.w.length ∧ δ' = sA i (.val (firesD Fs)) x5 x6 x7 x8 x9 x10 x11)
    (run_while (n0 := i.w.length - 1) (Pv := fun n δ' => ∃ m Fs x5 x6 x7 x8 x9 x10 x11, Gw i m Fs ∧ n = i.w.length - m.length ∧ δ' = sA i (.val (firesD Fs)) x5 x6 x7 x8 x9 x10 x11)
      ⟨[(i.first, none)], _, _, _, _, _, _, _, _, ⟨⟨rfl, fun hi hj => ?_, fun {k x o} hi h0 => ?_⟩, .start, fun x hx => ?_, by simp, by simp⟩, rfl, rfl⟩ ?_) fun δ' hN => ?_).le (by omega)
  · rename_i a b _ _ _
    have ha := (List.getElem?_eq_some_iff.mp hi).1
    have hb := (List.getElem?_eq_some_iff.mp hj).1
    simp at ha hb
    omega
  · have := (List.getElem?_eq_some_iff.mp hi).1
    simp at this
    omega
  · have : x = i.first := by simpa using hx
    rw [this]
    exact i.hf
  · rintro n δ1 ⟨m, Fs, x5, x6, x7, x8, x9, x10, x11, G, rfl, rfl⟩
    obtain ⟨f0, Ft, eF⟩ : ∃ f0 Ft, Fs = f0 :: Ft := by
      cases Fs with
      | nil => exact absurd rfl G.ne
      | cons a b => exact ⟨a, b, rfl⟩
    have hf0 : f0 ∈ Fs := by rw [eF]; exact List.mem_cons_self
    have l0 := ev_dlen (K := K) (C := C) (Ω := Ω) (f := f0) (ev_ix0 (xs := Ft.map dicD) (ev_var (δ := sA i (.val (firesD Fs)) x5 x6 x7 x8 x9 x10 x11) (i := 4) (by rw [eF]; rfl)))
    have l1 := ev_dlen (K := K) (C := C) (Ω := Ω) (f := i.w) (ev_var (δ := sA i (.val (firesD Fs)) x5 x6 x7 x8 x9 x10 x11) (i := 1) rfl)
    refine ⟨_, (et1 (ev_op1 l0 l1 (rv_bl (g := fun i j => decide (i < j))))).le (by omega), fun z => ?_, fun z => ?_⟩
    · have lt := of_decide_eq_true z.symm
      rw [G.keys hf0] at lt
      exact run_allB G (by omega) fun m' Fs' y5 y6 y7 y8 y9 y10 y11 G' e => ⟨_, by omega, m', Fs', y5, y6, y7, y8, y9, y10, y11, G', rfl, rfl⟩
    · have ge := of_decide_eq_false z.symm
      rw [G.keys hf0] at ge
      have := G.len
      exact ⟨m, Fs, x5, x6, x7, x8, x9, x10, x11, G, by omega, rfl⟩
  · obtain ⟨m, Fs, x5, x6, x7, x8, x9, x10, x11, G, em, rfl⟩ := hN
    have most := G.most
    have el := el_map (K := K) (C := C) (Ω := Ω) (δ := sA i (.val (firesD Fs)) x5 x6 x7 x8 x9 x10 x11) (n := 243) (vs := [10]) (g := gName 10) (te := tSortE K) (xs := Fs.map dicD) (f := fun d => dicD (sortF (unF d))) (it_list1 (ev_var (i := 4) rfl)) (by rw [List.length_map]; exact most) (by decide) fun x hx => by
      obtain ⟨f, hf, rfl⟩ := List.mem_map.mp hx
      have kf := G.g.keys f hf
      refine ⟨_, tg_name (.inr (by simp)) (by simp), ?_⟩
      rw [unF_dicD]
      exact ev_sortE (by rw [kf]; exact G.p.ndm) (by rw [G.keys hf]; exact Nat.le_trans G.len fw)
    refine (run_ret (ev_l el) fun d e => ⟨m, Fs, G, em, ?_⟩).le (by omega)
    rw [e, List.map_map, firesD_eq, List.map_map]
    congr 1
    apply List.map_congr_left
    intro f _
    show dicD (sortF (unF (dicD f))) = dicD (sortF f)
    rw [unF_dicD]
end
end Z
set_option maxRecDepth 100000
set_option maxHeartbeats 1000000
set_option linter.all false
namespace Z
open PySem PySem.Spec
open PyProof.Rows L2 LamX
/-! drawn doors: each parts the house, all together join it -/
structure Tree (rooms : List Str) (es : List (Str × Str)) : Prop where
  inn : ∀ p ∈ es, p.1 ∈ rooms ∧ p.2 ∈ rooms ∧ p.1 ≠ p.2
  cnt : es.length + 1 = rooms.length
  sep : ∀ (k : Nat) (p : Str × Str), es[k]? = some p → ∃ s : Str → Bool, s p.1 ≠ s p.2 ∧ ∀ (j : Nat) (q : Str × Str), j ≠ k → es[j]? = some q → s q.1 = s q.2
  conn : ∀ L : Str → Str, (∀ p ∈ es, L p.1 = L p.2) → ∀ x ∈ rooms, ∀ y ∈ rooms, L x = L y
theorem nd_idx {l : List Str} (h : l.Nodup) {i j : Nat} {x : Str} (hi : l[i]? = some x) (hj : l[j]? = some x) : i = j :=
  (List.getElem?_inj (List.getElem?_eq_some_iff.mp hi).1 h).mp (hi.trans hj.symm)
theorem doors_sep {rooms : List Str} {ds : List (Str × Str)} {N : Nat} (h : DoorsFor rooms ds N) (nd : rooms.Nodup) (j0 : Nat) : ∀ n, n ≤ ds.length → ∃ s : Str → Bool, ∀ j q, j < n → ds[j]? = some q → (s q.1 = s q.2 ↔ j ≠ j0)
  | 0, _ => ⟨fun _ => true, fun j q lt => absurd lt (Nat.not_lt_zero j)⟩
  | n + 1, hn => by
    obtain ⟨s, hs⟩ := doors_sep h nd j0 n (by omega)
    have hp : ds[n]? = some ds[n] := List.getElem?_eq_getElem hn
    obtain ⟨a, x, y, an, hx, hy, e⟩ := h.2 n _ hp
    have nxy : x ≠ y := fun z => by
      have := nd_idx nd hx (z ▸ hy)
      omega
    refine ⟨fun z => if z = y then (if n = j0 then !s x else s x) else s z, fun j q lt hq => ?_⟩
    by_cases ej : j = n
    · subst ej
      rw [hp] at hq
      cases hq
      have key : ((fun z => if z = y then (if j = j0 then !s x else s x) else s z) x = (fun z => if z = y then (if j = j0 then !s x else s x) else s z) y) ↔ j ≠ j0 := by
        simp only [if_neg nxy, if_true]
        by_cases q : j = j0
        · simp [q]
        · simp [q]
      rcases e with e | e
      · rw [e]
        exact key
      · rw [e]
        exact ⟨fun z => key.mp z.symm, fun z => (key.mpr z).symm⟩
    · obtain ⟨a', x', y', an', hx', hy', e'⟩ := h.2 j q hq
      have n1 : x' ≠ y := fun z => by
        have := nd_idx nd (z ▸ hx') hy
        omega
      have n2 : y' ≠ y := fun z => by
        have := nd_idx nd (z ▸ hy') hy
        omega
      have old := hs j q (by omega) hq
      rcases e' with e' | e'
      · rw [e'] at old ⊢
        simp only [if_neg n1, if_neg n2]
        exact old
      · rw [e'] at old ⊢
        simp only [if_neg n1, if_neg n2]
        exact old
theorem doors_conn {rooms : List Str} {ds : List (Str × Str)} {N : Nat} (h : DoorsFor rooms ds N) (hN : rooms.length ≤ N + 1) {x0 : Str} (h0 : rooms[0]? = some x0) {L : Str → Str} (hl : ∀ p ∈ ds, L p.1 = L p.2) : ∀ (i : Nat) (x : Str), rooms[i]? = some x → L x = L x0 := by
  intro i
  induction i using Nat.strongRecOn with
  | ind i ih =>
    intro x hx
    cases i with
    | zero =>
      rw [h0] at hx
      cases hx
      rfl
    | succ i =>
      have li := (List.getElem?_eq_some_iff.mp hx).1
      have lt : i < ds.length := by rw [h.1]; omega
      have hp : ds[i]? = some ds[i] := List.getElem?_eq_getElem lt
      obtain ⟨a, u, v, an, hu, hv, e⟩ := h.2 i _ hp
      rw [hx] at hv
      cases hv
      have := hl _ (List.mem_of_getElem? hp)
      have up := ih a (by omega) u hu
      rcases e with e | e
      · rw [e] at this
        exact this.symm.trans up
      · rw [e] at this
        exact this.trans up
theorem DoorsFor.nodup {rooms : List Str} {ds : List (Str × Str)} {N : Nat} (h : DoorsFor rooms ds N) (nd : rooms.Nodup) : ds.Nodup := by
  rw [List.Nodup, List.pairwise_iff_getElem]
  intro i j hi hj lt e
  obtain ⟨a, x, y, an, hx, hy, e1⟩ := h.2 i _ (List.getElem?_eq_getElem hi)
  obtain ⟨a', x', y', an', hx', hy', e2⟩ := h.2 j _ (List.getElem?_eq_getElem hj)
  rw [← e] at e2
  have n1 : y' ≠ x := fun z => by
    have := nd_idx nd (z ▸ hy') hx
    omega
  have n2 : y' ≠ y := fun z => by
    have := nd_idx nd (z ▸ hy') hy
    omega
  rcases e1 with e1 | e1 <;> rcases e2 with e2 | e2 <;> rw [e1] at e2 <;> obtain ⟨q1, q2⟩ := Prod.mk.inj e2
  · exact n2 q2.symm
  · exact n1 q1.symm
  · exact n1 q2.symm
  · exact n2 q1.symm
theorem DoorsFor.tree {rooms : List Str} {ds es : List (Str × Str)} (h : DoorsFor rooms ds (rooms.length - 1)) (nd : rooms.Nodup) (l1 : 1 ≤ rooms.length) (pe : es.Perm ds) : Tree rooms es where
  inn := fun p hp => by
    obtain ⟨j, hj⟩ := List.getElem?_of_mem (pe.mem_iff.mp hp)
    obtain ⟨a, x, y, an, hx, hy, e⟩ := h.2 j p hj
    have nxy : x ≠ y := fun z => by
      have := nd_idx nd hx (z ▸ hy)
      omega
    rcases e with e | e
    · rw [e]
      exact ⟨List.mem_of_getElem? hx, List.mem_of_getElem? hy, nxy⟩
    · rw [e]
      exact ⟨List.mem_of_getElem? hy, List.mem_of_getElem? hx, Ne.symm nxy⟩
  cnt := by
    rw [pe.length_eq, h.1]
    omega
  sep := fun k p hk => by
    obtain ⟨j0, hj0⟩ := List.getElem?_of_mem (pe.mem_iff.mp (List.mem_of_getElem? hk))
    obtain ⟨s, hs⟩ := doors_sep h nd j0 ds.length (Nat.le_refl _)
    have lj := (List.getElem?_eq_some_iff.mp hj0).1
    refine ⟨s, fun z => (hs j0 p lj hj0).mp z rfl, fun j q ne hq => ?_⟩
    have nde : es.Nodup := pe.nodup_iff.mpr (h.nodup nd)
    have npq : q ≠ p := fun z => by
      subst z
      exact ne ((List.getElem?_inj (List.getElem?_eq_some_iff.mp hq).1 nde).mp (hq.trans hk.symm))
    obtain ⟨j1, hj1⟩ := List.getElem?_of_mem (pe.mem_iff.mp (List.mem_of_getElem? hq))
    refine (hs j1 q (List.getElem?_eq_some_iff.mp hj1).1 hj1).mpr fun z => ?_
    subst z
    rw [hj0] at hj1
    cases hj1
    exact npq rfl
  conn := fun L hl x hx y hy => by
    have e0 : rooms[0]? = some rooms[0] := List.getElem?_eq_getElem (by omega)
    have hl' : ∀ p ∈ ds, L p.1 = L p.2 := fun p hp => hl p (pe.mem_iff.mpr hp)
    obtain ⟨i, hi⟩ := List.getElem?_of_mem hx
    obtain ⟨j, hj⟩ := List.getElem?_of_mem hy
    rw [doors_conn h (by omega) e0 hl' i x hi, doors_conn h (by omega) e0 hl' j y hj]
theorem Tree.perm {rooms rooms' : List Str} {es : List (Str × Str)} (T : Tree rooms es) (p : rooms'.Perm rooms) : Tree rooms' es where
  inn := fun q hq => ⟨p.mem_iff.mpr (T.inn q hq).1, p.mem_iff.mpr (T.inn q hq).2.1, (T.inn q hq).2.2⟩
  cnt := by rw [p.length_eq]; exact T.cnt
  sep := T.sep
  conn := fun L hl x hx y hy => T.conn L hl x (p.mem_iff.mp hx) y (p.mem_iff.mp hy)
/-- what is closed under doors is all -/
theorem Tree.closed {rooms : List Str} {es : List (Str × Str)} (T : Tree rooms es) {S : Str → Prop} {z : Str} (hz : z ∈ rooms) (sz : S z) (cl : ∀ x y, S x → Adj es x y → S y) : ∀ x ∈ rooms, S x := fun x hx => by
  classical
  have := T.conn (fun u => if S u then "a" else "b") (fun p hp => by
    by_cases h : S p.1
    · rw [if_pos h, if_pos (cl _ _ h (.inl hp))]
    · rw [if_neg h, if_neg fun q => h (cl _ _ q (.inr hp))]) x hx z hz
  rw [if_pos sz] at this
  by_cases h : S x
  · exact h
  · rw [if_neg h] at this
    exact absurd this (by decide)
end Z
set_option maxRecDepth 100000
set_option maxHeartbeats 1000000
set_option linter.all false
namespace Z
open PySem PySem.Spec
open PyProof.Rows L2 LamX
/-! runs beside which own lists stand, each at its address -/
abbrev Ls := List (Addr × List D)
def FL (F : Addr → Prop) (L : Ls) : Addr → Prop := fun a => F a ∨ a ∈ L.map (·.1)
section
variable {K : PySem.W.Frag} {C : Addr} {Ω : List (Addr × Str)}
structure LsOk (W : Wd K C Ω) (F : Addr → Prop) (G H : Hp) (L : Ls) : Prop where
  nd : (L.map (·.1)).Nodup
  ok : ∀ p ∈ L, ∃ vs, H p.1 = some (.lst vs) ∧ Dens W G p.2 vs ∧ G p.1 = none ∧ ¬ F p.1
theorem LsOk.at {W : Wd K C Ω} {F : Addr → Prop} {G H : Hp} {L : Ls} (l : LsOk W F G H L) {a : Addr} (h : a ∈ L.map (·.1)) : ∃ vs, H a = some (.lst vs) ∧ G a = none ∧ ¬ F a := by
  obtain ⟨p, hp, e⟩ := List.mem_map.mp h
  obtain ⟨vs, h1, _, h3, h4⟩ := l.ok p hp
  rw [← e]
  exact ⟨vs, h1, h3, h4⟩
theorem Ok.fl {W : Wd K C Ω} {F : Addr → Prop} {G H : Hp} {L : Ls} (o : Ok W F G H) (l : LsOk W F G H L) : Ok W (FL F L) G H where
  gh := o.gh
  iv := o.iv
  gs := o.gs
  fd := fun a h => by
    rcases h with h | h
    · exact o.fd a h
    · obtain ⟨vs, e, _⟩ := l.at h
      rw [e]
      exact fun z => nomatch z
  sf := fun a h => .inl (o.sf a h)
theorem StF.fl {W : Wd K C Ω} {F : Addr → Prop} {G H G' H' : Hp} {L : Ls} {c : Nat} (st : StF W (FL F L) c G H G' H') : StF W F c G H G' H' where
  gg := st.gg
  gh := st.gh
  hh := fun a o h => st.hh a o (.inl h)
  fr := fun a h => (st.fr a h).imp id fun q z => q (.inl z)
  iv := st.iv
  ct := st.ct
theorem LsOk.step {W : Wd K C Ω} {F : Addr → Prop} {G H G' H' : Hp} {L : Ls} {c : Nat} (l : LsOk W F G H L) (o : Ok W F G H) (st : StF W (FL F L) c G H G' H') : LsOk W F G' H' L := ⟨l.nd, fun p hp => by
  obtain ⟨vs, h1, h2, h3, h4⟩ := l.ok p hp
  have fp : FL F L p.1 := .inr (List.mem_map.mpr ⟨p, hp, rfl⟩)
  refine ⟨vs, st.hh _ _ fp h1 fun z => h4 (o.sf _ z), h2.mono st.gg, none_of_ne fun q => ?_, h4⟩
  rcases st.fr _ q with z | z
  · exact z h3
  · exact z fp⟩
def RunL (ts : TS) (δ : List Sl) (L : Ls) (O : Out → Ls → Prop) : Prop :=
  ∀ (W : Wd K C Ω) (F : Addr → Prop) (G H : Hp) (σ : L2.St), Ok W F G H → LsOk W F G H L → Slots W (FL F L) G H σ δ → W.cnt H ≤ most → ∀ Z : Ends,
    (∀ δ' L' σ' G' H', O (.nx δ') L' → L'.map (·.1) = L.map (·.1) → StF W F 0 G H G' H' → LsOk W F G' H' L' → Slots W (FL F L') G' H' σ' δ' → Z.nx σ' H') →
    (∀ d L' v G' H', O (.rt d) L' → StF W F 0 G H G' H' → Den W G' d v → Z.rt v H') → ts Z σ H
variable {δ : List Sl} {L : Ls} {O O' : Out → Ls → Prop} {ts tu : TS}
theorem fl_congr {F : Addr → Prop} {L L' : Ls} (e : L'.map (·.1) = L.map (·.1)) : FL F L' = FL F L := by
  funext a
  unfold FL
  rw [e]
theorem rn_run {P : Out → Prop} (h : Run K C Ω 0 ts δ P) (k : ∀ o, P o → match o with
    | .nx _ => O o L
    | .rt _ => O o L
    | _ => False) : RunL (K := K) (C := C) (Ω := Ω) ts δ L O := fun W F G H σ o l s m Z n r => by
  refine h W (FL F L) G H σ (o.fl l) s (by omega) Z (fun δ' σ' G' H' q st s' => n δ' L σ' G' H' (k _ q) rfl st.fl (l.step o st) s') (fun d v G' H' q st dd => r d L v G' H' (k _ q) st.fl dd) (fun δ' σ' G' H' q _ _ => (k _ q).elim) (fun δ' σ' G' H' q _ _ => (k _ q).elim)
def thenL (N : List Sl → Ls → Prop) (O : Out → Ls → Prop) : Out → Ls → Prop
  | .nx δ, L => N δ L
  | .rt d, L => O (.rt d) L
  | _, _ => False
theorem rn_seq {N : List Sl → Ls → Prop} (h1 : RunL (K := K) (C := C) (Ω := Ω) ts δ L (thenL N O)) (h2 : ∀ δ' L', N δ' L' → RunL (K := K) (C := C) (Ω := Ω) tu δ' L' O) : RunL (K := K) (C := C) (Ω := Ω) (tSeq ts tu) δ L O := fun W F G H σ o l s m Z n r =>
  h1 W F G H σ o l s m { Z with nx := tu Z }
    (fun δ' L' σ' G' H' q e st l' s' => h2 δ' L' q W F G' H' σ' (st.ok o) l' s' (by have := st.ct; omega) Z (fun δ2 L2 σ2 G2 H2 q2 e2 st2 => n δ2 L2 σ2 G2 H2 q2 (e2.trans e) ((st.trans st2).le (by omega)))
      (fun d L2 v G2 H2 q2 st2 => r d L2 v G2 H2 q2 ((st.trans st2).le (by omega))))
    (fun d L' v G' H' q st => r d L' v G' H' q st)
/-- an own slot stands apart from what is written -/
theorem Slots.out {W : Wd K C Ω} {F : Addr → Prop} {G H : Hp} {σ : L2.St} {a : Addr} {u : HO} (s : Slots W F G H σ δ) (fa : F a) : Slots W F G (upd H a u) σ δ where
  len := s.len
  ne := s.ne
  ok := fun i t e => by
    have q := s.ok i t e
    cases t with
    | un => trivial
    | val d => exact q
    | oL xs =>
      obtain ⟨m, vs, e1, hm, gm, fm, h⟩ := q
      exact ⟨m, vs, e1, by rw [upd_ne (fun (z : m = a) => fm (z ▸ fa))]; exact hm, gm, fm, h⟩
    | oD xs =>
      obtain ⟨m, vs, e1, hm, gm, fm, h⟩ := q
      exact ⟨m, vs, e1, by rw [upd_ne (fun (z : m = a) => fm (z ▸ fa))]; exact hm, gm, fm, h⟩
    | oI p xs =>
      obtain ⟨m, dx, vs, e1, ep, hm, gm, fm, h⟩ := q
      exact ⟨m, dx, vs, e1, ep, by rw [upd_ne (fun (z : m = a) => fm (z ▸ fa))]; exact hm, gm, fm, h⟩
def putL (L : Ls) (a : Addr) (d : D) : Ls := L.map fun p => if p.1 = a then (p.1, p.2 ++ [d]) else p
theorem putL_keys (L : Ls) (a : Addr) (d : D) : (putL L a d).map (·.1) = L.map (·.1) := by
  unfold putL
  rw [List.map_map]
  apply List.map_congr_left
  intro p _
  show (if p.1 = a then (p.1, p.2 ++ [d]) else p).1 = p.1
  split <;> rfl
/-- td.append(te): td tells one of the lists -/
theorem rn_app {td te : TE} {a : Addr} {d : D} (ha : a ∈ L.map (·.1)) (few : ∀ p ∈ L, p.2.length < sizeLine) (h1 : Ev K C Ω 0 td δ (· = .adr a)) (h2 : Ev K C Ω 0 te δ (· = d)) (k : O (.nx δ) (putL L a d)) : RunL (K := K) (C := C) (Ω := Ω) (tDrop (tBM K "list" rAppend td (tCons te tNil))) δ L O := fun W F G H σ o l s m Z n r => by
  have o0 := o.fl l
  refine h1 W (FL F L) G H σ o0 s (by omega) _ fun v G1 H1 d1 st1 dd1 e1 => ?_
  subst e1
  cases dd1
  have o1 := st1.ok o0
  have l1 := l.step o (st1.f o0)
  have s1 := s.step o0 st1
  obtain ⟨vs, hv, gv, fv⟩ := l1.at ha
  refine ⟨Or.inl ⟨rfl, vs, Or.inl (Or.inl hv)⟩, h2 W (FL F L) G1 H1 σ o1 s1 (by have := st1.ct; omega) _ fun v2 G2 H2 d2 st2 dd2 e2 => ?_⟩
  subst e2
  have o2 := st2.ok o1
  have st12 := (st1.trans st2).le (c1 := 0) (by omega)
  have stF := (st12.f o0).fl
  have l2 := l.step o (st12.f o0)
  have s2 := s1.step o1 st2
  have oF := stF.ok o
  obtain ⟨p, hp, ep⟩ := List.mem_map.mp ha
  obtain ⟨ws, hw, dw, gw, fw⟩ := l2.ok p hp
  rw [ep] at hw gw fw
  have st3 := oF.put (o := .lst (ws ++ [v2])) gw fw (by rw [hw]; intro φ z; cases z)
  refine ⟨a, ws, v2, rfl, rfl, hw, by rw [← dw.len]; exact few p hp, ?_⟩
  refine n δ (putL L a d2) σ G2 _ k (putL_keys L a d2) ((stF.trans st3).le (by omega)) ⟨by rw [putL_keys]; exact l.nd, fun q hq => ?_⟩ (by rw [fl_congr (putL_keys L a d2)]; exact s2.out (.inr ha))
  unfold putL at hq
  obtain ⟨q0, hq0, e0⟩ := List.mem_map.mp hq
  obtain ⟨us, hu, du, gu, fu⟩ := l2.ok q0 hq0
  by_cases e : q0.1 = a
  · rw [if_pos e] at e0
    subst e0
    have hu' : H2 a = some (.lst us) := by rw [← e]; exact hu
    rw [hw] at hu'
    cases hu'
    exact ⟨ws ++ [v2], by show upd H2 a _ q0.1 = _; rw [e, upd_same], du.snoc dd2, gu, fu⟩
  · rw [if_neg e] at e0
    subst e0
    exact ⟨us, by rw [upd_ne e]; exact hu, du, gu, fu⟩
def bodyL (N : List Sl → Ls → Prop) (O : Out → Ls → Prop) : Out → Ls → Prop
  | .nx δ, L => N δ L
  | .rt d, L => O (.rt d) L
  | .ct δ, L => N δ L
  | .bk δ, L => O (.nx δ) L
theorem rn_for {Pv : Nat → List Sl → Ls → Prop} {n : Nat} {xs : List D} {wi : TI} {g : TG} (hI : IterR K C Ω 0 wi δ (· = xs)) (h0 : Pv 0 δ L)
    (hs : ∀ i x δ1 L1, xs[i]? = some x → Pv i δ1 L1 → ∃ δ2, TgF K C Ω g x δ1 δ2 ∧ RunL (K := K) (C := C) (Ω := Ω) tu δ2 L1 (thenL (Pv (i + 1)) O)) (hd : ∀ δ1 L1, Pv xs.length δ1 L1 → O (.nx δ1) L1) :
    RunL (K := K) (C := C) (Ω := Ω) (tFor wi g tu) δ L O := fun W F G H σ o l s m Z nn r => by
  have o0 := o.fl l
  refine hI W (FL F L) G H σ o0 s (by omega) _ fun J G1 H1 ys st hy hx => ?_
  subst hx
  refine ⟨fun i m' σ' H' => m' = ys.length - i ∧ i ≤ ys.length ∧ ∃ G' δ1 L1, Pv i δ1 L1 ∧ L1.map (·.1) = L.map (·.1) ∧ StF W F 0 G H G' H' ∧ Same G1 G' ∧ LsOk W F G' H' L1 ∧ Slots W (FL F L1) G' H' σ' δ1,
    ⟨ys.length, by omega, Nat.zero_le _, G1, δ, L, h0, rfl, (st.f o0).fl, fun _ _ z => z, l.step o (st.f o0), s.step o0 st⟩, ?_⟩
  rintro i m' σ' H' ⟨rfl, hi, G', δ1, L1, hp, ek, sf, sg, l1, sl⟩
  have oF := sf.ok o
  have o' := oF.fl l1
  obtain ⟨y1, y2⟩ := hy (FL F L1) G' H' sg o' i
  by_cases hlt : i < ys.length
  · obtain ⟨hgo, hyl⟩ := y1 ys[i] (List.getElem?_eq_getElem hlt)
    refine .inr ⟨hgo, fun σ2 H2 => ∃ G2 δ2 L2, Pv (i + 1) δ2 L2 ∧ L2.map (·.1) = L.map (·.1) ∧ StF W F 0 G H G2 H2 ∧ Same G1 G2 ∧ LsOk W F G2 H2 L2 ∧ Slots W (FL F L2) G2 H2 σ2 δ2, fun σ2 H2 ⟨G2, δ2, L2, p2, e2, f2, g2, l2, s2⟩ => ⟨_, by omega, rfl, hlt, G2, δ2, L2, p2, e2, f2, g2, l2, s2⟩, fun x H3 hyx => ?_⟩
    obtain ⟨G3, dx, st3⟩ := hyl x H3 hyx
    obtain ⟨δ2, ht, hrun⟩ := hs i ys[i] δ1 L1 (List.getElem?_eq_getElem hlt) hp
    have o3 := st3.ok o'
    refine ht W (FL F L1) G3 H3 σ' x o3 (sl.step o' st3) dx _ fun σ4 s4 => ?_
    have f3 : StF W F 0 G H G3 H3 := (sf.trans (st3.f o').fl).le (by omega)
    have g3 : Same G1 G3 := fun a u z => st3.gg a u (sg a u z)
    have l3 := l1.step oF (st3.f o')
    have := f3.ct
    exact hrun W F G3 H3 σ4 (f3.ok o) l3 s4 (by omega) _ (fun δ5 L5 σ5 G5 H5 q e5 st5 l5 s5 => ⟨G5, δ5, L5, q, e5.trans ek, (f3.trans st5).le (by omega), fun a u z => st5.gg a u (g3 a u z), l5, s5⟩)
      (fun d L5 v G5 H5 q st5 dd => r d L5 v G5 H5 q ((f3.trans st5).le (by omega)) dd)
  · have ei : i = ys.length := by omega
    subst ei
    exact .inl ⟨y2 (Nat.le_refl _), nn δ1 L1 σ' G' H' (hd δ1 L1 hp) ek sf l1 sl⟩
end
end Z
set_option maxRecDepth 100000
set_option maxHeartbeats 1000000
set_option linter.all false
namespace Z
open PySem PySem.Spec
open PyProof.Rows L2 LamX
/-! a dict of new lists; lots joined -/
section
variable {K : PySem.W.Frag} {C : Addr} {Ω : List (Addr × Str)} {δ : List Sl} {O : Out → Prop} {rooms : List Str}
def nearA (rooms : List Str) (as : List Addr) : D := .dic (dicS (rooms.zip as) D.adr)
theorem Slots.vals {W : Wd K C Ω} {F F' : Addr → Prop} {G H G' H' : Hp} {σ : L2.St} (s : Slots W F G H σ δ) (hv : ∀ (i : Nat) s, δ[i]? = some s → s.own = false) (up : Same G G') : Slots W F' G' H' σ δ where
  len := s.len
  ne := fun i j u t l _ e _ h => by rw [hv i u e] at h; cases h
  ok := fun i t e => by
    have q := s.ok i t e
    have := hv i t e
    cases t with
    | un => trivial
    | val d =>
      obtain ⟨v, e1, h⟩ := q
      exact ⟨v, e1, h.mono up⟩
    | oL xs => cases this
    | oD xs => cases this
    | oI p xs => cases this
theorem LsOk.stp {W : Wd K C Ω} {F : Addr → Prop} {G H G' H' : Hp} {L : Ls} {c : Nat} (l : LsOk W F G H L) (o : Ok W F G H) (st : Stp W c G H G' H') : LsOk W F G' H' L := l.step o (st.f (o.fl l))
theorem LsOk.keep {W : Wd K C Ω} {F : Addr → Prop} {G H : Hp} {L : Ls} {p : Addr} {u : HO} (l : LsOk W F G H L) (hp : p ∉ L.map (·.1)) (gp : G p = none) : LsOk W F (upd G p u) H L := ⟨l.nd, fun q hq => by
  obtain ⟨vs, h1, h2, h3, h4⟩ := l.ok q hq
  have ne : q.1 ≠ p := fun z => hp (z ▸ List.mem_map.mpr ⟨q, hq, rfl⟩)
  exact ⟨vs, h1, h2.mono fun a v e => by rw [upd_ne (ne_of_none e gp)]; exact e, by rw [upd_ne ne]; exact h3, h4⟩⟩
theorem LsOk.put {W : Wd K C Ω} {F : Addr → Prop} {G H : Hp} {L : Ls} {p : Addr} {u : HO} (l : LsOk W F G H L) (hp : p ∉ L.map (·.1)) : LsOk W F G (upd H p u) L := ⟨l.nd, fun q hq => by
  obtain ⟨vs, h1, h2, h3, h4⟩ := l.ok q hq
  have ne : q.1 ≠ p := fun z => hp (z ▸ List.mem_map.mpr ⟨q, hq, rfl⟩)
  exact ⟨vs, by rw [upd_ne ne]; exact h1, h2, h3, h4⟩⟩
theorem keys_nil (as : List Addr) : (as.map fun a => ((a, []) : Addr × List D)).map (·.1) = as := by
  rw [List.map_map]
  exact (List.map_congr_left fun _ _ => rfl).trans (List.map_id _)
theorem zip_snoc {α β : Type} : ∀ {xs : List α} {ys : List β} {i : Nat} {x : α} {y : β}, ys.length = i → xs[i]? = some x → (xs.take (i + 1)).zip (ys ++ [y]) = (xs.take i).zip ys ++ [(x, y)] := fun {xs ys i x y} hl hx => by
  have lt := (List.getElem?_eq_some_iff.mp hx).1
  rw [List.take_add_one, hx, List.zip_append (by rw [List.length_take]; omega)]
  rfl
theorem run_near {rest : TS} (hv : ∀ (i : Nat) s, δ[i]? = some s → s.own = false) (h0 : δ[0]? = some (.val (strsD rooms))) (l3 : 3 < δ.length) (nd : rooms.Nodup) (few : rooms.length ≤ 60)
    (k : ∀ as : List Addr, as.Nodup → as.length = rooms.length → RunL (K := K) (C := C) (Ω := Ω) rest (δ.set 2 (.val (nearA rooms as))) (as.map fun a => (a, [])) (fun o _ => O o)) :
    Run K C Ω 0 (tSeq (tAsg (tDc (iList K (tVar 0)) (gName 3) tYes (tVar 3) (tLst tNil) [3]) (gName 2)) rest) δ O := fun W F G H σ o s m Z n r b e => by
  have big : (60 : Nat) < sizeLine := by decide
  show tDc (iList K (tVar 0)) (gName 3) tYes (tVar 3) (tLst tNil) [3] σ H (fun x H1 => rest Z (σ.set 2 (some x)) H1)
  unfold tDc
  refine it_list1 (K := K) (C := C) (Ω := Ω) (ev_var h0) W F G H σ o s m _ fun J G1 H1 ys st hy hx => ?_
  intro Dd hD
  have hx : ys = rooms.map D.str := hx
  subst hx
  have o1 := st.ok o
  have hD0 : H Dd = none := none_of_ne fun z => st.dom z hD
  have fD : ¬ F Dd := fun z => o.fd Dd z hD0
  refine ⟨fun i m' H' => m' = (rooms.map D.str).length - i ∧ i ≤ (rooms.map D.str).length ∧ ∃ G' as ws, as.length = i ∧ Stp W 0 G H G' H' ∧ Same G1 G' ∧ H' Dd = some (.dK ws) ∧ G' Dd = none ∧ DenK W G' (dicS ((rooms.take i).zip as) D.adr) ws ∧ LsOk W F G' H' (as.map fun a => (a, [])) ∧ Dd ∉ as,
    ⟨(rooms.map D.str).length, by omega, Nat.zero_le _, G1, [], [], rfl, (st.trans (o1.own (o := .dK []) hD)).le (by omega), fun _ _ z => z, upd_same, o1.gnone hD, .nil, ⟨List.Pairwise.nil, fun p hp => absurd hp (by simp)⟩, by simp⟩, ?_⟩
  rintro i m' H' ⟨rfl, hi, G', as, ws, la, sf, sg, hw, gw, dk, ls, nD⟩
  have o' := sf.ok o
  obtain ⟨y1, y2⟩ := hy F G' H' sg o' i
  by_cases hlt : i < (rooms.map D.str).length
  · have hlr : i < rooms.length := by rwa [List.length_map] at hlt
    obtain ⟨y, hyy⟩ : ∃ y, rooms[i]? = some y := ⟨_, List.getElem?_eq_getElem hlr⟩
    have hyd : (rooms.map D.str)[i]? = some (.str y) := by rw [List.getElem?_map, hyy]; rfl
    obtain ⟨hgo, hyl⟩ := y1 _ hyd
    refine .inr ⟨hgo, fun H2 => ∃ G2 as2 ws2, as2.length = i + 1 ∧ Stp W 0 G H G2 H2 ∧ Same G1 G2 ∧ H2 Dd = some (.dK ws2) ∧ G2 Dd = none ∧ DenK W G2 (dicS ((rooms.take (i + 1)).zip as2) D.adr) ws2 ∧ LsOk W F G2 H2 (as2.map fun a => (a, [])) ∧ Dd ∉ as2, fun H2 ⟨G2, as2, ws2, z⟩ => ⟨_, by omega, rfl, hlt, G2, as2, ws2, z⟩, fun x H3 hyx => ?_⟩
    obtain ⟨G3, dx, st3⟩ := hyl x H3 hyx
    cases dx
    show wipe ((wipe σ [3]).set 3 (some (V.str y))) [3] = wipe σ [3] ∧ _
    refine ⟨(wipe_set (by simp)).trans (wipe_wipe σ [3] [3] fun _ z => z), ?_⟩
    have ls3 : σ.length = δ.length := s.len
    refine ⟨.str y, ?_, Nat.zero_le _, fun p hp => ?_⟩
    · show ((σ.set 3 none).set 3 (some (V.str y)))[3]? = _
      rw [List.getElem?_set_self (by rw [List.length_set]; omega)]
    · have o3 := st3.ok o'
      have hw3 : H3 Dd = some (.dK ws) := st3.hh Dd _ hw fun hS => W.inn _ _ o.iv hS hD0
      have gw3 : G3 Dd = none := none_of_ne fun q => by
        rcases st3.fr Dd q with e | e
        · exact e gw
        · rw [hw] at e
          cases e
      have nep : Dd ≠ p := fun z => by
        rw [z, hp] at hw3
        cases hw3
      have st4 := o3.own (o := .lst []) hp
      have o4 := st4.ok o3
      have l4 := (ls.stp o' st3).stp o3 st4
      have pn : p ∉ as := fun z => by
        obtain ⟨vs, hv2, _⟩ := (ls.stp o' st3).at (a := p) (by rw [keys_nil]; exact z)
        rw [hp] at hv2
        cases hv2
      have f4 := ((sf.trans st3).trans st4).le (c1 := 0) (by omega)
      have wl : ws.length = i := by
        rw [← dk.len]
        unfold dicS
        rw [List.length_map, List.length_zip, List.length_take, la]
        omega
      have ny : y ∉ ((rooms.take i).zip as).map (·.1) := fun z => by
        have : y ∈ rooms.take i := by
          obtain ⟨q, hq, e⟩ := List.mem_map.mp z
          rw [← e]
          exact (List.of_mem_zip hq).1
        obtain ⟨j, hj⟩ := List.getElem?_of_mem this
        have lj := (List.getElem?_eq_some_iff.mp hj).1
        rw [List.length_take] at lj
        rw [List.getElem?_take_of_lt (by omega)] at hj
        have := nd_idx nd hj hyy
        omega
      refine ⟨ws, Sum.inr y, rfl, by rw [upd_ne nep]; exact hw3, by omega, G3, as ++ [p], _, by rw [List.length_append, la]; rfl, f4.putN o hD0 gw3 (by rw [upd_ne nep, hw3]; intro φ z; cases z), fun a u z => st3.gg a u (sg a u z), upd_same, gw3, ?_, ?_, ?_⟩
      · have := (dk.mono st3.gg).put (k := Sum.inr y) (Den.adr (W := W) (G := G3) p)
        rw [put_dicS, put_new ny] at this
        rw [zip_snoc la hyy]
        exact this
      · have l5 : LsOk W F G3 (upd (upd H3 p (.lst [])) Dd (.dK (putK ws (Sum.inr y) (.ref p)))) (as.map fun a => (a, [])) := l4.put (by rw [keys_nil]; exact nD)
        rw [List.map_append]
        refine ⟨?_, fun q hq => ?_⟩
        · rw [List.map_append, keys_nil, List.nodup_append]
          refine ⟨by have := l5.nd; rwa [keys_nil] at this, by simp, fun u hu v hv e => ?_⟩
          have hv : v = p := by simpa using hv
          exact pn (by rw [← hv, ← e]; exact hu)
        · rcases List.mem_append.mp hq with z | z
          · exact l5.ok q z
          · have z := List.mem_singleton.mp z
            subst z
            exact ⟨[], by show upd _ Dd _ p = _; rw [upd_ne (Ne.symm nep), upd_same], .nil, o3.gnone hp, fun z => o3.fd p z hp⟩
      · intro z
        rcases List.mem_append.mp z with z | z
        · exact nD z
        · exact nep (List.mem_singleton.mp z)
  · have ei : i = (rooms.map D.str).length := by omega
    subst ei
    refine .inl ⟨y2 (Nat.le_refl _), ?_⟩
    have la2 : as.length = rooms.length := by rw [la, List.length_map]
    have kp := o'.keep (p := Dd) hw gw fD
    have o2 := kp.ok o'
    have l2 := ls.keep (u := .dK ws) (by rw [keys_nil]; exact nD) gw
    have up : Same G' (upd G' Dd (.dK ws)) := kp.gg
    rw [List.length_map, List.take_length] at dk
    have s2 : Slots W (FL F (as.map fun a => (a, []))) (upd G' Dd (.dK ws)) H' (σ.set 2 (some (.ref Dd))) (δ.set 2 (.val (nearA rooms as))) :=
      ((s.step o sf).vals hv up).set (.dic (.inl upd_same) (dk.mono up))
    have tot : StF W F 0 G H (upd G' Dd (.dK ws)) H' := ((sf.f o).trans kp).le (by omega)
    have nda : as.Nodup := by have := ls.nd; rwa [keys_nil] at this
    have mc := tot.ct
    refine k as nda la2 W F _ H' _ o2 l2 s2 (by omega) Z (fun δ' L' σ' G2 H2 q _ st2 l2' s2' => ?_) (fun d L' v G2 H2 q st2 dd => r d v G2 H2 q ((tot.trans st2).le (by omega)) dd)
    refine n δ' σ' G2 H2 q ((tot.trans st2).le (by omega)) ⟨s2'.len, fun j t e => ?_, s2'.ne⟩
    have q2 := s2'.ok j t e
    cases t with
    | un => trivial
    | val d => exact q2
    | oL xs =>
      obtain ⟨m, vs, e1, hm, gm, fm, h⟩ := q2
      exact ⟨m, vs, e1, hm, gm, fun z => fm (.inl z), h⟩
    | oD xs =>
      obtain ⟨m, vs, e1, hm, gm, fm, h⟩ := q2
      exact ⟨m, vs, e1, hm, gm, fun z => fm (.inl z), h⟩
    | oI p xs =>
      obtain ⟨m, dx, vs, e1, ep, hm, gm, fm, h⟩ := q2
      exact ⟨m, dx, vs, e1, ep, hm, gm, fun z => fm (.inl z), h⟩
/-- the lists are not changed any more -/
theorem dens_near {W : Wd K C Ω} {G G' : Hp} : ∀ {rooms : List Str} {L : Ls} {ws : List (Key × V)}, (∀ p ∈ L, ∃ vs, G' p.1 = some (.lst vs) ∧ Dens W G' p.2 vs) → DenK W G (dicS (rooms.zip (L.map (·.1))) D.adr) ws → DenK W G' (dicS (rooms.zip (L.map (·.2))) D.lst) ws
  | [], _, _, _, h => by
    cases h
    exact .nil
  | _ :: _, [], _, _, h => by
    cases h
    exact .nil
  | x :: rooms, p :: L, _, ok, h => by
    cases h with
    | cons h1 h2 =>
      cases h1
      obtain ⟨vs, e1, e2⟩ := ok p List.mem_cons_self
      exact .cons (.lst e1 e2) (dens_near (fun q hq => ok q (List.mem_cons_of_mem _ hq)) h2)
theorem rn_keep {L : Ls} {ts : TS} {i : Nat} (h : δ[i]? = some (.val (nearA rooms (L.map (·.1))))) (hr : Run K C Ω 0 ts (δ.set i (.val (.dic (dicS (rooms.zip (L.map (·.2))) D.lst)))) O) (hx : ∀ δ, ¬ O (.bk δ) ∧ ¬ O (.ct δ)) (nn : ∀ δ, ¬ O (.nx δ)) : RunL (K := K) (C := C) (Ω := Ω) ts δ L (fun o _ => O o) := fun W F G H σ o l s m Z n r => by
  classical
  let G' : Hp := fun a => if a ∈ L.map (·.1) then H a else G a
  have inL : ∀ {a}, a ∈ L.map (·.1) → G' a = H a := fun {a} h => if_pos h
  have outL : ∀ {a}, a ∉ L.map (·.1) → G' a = G a := fun {a} h => if_neg h
  have gg : Same G G' := fun a u e => by
    by_cases z : a ∈ L.map (·.1)
    · obtain ⟨_, _, gn, _⟩ := l.at z
      rw [e] at gn
      cases gn
    · rw [outL z]
      exact e
  have gh : Same G' H := fun a u e => by
    by_cases z : a ∈ L.map (·.1)
    · rw [inL z] at e
      exact e
    · rw [outL z] at e
      exact o.gh a u e
  have st : StF W F 0 G H G' H := ⟨gg, gh, fun _ _ _ h _ => h, fun a q => by
    by_cases z : a ∈ L.map (·.1)
    · obtain ⟨_, _, _, fn⟩ := l.at z
      exact .inr fn
    · rw [outL z] at q
      exact .inl q, o.iv, Nat.le_refl _⟩
  have o2 := st.ok o
  have all : ∀ p ∈ L, ∃ vs, G' p.1 = some (.lst vs) ∧ Dens W G' p.2 vs := fun p hp => by
    obtain ⟨vs, h1, h2, _, _⟩ := l.ok p hp
    exact ⟨vs, by rw [inL (List.mem_map.mpr ⟨p, hp, rfl⟩)]; exact h1, h2.mono gg⟩
  have s2 : Slots W F G' H σ δ := ⟨s.len, fun j t e => by
    have q := s.ok j t e
    cases t with
    | un => trivial
    | val d =>
      obtain ⟨v, e1, hd⟩ := q
      exact ⟨v, e1, hd.mono gg⟩
    | oL xs =>
      obtain ⟨m, vs, e1, hm, gm, fm, hd⟩ := q
      exact ⟨m, vs, e1, hm, by rw [outL fun z => fm (.inr z)]; exact gm, fun z => fm (.inl z), hd.mono gg⟩
    | oD xs =>
      obtain ⟨m, vs, e1, hm, gm, fm, hd⟩ := q
      exact ⟨m, vs, e1, hm, by rw [outL fun z => fm (.inr z)]; exact gm, fun z => fm (.inl z), hd.mono gg⟩
    | oI p xs =>
      obtain ⟨m, dx, vs, e1, ep, hm, gm, fm, hd⟩ := q
      exact ⟨m, dx, vs, e1, ep, hm, by rw [outL fun z => fm (.inr z)]; exact gm, fun z => fm (.inl z), hd.mono gg⟩, s.ne⟩
  have s3 : Slots W F G' H σ (δ.set i (.val (.dic (dicS (rooms.zip (L.map (·.2))) D.lst)))) := by
    obtain ⟨v, ev, dv⟩ := s.ok i _ h
    have dn : Den W G' (.dic (dicS (rooms.zip (L.map (·.2))) D.lst)) v := by
      cases dv with
      | dic h1 h2 => exact .dic (same_rd gg h1) (dens_near all h2)
    refine ⟨by rw [List.length_set]; exact s2.len, fun j t e => ?_, fun a b u t l2 hab ea eb sa sb => ?_⟩
    · rcases slot_get_set e with ⟨rfl, hj, rfl⟩ | ⟨hne, e⟩
      · exact ⟨v, ev, dn⟩
      · exact s2.ok j t e
    · rcases slot_get_set ea with ⟨_, _, rfl⟩ | ⟨na, ea⟩
      · cases sa
      · rcases slot_get_set eb with ⟨_, _, rfl⟩ | ⟨nb, eb⟩
        · cases sb
        · exact s2.ne a b u t l2 hab ea eb sa sb
  exact hr W F G' H σ o2 s3 (by omega) Z (fun δ' σ' G2 H2 q _ _ => (nn _ q).elim) (fun d v G2 H2 q st2 dd => r d L v G2 H2 q ((st.trans st2).le (by omega)) dd) (fun δ' σ' G2 H2 q _ _ => ((hx _).1 q).elim) (fun δ' σ' G2 H2 q _ _ => ((hx _).2 q).elim)
end
end Z
set_option maxRecDepth 100000
set_option maxHeartbeats 1000000
set_option linter.all false
namespace Z
open PySem PySem.Spec
open PyProof.Rows L2 LamX
/-! lots joined: a dict that is passed changes -/
def encF (ks : List Str) (g : Str → Str) : List (Key × V) := ks.map fun r => (Sum.inr r, V.str (g r))
theorem valV_encF {g : Str → Str} {y : Str} : ∀ {ks : List Str}, y ∈ ks → valV (encF ks g) (Sum.inr y) = some (.str (g y))
  | [], h => absurd h (by simp)
  | x :: r, h => by
    unfold valV encF
    rw [List.map_cons, List.find?_cons]
    by_cases e : x = y
    · subst e
      simp
    · have e1 : decide ((Sum.inr x : Key) = Sum.inr y) = false := decide_eq_false fun h => e (Sum.inr.inj h)
      simp only [e1]
      exact valV_encF ((List.mem_cons.mp h).resolve_left (Ne.symm e))
theorem putK_encF {g : Str → Str} {y v : Str} {ks : List Str} (h : y ∈ ks) : putK (encF ks g) (Sum.inr y) (.str v) = encF ks fun r => if r = y then v else g r := by
  unfold putK
  rw [if_pos]
  · unfold encF
    rw [List.map_map]
    apply List.map_congr_left
    intro r _
    show (if (Sum.inr r : Key) = Sum.inr y then ((Sum.inr r : Key), V.str v) else (Sum.inr r, V.str (g r))) = (Sum.inr r, V.str (if r = y then v else g r))
    by_cases e : r = y
    · rw [if_pos (by rw [e]), if_pos e]
    · rw [if_neg fun z => e (Sum.inr.inj z), if_neg e]
  · rw [List.any_eq_true]
    exact ⟨(Sum.inr y, V.str (g y)), List.mem_map.mpr ⟨y, h, rfl⟩, decide_eq_true rfl⟩
def joinF (kept lost : Str) (g : Str → Str) (r : Str) : Str := if g r = lost then kept else g r
/-- lots at l, joined -/
def spJoin : Sp := fun vs H Q _ => ∃ (l : Addr) (ks : List Str) (g : Str → Str) (kept lost : Str), vs = [.ref l, .str kept, .str lost] ∧ H l = some (.dK (encF ks g)) ∧ ks.Nodup ∧ ks.length ≤ 100 ∧
  ∀ H', (∀ a o, a ≠ l → H a = some o → H' a = some o) → H' l = some (.dK (encF ks (joinF kept lost g))) → Q .non H'
def tJoinB : TS := tIfS (tTest (tOp rEq (tDGet (tVar 0) (tVar 3)) (tVar 2))) (sDPut (tVar 0) (tVar 3) (tVar 1)) tNext
def tJoin (K : PySem.W.Frag) : TS := tFor (iList K (tCB listD (tCons (tVar 0) tNil))) (gName 3) tJoinB
/-- joined as far as the first i -/
def joinUp (kept lost : Str) (g : Str → Str) (ks : List Str) (i : Nat) (r : Str) : Str := if r ∈ ks.take i then joinF kept lost g r else g r
theorem encF_congr {ks : List Str} {g g' : Str → Str} (h : ∀ r ∈ ks, g r = g' r) : encF ks g = encF ks g' := by
  unfold encF
  apply List.map_congr_left
  intro r hr
  rw [h r hr]
section
variable {K : PySem.W.Frag} {C : Addr} {Ω : List (Addr × Str)} {δ : List Sl} {O : Out → Prop}
theorem run_join {N : List Str} (hN : N.length = 4) {vs : List V} {H : Hp} {Q : VK} {E : XK} (hs : spJoin vs H Q E) : tJoin K { nx := fun _ H' => Q .non H', rt := Q } (L2.start N vs) H := by
  obtain ⟨l, ks, g, kept, lost, rfl, hl, nd, few, go⟩ := hs
  have st : L2.start N [.ref l, .str kept, .str lost] = [some (.ref l), some (.str kept), some (.str lost), none] := by
    unfold L2.start
    rw [hN]
    rfl
  rw [st]
  refine ⟨.ref l, rfl, l, encF ks g, rfl, .inl hl, fun p hp => ⟨p, rfl, ⟨_, .inl (.inl upd_same)⟩, ?_⟩⟩
  have ek : (encF ks g).map (fun kv => kV kv.1) = ks.map V.str := by
    unfold encF
    rw [List.map_map]
    rfl
  have lp : l ≠ p := fun z => by
    rw [z, hp] at hl
    cases hl
  refine ⟨fun i m' σ' H' => m' = ks.length - i ∧ i ≤ ks.length ∧ (∃ x, σ' = [some (.ref l), some (.str kept), some (.str lost), x]) ∧ H' p = some (.lst (ks.map V.str)) ∧ H' l = some (.dK (encF ks (joinUp kept lost g ks i))) ∧ ∀ a o, a ≠ l → H a = some o → H' a = some o,
    ⟨ks.length, by omega, Nat.zero_le _, ⟨none, rfl⟩, by rw [upd_same]; exact congrArg (fun z => some (HO.lst z)) ek, by rw [upd_ne lp, hl]; exact congrArg (fun z => some (HO.dK z)) (encF_congr fun r _ => by simp [joinUp]), fun a u ne e => by rw [upd_ne (ne_of_none e hp)]; exact e⟩, ?_⟩
  rintro i m' σ' H' ⟨rfl, hi, ⟨x0, rfl⟩, h1, h2, fr⟩
  by_cases lt : i < ks.length
  · obtain ⟨y, hy⟩ : ∃ y, ks[i]? = some y := ⟨_, List.getElem?_eq_getElem lt⟩
    have ym := List.mem_of_getElem? hy
    have hv : (ks.map V.str)[i]? = some (.str y) := by rw [List.getElem?_map, hy]; rfl
    refine .inr ⟨⟨_, _, .inl (.inl h1), hv⟩, fun σ2 H2 => (∃ x, σ2 = [some (.ref l), some (.str kept), some (.str lost), x]) ∧ H2 p = some (.lst (ks.map V.str)) ∧ H2 l = some (.dK (encF ks (joinUp kept lost g ks (i + 1)))) ∧ ∀ a o, a ≠ l → H a = some o → H2 a = some o, fun σ2 H2 z => ⟨_, by omega, rfl, lt, z⟩, fun x H3 hyx => ?_⟩
    obtain ⟨rfl, hx⟩ := hyx
    have := hx _ (.inl (.inl h1))
    rw [hv] at this
    cases this
    have ny : y ∉ ks.take i := fun z => by
      obtain ⟨j, hj⟩ := List.getElem?_of_mem z
      have lj := (List.getElem?_eq_some_iff.mp hj).1
      rw [List.length_take] at lj
      rw [List.getElem?_take_of_lt (by omega)] at hj
      have := nd_idx nd hj hy
      omega
    have cur : joinUp kept lost g ks i y = g y := if_neg ny
    have nxt : encF ks (joinUp kept lost g ks (i + 1)) = encF ks fun r => if r = y then joinF kept lost g y else joinUp kept lost g ks i r := encF_congr fun r hr => by
      show (if r ∈ ks.take (i + 1) then _ else _) = _
      rw [List.take_add_one, hy]
      by_cases e : r = y
      · subst e
        simp
      · have : (r ∈ ks.take i ++ (some y).toList) ↔ r ∈ ks.take i := by simp [e]
        simp only [this, if_neg e]
        rfl
    show tJoinB _ [some (.ref l), some (.str kept), some (.str lost), some (.str y)] H3
    refine ⟨.ref l, rfl, .str y, rfl, l, .str (g y), rfl, .inl ⟨_, Sum.inr y, .inl h2, rfl, by rw [valV_encF ym, cur]⟩, .str lost, rfl, rfl, _, rfl, ?_⟩
    show if decide (V.str (g y) = V.str lost) = true then _ else _
    by_cases e : g y = lost
    · rw [if_pos (by rw [e]; exact decide_eq_true rfl)]
      refine ⟨.str kept, rfl, .ref l, rfl, .str y, rfl, l, _, rfl, .inl ⟨_, Sum.inr y, h2, rfl, ?_, rfl⟩, ⟨_, rfl⟩, ?_, ?_, fun a u ne z => ?_⟩
      · unfold encF
        rw [List.length_map]
        have : (100 : Nat) < sizeLine := by decide
        omega
      · rw [upd_ne (Ne.symm lp)]
        exact h1
      · rw [upd_same, putK_encF ym, nxt]
        unfold joinF
        rw [if_pos e]
      · rw [upd_ne ne]
        exact fr a u ne z
    · rw [if_neg (by rw [decide_eq_false (fun z => e (V.str.inj z))]; exact Bool.false_ne_true)]
      refine ⟨⟨_, rfl⟩, h1, ?_, fr⟩
      rw [h2, nxt]
      congr 2
      apply encF_congr
      intro r _
      show _ = if r = y then _ else _
      by_cases q : r = y
      · subst q
        rw [if_pos rfl, cur]
        unfold joinF
        rw [if_neg e]
      · rw [if_neg q]
  · have ei : i = ks.length := by omega
    subst ei
    refine .inl ⟨⟨_, .inl (.inl h1), by rw [List.length_map]; exact Nat.le_refl _⟩, go H' fr ?_⟩
    rw [h2]
    congr 2
    apply encF_congr
    intro r hr
    show (if r ∈ ks.take ks.length then _ else _) = _
    rw [List.take_length, if_pos hr]
/-- lots as data -/
def lotsD (ks : List Str) (g : Str → Str) : List (Key × D) := dicS (ks.map fun r => (r, g r)) D.str
theorem den_lots {W : Wd K C Ω} {G : Hp} {g : Str → Str} : ∀ {ks : List Str} {ws : List (Key × V)}, DenK W G (lotsD ks g) ws → ws = encF ks g
  | [], _, h => by
    cases h
    rfl
  | x :: r, _, h => by
    cases h with
    | cons h1 h2 =>
      cases h1
      rw [den_lots (ks := r) h2]
      rfl
theorem lots_den {W : Wd K C Ω} {G : Hp} {g : Str → Str} : ∀ {ks : List Str}, DenK W G (lotsD ks g) (encF ks g)
  | [] => .nil
  | x :: r => .cons (.str _) (lots_den (ks := r))
theorem run_joined {i : Nat} {ks : List Str} {g : Str → Str} {kept lost : Str} {t1 t2 : TE} {E : XK} (h : δ[i]? = some (.oD (lotsD ks g))) (nd : ks.Nodup) (few : ks.length ≤ 100) (h1 : Ev K C Ω 0 t1 δ (· = .str kept)) (h2 : Ev K C Ω 0 t2 δ (· = .str lost))
    (k : O (.nx (δ.set i (.oD (lotsD ks (joinF kept lost g)))))) : Run K C Ω 0 (tDrop (tCall spJoin [] E (tCons (tVar i) (tCons t1 (tCons t2 tNil))))) δ O := fun W F G H σ o s m Z n r b e => by
  obtain ⟨l, ws, el, hl, gl, fl, hd⟩ := s.ok i _ h
  refine ⟨.ref l, at_some el, h1 W F G H σ o s (by omega) _ fun v1 G1 H1 d1 st1 dd1 e1 => ?_⟩
  subst e1
  cases dd1
  have o1 := st1.ok o
  have s1 := s.step o st1
  refine h2 W F G1 H1 σ o1 s1 (by have := st1.ct; omega) _ fun v2 G2 H2 d2 st2 dd2 e2 => ?_
  subst e2
  cases dd2
  have o2 := st2.ok o1
  have s2 := s1.step o1 st2
  obtain ⟨l', ws', el', hl', gl', fl', hd'⟩ := s2.ok i _ h
  rw [el] at el'
  cases el'
  have ew := den_lots hd'
  subst ew
  refine ⟨l, ks, g, kept, lost, rfl, hl', nd, few, fun H' fr hn => ?_⟩
  have kp : W.Kp H2 H' := fun a u z q => by
    refine fr a u (fun w => ?_) q
    rcases z with z | ⟨φ, z⟩
    · exact fl' (w ▸ o2.sf a z)
    · rw [w, hl'] at q
      cases q
      cases z
  have st3 : StF W F 0 G2 H2 G2 H' := ⟨fun _ _ z => z, fun a u z => fr a u (ne_of_none z gl') (o2.gh a u z), fun a u fa z _ => fr a u (fun w => fl' (w ▸ fa)) z, fun _ z => .inl z, W.loc _ _ kp o2.iv, by rw [W.cloc _ _ kp o2.iv]; exact Nat.le_refl _⟩
  refine n _ σ G2 H' k ((((st1.trans st2).f o).trans st3).le (by omega)) ⟨by rw [List.length_set]; exact s2.len, fun j t et => ?_, fun a c u t q hac ea ec sa sc => ?_⟩
  · rcases slot_get_set et with ⟨rfl, hj, rfl⟩ | ⟨hne, et⟩
    · exact ⟨l, _, el, hn, gl', fl', lots_den⟩
    · have q := s2.ok j t et
      cases t with
      | un => trivial
      | val d => exact q
      | oL xs =>
        obtain ⟨a, vs, e1, hm, gm, fm, hh⟩ := q
        exact ⟨a, vs, e1, fr a _ (fun z => s2.ne i j _ _ l hne h et rfl rfl el (z ▸ e1)) hm, gm, fm, hh⟩
      | oD xs =>
        obtain ⟨a, vs, e1, hm, gm, fm, hh⟩ := q
        exact ⟨a, vs, e1, fr a _ (fun z => s2.ne i j _ _ l hne h et rfl rfl el (z ▸ e1)) hm, gm, fm, hh⟩
      | oI p xs =>
        obtain ⟨a, dx, vs, e1, ep, hm, gm, fm, hh⟩ := q
        exact ⟨a, dx, vs, e1, ep, fr a _ (fun z => s2.ne i j _ _ l hne h et rfl rfl el (z ▸ e1)) hm, gm, fm, hh⟩
  · have fix : ∀ {c : Nat} {t : Sl}, (δ.set i (.oD (lotsD ks (joinF kept lost g))))[c]? = some t → t.own = true → ∃ t' : Sl, δ[c]? = some t' ∧ t'.own = true := fun {c t} ec ht => by
      rcases slot_get_set ec with ⟨rfl, _, rfl⟩ | ⟨_, ec⟩
      · exact ⟨_, h, rfl⟩
      · exact ⟨t, ec, ht⟩
    obtain ⟨u', ea, sa⟩ := fix ea sa
    obtain ⟨t', ec, sc⟩ := fix ec sc
    exact s2.ne a c u' t' q hac ea ec sa sc
end
end Z
set_option maxRecDepth 100000
set_option maxHeartbeats 1000000
set_option linter.all false
namespace Z
open PySem PySem.Spec
open PyProof.Rows L2 LamX
/-! what is beside each room of a house told -/
section
variable {K : PySem.W.Frag} {C : Addr} {Ω : List (Addr × Str)} {δ : List Sl} {O : Out → Prop}
abbrev RowD := {d : D // tyD d = some "list" ∨ tyD d = some "tuple"}
abbrev spRowD (K : PySem.W.Frag) (C : Addr) (Ω : List (Addr × Str)) : Sp := SpX K C Ω (fun _ => 0) (fun i : RowD => [i.1]) fun _ d => d = .bl true
theorem ev_is_row {j : Nat} {d : D} (h : δ[j]? = some (.val d)) (t : tyD d = some "list" ∨ tyD d = some "tuple") : Ev K C Ω 0 (tCall (spRowD K C Ω) [] C8.E0 (tCons (tVar j) tNil)) δ (· = .bl true) :=
  (ev_callX (cc := fun _ => 0) (A := fun i : RowD => [i.1]) (Rx := fun _ d => d = .bl true) ⟨d, t⟩ (ea1 (ev_var h) ea_nil)).le (by omega)
/-! is_pair_of -/
structure IP where
  zs : List (Str × Addr)
  a : Str
  b : Str
  ha : a ∈ zs.map (·.1)
  hb : b ∈ zs.map (·.1)
def IP.ds (i : IP) : List D := [.dic (dicS i.zs D.adr), prD2 (i.a, i.b)]
abbrev spIsPair (K : PySem.W.Frag) (C : Addr) (Ω : List (Addr × Str)) : Sp := SpX K C Ω (fun _ => 0) IP.ds fun _ d => d = .bl true
def tIsPair (K : PySem.W.Frag) (C : Addr) (Ω : List (Addr × Str)) : TS := tSeq (tIfS (tOr (tNot (tB (tCall (spRowD K C Ω) [] C8.E0 (tCons (tVar 1) tNil)))) (tTest (tOp rNe (tCB (rLenV K) (tCons (tVar 1) tNil)) (nr 2)))) (tRet (tC (V.bl false))) tNext)
  (tRet (tCB (rAll K) (tCons (tLc (iTup K (tVar 1)) (gName 2) tYes (tAndV (tCB (rIsi K) (tCons (tVar 2) (tCons (tC (V.ty "str")) tNil))) (tDIn (tVar 2) (tVar 0))) [2]) tNil)))
theorem run_is_pair (i : IP) : Run K C Ω 0 (tIsPair K C Ω) (startS 3 i.ds) (retO (· = .bl true)) := by
  show Run K C Ω 0 (tIsPair K C Ω) [.val (.dic (dicS i.zs D.adr)), .val (prD2 (i.a, i.b)), .un] _
  have len : Ev K C Ω 0 (tCB (rLenV K) (tCons (tVar 1) tNil)) [.val (.dic (dicS i.zs D.adr)), .val (prD2 (i.a, i.b)), .un] (· = .int 2) := ev_cb (ea1 (ev_var (i := 1) rfl) ea_nil) fun ds e => by
    subst e
    exact rc_len_t
  have ne : Ev K C Ω 0 (tOp rNe (tCB (rLenV K) (tCons (tVar 1) tNil)) (nr 2)) [.val (.dic (dicS i.zs D.adr)), .val (prD2 (i.a, i.b)), .un] (· = .bl false) := ((ev_op1 len ev_int (rv_ne rfl rfl rfl)).imp fun d e => by rw [e]; simp).le (by omega)
  refine (row_guard (c2 := 0) (c3 := 0) (RT := (· = false)) (et_or (c1 := 0) (c2 := 0) (RT := (· = false)) (et_not (et_ofB ((ev_is_row (j := 1) rfl (.inr rfl)).imp fun d e => ⟨_, e, rfl⟩))) (fun _ => et1 ne) fun e => by cases e) (fun z => by cases z) fun _ => run_ret (R := (· = .bl true)) ?_ fun d e => e).le (by omega)
  refine (ev_all_map (fun _ => true) (it_tup1 (xs := [.str i.a, .str i.b]) (ev_var (i := 1) rfl)) (by show 2 ≤ 1000; omega) fun x hx => ?_).imp fun d e => by rw [e]; rfl
  obtain ⟨y, rfl, hy⟩ : ∃ y, x = .str y ∧ y ∈ i.zs.map (·.1) := by
    rcases List.mem_cons.mp hx with e | hx
    · exact ⟨i.a, e, i.ha⟩
    · exact ⟨i.b, List.mem_singleton.mp hx, i.hb⟩
  refine ⟨_, tg_name (.inr (by simp)) (by simp), ?_⟩
  have dn := ev_din (K := K) (C := C) (Ω := Ω) (δ := [.val (.dic (dicS i.zs D.adr)), .val (prD2 (i.a, i.b)), .val (.str y)]) (k := Sum.inr y) (ev_var (i := 2) (d := .str y) rfl) (ev_var (i := 0) (d := .dic (dicS i.zs D.adr)) rfl) rfl
  rw [has_dicS, look_mem.mpr hy] at dn
  have is : Ev K C Ω 0 (tCB (rIsi K) (tCons (tVar 2) (tCons (tC (V.ty "str")) tNil))) [.val (.dic (dicS i.zs D.adr)), .val (prD2 (i.a, i.b)), .val (.str y)] (· = .bl true) := ev_isi (ev_var (i := 2) (d := .str y) rfl) rfl rfl
  refine ((ev_and (c1 := 0) (c2 := 0) (RT := (· = true)) (RU := (· = true)) (is.imp fun d e => ⟨_, e, rfl⟩) (fun _ => (dn.le (c := 0) (by omega)).imp fun d e => ⟨_, e, rfl⟩) fun e => by cases e).imp fun d ⟨k, e, ek⟩ => by rw [e, ek]).le (by omega)
/-! rooms_near -/
structure RNi where
  rooms : List Str
  es : List (Str × Str)
  nd : rooms.Nodup
  few : rooms.length ≤ 12
  fewD : es.length ≤ 30
  T : Tree rooms es
def sideOf (r : Str) (p : Str × Str) : List Str := if p.1 = r then [p.2] else if p.2 = r then [p.1] else []
def nbs (es : List (Str × Str)) (r : Str) : List Str := es.flatMap (sideOf r)
theorem nbs_besides {es : List (Str × Str)} {r : Str} (h : ∀ p ∈ es, p.1 ≠ p.2) : ssort (nbs es r) = besides es r := by
  have pm : (nbs es r).Perm ((es.filter fun p => decide (p.1 = r)).map (·.2) ++ (es.filter fun p => decide (p.2 = r)).map (·.1)) := by
    induction es with
    | nil => exact .refl _
    | cons p t ih =>
      have ih := ih fun q hq => h q (List.mem_cons_of_mem _ hq)
      have ne := h p List.mem_cons_self
      show (sideOf r p ++ nbs t r).Perm _
      unfold sideOf
      by_cases e1 : p.1 = r
      · have e2 : p.2 ≠ r := fun z => ne (e1.trans z.symm)
        rw [if_pos e1, List.filter_cons, List.filter_cons]
        simp only [e1, e2, decide_true, decide_false, if_true]
        exact ih.cons p.2
      · by_cases e2 : p.2 = r
        · rw [if_neg e1, if_pos e2, List.filter_cons, List.filter_cons]
          simp only [e1, e2, decide_true, decide_false, if_true]
          refine (ih.cons p.1).trans ?_
          exact (List.perm_middle (a := p.1)).symm
        · rw [if_neg e1, if_neg e2, List.filter_cons, List.filter_cons]
          simp only [e1, e2, decide_false]
          exact ih
  exact (ssort_uniq ((ssort_perm _).trans pm) (ssort_pw _)).trans rfl
def lsOf (rooms : List Str) (as : List Addr) (nb : Str → List Str) : Ls := (rooms.zip as).map fun p => (p.2, (nb p.1).map D.str)
theorem zip_fst {α β : Type} : ∀ {xs : List α} {ys : List β}, ys.length = xs.length → (xs.zip ys).map (·.1) = xs
  | [], _, _ => rfl
  | x :: r, [], h => by simp at h
  | x :: r, y :: t, h => by
    rw [List.zip_cons_cons, List.map_cons, zip_fst (by simpa using h)]
theorem zip_snd {α β : Type} : ∀ {xs : List α} {ys : List β}, ys.length = xs.length → (xs.zip ys).map (·.2) = ys
  | [], [], _ => rfl
  | [], y :: t, h => by simp at h
  | x :: r, [], h => by simp at h
  | x :: r, y :: t, h => by
    rw [List.zip_cons_cons, List.map_cons, zip_snd (by simpa using h)]
theorem lsOf_keys {rooms : List Str} {as : List Addr} {nb : Str → List Str} (h : as.length = rooms.length) : (lsOf rooms as nb).map (·.1) = as := by
  unfold lsOf
  rw [List.map_map]
  exact zip_snd h
theorem lsOf_snd {rooms : List Str} {as : List Addr} {nb : Str → List Str} (h : as.length = rooms.length) : rooms.zip ((lsOf rooms as nb).map (·.2)) = rooms.map fun r => (r, (nb r).map D.str) := by
  unfold lsOf
  rw [List.map_map]
  induction rooms generalizing as with
  | nil => rfl
  | cons x r ih =>
    cases as with
    | nil => simp at h
    | cons y t =>
      rw [List.zip_cons_cons, List.map_cons, List.zip_cons_cons, List.map_cons, ih (by simpa using h)]
      rfl
theorem look_zip {rooms : List Str} {as : List Addr} (h : as.length = rooms.length) {u : Str} (hu : u ∈ rooms) : ∃ a, (rooms.zip as).lookup u = some a ∧ a ∈ as ∧ (u, a) ∈ rooms.zip as := by
  obtain ⟨a, ha⟩ := Option.isSome_iff_exists.mp (look_mem (m := rooms.zip as).mpr (by rw [zip_fst h]; exact hu))
  have mem : ∀ {l : List (Str × Addr)}, l.lookup u = some a → (u, a) ∈ l := fun {l} e => by
    induction l with
    | nil => cases e
    | cons p t ih =>
      rw [List.lookup_cons] at e
      by_cases q : u = p.1
      · have q2 : (u == p.1) = true := beq_iff_eq.mpr q
        simp only [q2] at e
        cases e
        exact List.mem_cons.mpr (.inl (Prod.ext q rfl))
      · have q2 : (u == p.1) = false := beq_eq_false_iff_ne.mpr q
        simp only [q2] at e
        exact List.mem_cons_of_mem _ (ih e)
  exact ⟨a, ha, (List.of_mem_zip (mem ha)).2, mem ha⟩
theorem lsOf_put {rooms : List Str} {as : List Addr} {nb : Str → List Str} (h : as.length = rooms.length) (nd : rooms.Nodup) (nda : as.Nodup) {u v : Str} {a : Addr} (ha : (u, a) ∈ rooms.zip as) : putL (lsOf rooms as nb) a (.str v) = lsOf rooms as fun r => if r = u then nb r ++ [v] else nb r := by
  unfold putL lsOf
  rw [List.map_map]
  apply List.map_congr_left
  intro p hp
  have key : p.2 = a ↔ p.1 = u := by
    obtain ⟨i, hi⟩ := List.getElem?_of_mem ha
    obtain ⟨j, hj⟩ := List.getElem?_of_mem hp
    have i1 := List.getElem?_zip_eq_some.mp hi
    have j1 := List.getElem?_zip_eq_some.mp hj
    constructor
    · intro e
      have j2 : as[j]? = some a := by rw [← e]; exact j1.2
      have := (List.getElem?_inj (List.getElem?_eq_some_iff.mp i1.2).1 nda).mp (i1.2.trans j2.symm)
      subst this
      have := i1.1.symm.trans j1.1
      exact (Option.some.inj this).symm
    · intro e
      have j2 : rooms[j]? = some u := by rw [← e]; exact j1.1
      have := nd_idx nd i1.1 j2
      subst this
      have := i1.2.symm.trans j1.2
      exact (Option.some.inj this).symm
  show (if p.2 = a then (p.2, (nb p.1).map D.str ++ [D.str v]) else (p.2, (nb p.1).map D.str)) = (p.2, (if p.1 = u then nb p.1 ++ [v] else nb p.1).map D.str)
  by_cases e : p.1 = u
  · rw [if_pos (key.mpr e), if_pos e, List.map_append]
    rfl
  · rw [if_neg fun z => e (key.mp z), if_neg e]
theorem lsOf_congr {rooms : List Str} {as : List Addr} {nb nb' : Str → List Str} (h : ∀ r, nb r = nb' r) : lsOf rooms as nb = lsOf rooms as nb' := by
  have : nb = nb' := funext h
  rw [this]
end
end Z
set_option maxRecDepth 100000
set_option maxHeartbeats 1000000
set_option linter.all false
namespace Z
open PySem PySem.Spec
open PyProof.Rows L2 LamX
/-! _rooms_near -/
section
variable {K : PySem.W.Frag} {C : Addr} {Ω : List (Addr × Str)} {δ : List Sl} {O : Out → Prop}
def dIx (K : PySem.W.Frag) (k : Int) : TE := tOp (rIxT K) (tVar 6) (nr k)
def tDoorN (K : PySem.W.Frag) (C : Addr) (Ω : List (Addr × Str)) : TS := tSeq (tIfS (tOr (tNot (tB (tCall (spIsPair K C Ω) [] C8.E0 (tCons (tVar 2) (tCons (tVar 6) tNil))))) (tTest (tOp rEq (tDGet (tVar 4) (dIx K 0)) (tDGet (tVar 4) (dIx K 1))))) tNever tNext)
  (tSeq (tDrop (tCall spJoin [] C8.E0 (tCons (tVar 4) (tCons (tDGet (tVar 4) (dIx K 0)) (tCons (tDGet (tVar 4) (dIx K 1)) tNil)))))
    (tSeq (tDrop (tBM K "list" rAppend (tDGet (tVar 2) (dIx K 0)) (tCons (dIx K 1) tNil))) (tDrop (tBM K "list" rAppend (tDGet (tVar 2) (dIx K 1)) (tCons (dIx K 0) tNil)))))
def tJoinedAll (K : PySem.W.Frag) : TS := tFor (iList K (tVar 0)) (gName 3) (tIfS (tTest (tOp rNe (tDGet (tVar 4) (tVar 3)) (tDGet (tVar 4) (tOp (rIxL K) (tVar 0) (nr 0))))) tNever tNext)
def tNearR (K : PySem.W.Frag) : TS := tRet (tDc (iList K (tVar 0)) (gName 3) tYes (tVar 3) (tCB (rSortedS K) (tCons (tDGet (tVar 2) (tVar 3)) tNil)) [3])
def tRoomsNear (K : PySem.W.Frag) (C : Addr) (Ω : List (Addr × Str)) : TS := tSeq (tAsg (tDc (iList K (tVar 0)) (gName 3) tYes (tVar 3) (tLst tNil) [3]) (gName 2))
  (tSeq (tAsg (tDc (iList K (tVar 0)) (gName 3) tYes (tVar 3) (tVar 3) [3]) (gName 4)) (tSeq (tIfS (tNot (tB (tCall (spRowD K C Ω) [] C8.E0 (tCons (tVar 1) tNil)))) tNever tNext)
    (tSeq (tFor (iEnum K (tCons (tVar 1) tNil)) (gTup K 2 (gCons (gName 5) (gCons (gName 6) gNil))) (tDoorN K C Ω)) (tSeq (tJoinedAll K) (tNearR K)))))
abbrev sR (i : RNi) (x2 x3 x4 x5 x6 : Sl) : List Sl := [.val (strsD i.rooms), .val (prsD i.es), x2, x3, x4, x5, x6]
/-- lots so far -/
structure Lot (i : RNi) (k : Nat) (g : Str → Str) : Prop where
  i1 : ∀ s : Str → Bool, (∀ p ∈ i.es.take k, s p.1 = s p.2) → ∀ x ∈ i.rooms, ∀ y ∈ i.rooms, g x = g y → s x = s y
  i2 : ∀ p ∈ i.es.take k, g p.1 = g p.2
theorem Lot.start (i : RNi) : Lot i 0 id := ⟨fun s _ x _ y _ e => by rw [show x = y from e], fun p hp => absurd hp (by simp)⟩
theorem Lot.apart {i : RNi} {k : Nat} {g : Str → Str} {p : Str × Str} (l : Lot i k g) (hp : i.es[k]? = some p) : g p.1 ≠ g p.2 := fun e => by
  obtain ⟨s, ne, same⟩ := i.T.sep k p hp
  have inn := i.T.inn p (List.mem_of_getElem? hp)
  refine ne (l.i1 s (fun q hq => ?_) _ inn.1 _ inn.2.1 e)
  obtain ⟨j, hj⟩ := List.getElem?_of_mem hq
  have lj := (List.getElem?_eq_some_iff.mp hj).1
  rw [List.length_take] at lj
  rw [List.getElem?_take_of_lt (by omega)] at hj
  exact same j q (by omega) hj
theorem Lot.next {i : RNi} {k : Nat} {g : Str → Str} {p : Str × Str} (l : Lot i k g) (hp : i.es[k]? = some p) : Lot i (k + 1) (joinF (g p.1) (g p.2) g) where
  i1 := fun s hs x hx y hy e => by
    have inn := i.T.inn p (List.mem_of_getElem? hp)
    have tk : i.es.take (k + 1) = i.es.take k ++ [p] := by rw [List.take_add_one, hp]; rfl
    rw [tk] at hs
    have hs1 : ∀ q ∈ i.es.take k, s q.1 = s q.2 := fun q hq => hs q (List.mem_append_left _ hq)
    have sp := hs p (List.mem_append_right _ (List.mem_singleton.mpr rfl))
    have go := l.i1 s hs1
    unfold joinF at e
    by_cases e1 : g x = g p.2
    · have a1 := go x hx _ inn.2.1 e1
      by_cases e2 : g y = g p.2
      · exact a1.trans (go y hy _ inn.2.1 e2).symm
      · rw [if_pos e1, if_neg e2] at e
        exact a1.trans (sp.symm.trans (go _ inn.1 y hy e))
    · by_cases e2 : g y = g p.2
      · rw [if_neg e1, if_pos e2] at e
        exact (go x hx _ inn.1 e).trans (sp.trans (go y hy _ inn.2.1 e2).symm)
      · rw [if_neg e1, if_neg e2] at e
        exact go x hx y hy e
  i2 := fun q hq => by
    rw [List.take_add_one, hp] at hq
    unfold joinF
    rcases List.mem_append.mp hq with z | z
    · rw [l.i2 q z]
    · have z : q = p := by simpa using z
      subst z
      by_cases e : g q.1 = g q.2
      · rw [e]
      · rw [if_neg e, if_pos rfl]
theorem look_lots {g : Str → Str} {y : Str} : ∀ {ks : List Str}, y ∈ ks → lookK (lotsD ks g) (Sum.inr y) = some (.str (g y))
  | [], h => absurd h (by simp)
  | x :: r, h => by
    unfold lookK lotsD dicS
    rw [List.map_cons, List.map_cons, List.find?_cons]
    by_cases e : x = y
    · subst e
      simp
    · have e1 : decide ((Sum.inr x : Key) = Sum.inr y) = false := decide_eq_false fun h => e (Sum.inr.inj h)
      simp only [e1]
      exact look_lots (ks := r) ((List.mem_cons.mp h).resolve_left (Ne.symm e))
theorem ev_dix0 {p : Str × Str} (h : δ[6]? = some (.val (prD2 p))) : Ev K C Ω 0 (dIx K 0) δ (· = .str p.1) := (ev_op1 (ev_var h) ev_int (rv_ixt (d := .str p.1) rfl)).le (by omega)
theorem ev_dix1 {p : Str × Str} (h : δ[6]? = some (.val (prD2 p))) : Ev K C Ω 0 (dIx K 1) δ (· = .str p.2) := (ev_op1 (ev_var h) ev_int (rv_ixt (d := .str p.2) rfl)).le (by omega)
theorem ev_lot {ks : List Str} {g : Str → Str} {y : Str} {te : TE} (h : δ[4]? = some (.oD (lotsD ks g))) (hy : y ∈ ks) (ht : Ev K C Ω 0 te (δ.set 4 (.val (.dic (lotsD ks g)))) (· = .str y)) : Ev K C Ω 0 (tDGet (tVar 4) te) δ (· = .str (g y)) := by
  refine ev_peek (i := 4) (s := .oD (lotsD ks g)) h rfl ?_ fun d e => by rw [e]; rfl
  exact (ev_dget (k := Sum.inr y) (ev_var (i := 4) (d := .dic (lotsD ks g)) (by rw [List.getElem?_set_self (List.getElem?_eq_some_iff.mp h).1]; done)) ht rfl (look_lots hy)).le (by omega)
theorem ev_near_at {rooms : List Str} {as : List Addr} {u : Str} {a : Addr} {te : TE} (h : δ[2]? = some (.val (nearA rooms as))) (ha : (rooms.zip as).lookup u = some a) (ht : Ev K C Ω 0 te δ (· = .str u)) : Ev K C Ω 0 (tDGet (tVar 2) te) δ (· = .adr a) :=
  (ev_dget (k := Sum.inr u) (ev_var h) ht rfl (by rw [look_dicS, ha]; rfl)).le (by omega)
def nbK (i : RNi) (k : Nat) : Str → List Str := nbs (i.es.take k)
theorem nbK_next {i : RNi} {k : Nat} {p : Str × Str} (hp : i.es[k]? = some p) (r : Str) : nbK i (k + 1) r = (if r = p.2 then (if r = p.1 then nbK i k r ++ [p.2] else nbK i k r) ++ [p.1] else if r = p.1 then nbK i k r ++ [p.2] else nbK i k r) := by
  have ne := (i.T.inn p (List.mem_of_getElem? hp)).2.2
  have : nbK i (k + 1) r = nbK i k r ++ sideOf r p := by
    unfold nbK nbs
    rw [List.take_add_one, hp, List.flatMap_append]
    simp
  rw [this]
  unfold sideOf
  by_cases e1 : p.1 = r
  · have e2 : p.2 ≠ r := fun z => ne (e1.trans z.symm)
    rw [if_pos e1, if_neg (Ne.symm e2), if_pos e1.symm]
  · by_cases e2 : p.2 = r
    · rw [if_neg e1, if_pos e2, if_pos e2.symm, if_neg (Ne.symm e1)]
    · rw [if_neg e1, if_neg e2, if_neg (Ne.symm e2), if_neg (Ne.symm e1), List.append_nil]
theorem rn_door {i : RNi} {as : List Addr} {k : Nat} {g : Str → Str} {p : Str × Str} {x3 x5 : Sl} {Pn : List Sl → Ls → Prop} {OO : Out → Ls → Prop} (nda : as.Nodup) (la : as.length = i.rooms.length) (hp : i.es[k]? = some p) (l : Lot i k g)
    (hO : ∀ g', Lot i (k + 1) g' → Pn (sR i (.val (nearA i.rooms as)) x3 (.oD (lotsD i.rooms g')) x5 (.val (prD2 p))) (lsOf i.rooms as (nbK i (k + 1)))) :
    RunL (K := K) (C := C) (Ω := Ω) (tDoorN K C Ω) (sR i (.val (nearA i.rooms as)) x3 (.oD (lotsD i.rooms g)) x5 (.val (prD2 p))) (lsOf i.rooms as (nbK i k)) (thenL Pn OO) := by
  have inn := i.T.inn p (List.mem_of_getElem? hp)
  have fewR := i.few
  have fewD := i.fewD
  obtain ⟨a, ea, ma, za⟩ := look_zip la inn.1
  obtain ⟨b, eb, mb, zb⟩ := look_zip la inn.2.1
  have big : (100 : Nat) < sizeLine := by decide
  have nbl : ∀ (es : List (Str × Str)) (r : Str), (nbs es r).length ≤ es.length := fun es r => by
    induction es with
    | nil => exact Nat.le_refl _
    | cons q t ih =>
      show (sideOf r q ++ nbs t r).length ≤ t.length + 1
      have : (sideOf r q).length ≤ 1 := by
        unfold sideOf
        split
        · exact Nat.le_refl _
        · split
          · exact Nat.le_refl _
          · exact Nat.zero_le _
      rw [List.length_append]
      omega
  have nl : ∀ r, (nbK i k r).length ≤ 30 := fun r => by
    have := nbl (i.es.take k) r
    rw [List.length_take] at this
    unfold nbK
    omega
  have isp : Ev K C Ω 0 (tCall (spIsPair K C Ω) [] C8.E0 (tCons (tVar 2) (tCons (tVar 6) tNil))) (sR i (.val (nearA i.rooms as)) x3 (.oD (lotsD i.rooms g)) x5 (.val (prD2 p))) (· = .bl true) :=
    (ev_callX (cc := fun _ => 0) (A := IP.ds) (Rx := fun _ d => d = .bl true) ⟨i.rooms.zip as, p.1, p.2, by rw [zip_fst la]; exact inn.1, by rw [zip_fst la]; exact inn.2.1⟩ (ea1 (ev_var (i := 2) rfl) (ea1 (ev_var (i := 6) rfl) ea_nil))).le (by omega)
  have g1 : Ev K C Ω 0 (tDGet (tVar 4) (dIx K 0)) (sR i (.val (nearA i.rooms as)) x3 (.oD (lotsD i.rooms g)) x5 (.val (prD2 p))) (· = .str (g p.1)) := ev_lot rfl inn.1 (ev_dix0 rfl)
  have g2 : Ev K C Ω 0 (tDGet (tVar 4) (dIx K 1)) (sR i (.val (nearA i.rooms as)) x3 (.oD (lotsD i.rooms g)) x5 (.val (prD2 p))) (· = .str (g p.2)) := ev_lot rfl inn.2.1 (ev_dix1 rfl)
  refine rn_seq (N := fun δ' L' => δ' = sR i (.val (nearA i.rooms as)) x3 (.oD (lotsD i.rooms g)) x5 (.val (prD2 p)) ∧ L' = lsOf i.rooms as (nbK i k)) (rn_run (P := fun o => o = .nx (sR i (.val (nearA i.rooms as)) x3 (.oD (lotsD i.rooms g)) x5 (.val (prD2 p)))) ((run_if (c1 := 0) (c2 := 0) (c3 := 0) (O := fun o => o = .nx (sR i (.val (nearA i.rooms as)) x3 (.oD (lotsD i.rooms g)) x5 (.val (prD2 p)))) (RT := (· = false)) ((et_or (c1 := 0) (c2 := 0) (RT := (· = false)) (RU := (· = false)) (et_not (et_ofB (isp.imp fun d e => ⟨_, e, rfl⟩))) (fun _ => (et1 (ev_eqS g1 g2)).imp fun b e => ?_) fun e => by cases e).le (by omega)) (fun z => by cases z) fun _ => run_next rfl).le (by omega)) fun o e => ?_) fun δ' L' ⟨e1, e2⟩ => ?_
  · rw [e]
    exact decide_eq_false (l.apart hp)
  · subst e
    exact ⟨rfl, rfl⟩
  subst e1 e2
  have l' := l.next hp
  generalize hg : joinF (g p.1) (g p.2) g = g' at l'
  refine rn_seq (N := fun δ' L' => δ' = sR i (.val (nearA i.rooms as)) x3 (.oD (lotsD i.rooms g')) x5 (.val (prD2 p)) ∧ L' = lsOf i.rooms as (nbK i k)) (rn_run (P := fun o => o = .nx (sR i (.val (nearA i.rooms as)) x3 (.oD (lotsD i.rooms g')) x5 (.val (prD2 p)))) (run_joined (i := 4) rfl i.nd (by omega) g1 g2 (by rw [hg]; rfl)) fun o e => ?_) fun δ' L' ⟨e1, e2⟩ => ?_
  · subst e
    exact ⟨rfl, rfl⟩
  subst e1 e2
  have p1 := lsOf_put (nb := nbK i k) la i.nd nda (v := p.2) za
  refine rn_seq (N := fun δ' L' => δ' = sR i (.val (nearA i.rooms as)) x3 (.oD (lotsD i.rooms g')) x5 (.val (prD2 p)) ∧ L' = lsOf i.rooms as fun r => if r = p.1 then nbK i k r ++ [p.2] else nbK i k r) (rn_app (a := a) (d := .str p.2) (by rw [lsOf_keys la]; exact ma) (fun q hq => ?_) (ev_near_at rfl ea (ev_dix0 rfl)) (ev_dix1 rfl) ⟨rfl, p1⟩) fun δ' L' ⟨e1, e2⟩ => ?_
  · unfold lsOf at hq
    obtain ⟨q0, _, e0⟩ := List.mem_map.mp hq
    rw [← e0, List.length_map]
    have := nl q0.1
    omega
  subst e1 e2
  have p2 := lsOf_put (nb := fun r => if r = p.1 then nbK i k r ++ [p.2] else nbK i k r) la i.nd nda (v := p.1) zb
  refine rn_app (a := b) (d := .str p.1) (by rw [lsOf_keys la]; exact mb) (fun q hq => ?_) (ev_near_at rfl eb (ev_dix1 rfl)) (ev_dix0 rfl) ?_
  · unfold lsOf at hq
    obtain ⟨q0, _, e0⟩ := List.mem_map.mp hq
    rw [← e0, List.length_map]
    have := nl q0.1
    show (if q0.1 = p.1 then nbK i k q0.1 ++ [p.2] else nbK i k q0.1).length < sizeLine
    split
    · rw [List.length_append]
      simp
      omega
    · omega
  · show Pn _ (putL _ b (.str p.1))
    rw [p2]
    have := hO g' l'
    rwa [lsOf_congr (nb := nbK i (k + 1)) (nb' := fun r => if r = p.2 then (if r = p.1 then nbK i k r ++ [p.2] else nbK i k r) ++ [p.1] else if r = p.1 then nbK i k r ++ [p.2] else nbK i k r) fun r => nbK_next hp r] at this
end
end Z
set_option maxRecDepth 100000
set_option maxHeartbeats 1000000
set_option linter.all false
namespace Z
open PySem PySem.Spec
open PyProof.Rows L2 LamX
/-! _rooms_near: the whole of it -/
section
variable {K : PySem.W.Frag} {C : Addr} {Ω : List (Addr × Str)} {δ : List Sl} {O : Out → Prop}
theorem nums_get {xs : List D} {k : Nat} {d x : D} (h : xs[k]? = some d) (hx : (nums xs)[k]? = some x) : x = .tup [.int (k : Nat), d] := by
  unfold nums at hx
  rw [List.getElem?_map] at hx
  obtain ⟨n, hn, e⟩ := Option.map_eq_some_iff.mp hx
  have en : n = k := by
    have := (List.getElem?_eq_some_iff.mp hn).2
    rw [List.getElem_range] at this
    exact this.symm
  subst en
  rw [← e, h]
  rfl
theorem ed_lots {rooms : List Str} {x1 x2 x3 x4 x5 x6 : Sl} (nd : rooms.Nodup) (few : rooms.length ≤ 12) : EvD K C Ω 0 (tDc (iList K (tVar 0)) (gName 3) tYes (tVar 3) (tVar 3) [3]) [.val (strsD rooms), x1, x2, x3, x4, x5, x6] (· = lotsD rooms id) := by
  have dc := ed_dc (K := K) (C := C) (Ω := Ω) (δ := [.val (strsD rooms), x1, x2, x3, x4, x5, x6]) (n := 12) (vs := [3]) (g := gName 3) (tk := tVar 3) (tv := tVar 3) (Pd := fun i acc => acc = lotsD (rooms.take i) id) (xs := rooms.map D.str) (it_list1 (ev_var (i := 0) rfl)) (by rw [List.length_map]; exact few) (by decide) rfl fun i x acc hx hp => by
    subst hp
    rw [List.getElem?_map] at hx
    obtain ⟨y, hy, rfl⟩ := Option.map_eq_some_iff.mp hx
    have li := (List.getElem?_eq_some_iff.mp hy).1
    have ny : y ∉ ((rooms.take i).map fun r => (r, id r)).map (·.1) := fun q => by
      rw [List.map_map] at q
      obtain ⟨r, hr, e⟩ := List.mem_map.mp q
      have e : r = y := e
      subst e
      obtain ⟨j, hj⟩ := List.getElem?_of_mem hr
      have lj := (List.getElem?_eq_some_iff.mp hj).1
      rw [List.length_take] at lj
      rw [List.getElem?_take_of_lt (by omega)] at hj
      have := nd_idx nd hj hy
      omega
    refine ⟨by unfold lotsD dicS; rw [List.length_map, List.length_map, List.length_take]; omega, _, tg_name (.inr (by simp)) (by simp), .str y, Sum.inr y, rfl, ev_var (i := 3) rfl, (ev_var (i := 3) (d := .str y) rfl).imp fun d e => ?_⟩
    rw [e]
    unfold lotsD
    rw [put_dicS, put_new ny, List.take_add_one, hy, List.map_append]
    rfl
  exact dc.imp fun xs e => by rw [e, List.length_map, List.take_length]
theorem run_joinedAll {i : RNi} {g : Str → Str} {x2 x3 x5 x6 : Sl} (l : Lot i i.es.length g) (ne : 0 < i.rooms.length) (hO : ∀ x3, O (.nx (sR i x2 x3 (.oD (lotsD i.rooms g)) x5 x6))) : Run K C Ω 0 (tJoinedAll K) (sR i x2 x3 (.oD (lotsD i.rooms g)) x5 x6) O := by
  have few := i.few
  obtain ⟨r0, rt, er⟩ : ∃ r0 rt, i.rooms = r0 :: rt := by
    cases e : i.rooms with
    | nil => rw [e] at ne; simp at ne
    | cons a b => exact ⟨a, b, rfl⟩
  have m0 : r0 ∈ i.rooms := by rw [er]; exact List.mem_cons_self
  refine (run_for (n := 12) (c2 := 0) (RL := (· = i.rooms.map D.str)) (Pv := fun _ k δ' => ∃ x3, δ' = sR i x2 x3 (.oD (lotsD i.rooms g)) x5 x6) (it_list1 (ev_var (i := 0) rfl)) (fun xs e => by rw [e, List.length_map]; exact few) (fun xs e => ⟨x3, rfl⟩) (fun xs k x δ2 e hx hp => ?_) fun xs δ2 e ⟨y3, hp⟩ => by rw [hp]; exact hO y3).le (by omega)
  subst e
  obtain ⟨y3, rfl⟩ := hp
  rw [List.getElem?_map] at hx
  obtain ⟨y, hy, rfl⟩ := Option.map_eq_some_iff.mp hx
  have ym := List.mem_of_getElem? hy
  refine ⟨_, tf_name, ?_⟩
  have e1 : Ev K C Ω 0 (tDGet (tVar 4) (tVar 3)) (sR i x2 (.val (.str y)) (.oD (lotsD i.rooms g)) x5 x6) (· = .str (g y)) := ev_lot rfl ym (ev_var (i := 3) rfl)
  have e2 : Ev K C Ω 0 (tDGet (tVar 4) (tOp (rIxL K) (tVar 0) (nr 0))) (sR i x2 (.val (.str y)) (.oD (lotsD i.rooms g)) x5 x6) (· = .str (g r0)) := ev_lot rfl m0 (ev_ix0 (xs := rt.map D.str) (ev_var (i := 0) (by show some (Sl.val (strsD i.rooms)) = _; rw [er]; rfl)))
  have all : g y = g r0 := i.T.conn g (fun p hp => l.i2 p (by rw [List.take_length]; exact hp)) y ym r0 m0
  exact (run_if (c1 := 0) (c2 := 0) (c3 := 0) (RT := (· = false)) ((et1 (ev_neS e1 e2)).imp fun b e => by rw [e, all]; simp) (fun z => by cases z) fun _ => run_next ⟨.val (.str y), rfl⟩).le (by omega)
theorem run_nearR {i : RNi} {x1 x3 x4 x5 x6 : Sl} : Run K C Ω 0 (tNearR K) [.val (strsD i.rooms), x1, .val (.dic (dicS (i.rooms.map fun r => (r, (nbs i.es r).map D.str)) D.lst)), x3, x4, x5, x6] (retO (· = .dic (dicS (nearOf i.es i.rooms) strsD))) := by
  have few := i.few
  have fewD := i.fewD
  have dc := ed_dc (K := K) (C := C) (Ω := Ω) (δ := [.val (strsD i.rooms), x1, .val (.dic (dicS (i.rooms.map fun r => (r, (nbs i.es r).map D.str)) D.lst)), x3, x4, x5, x6]) (n := 12) (vs := [3]) (g := gName 3) (tk := tVar 3) (tv := tCB (rSortedS K) (tCons (tDGet (tVar 2) (tVar 3)) tNil)) (Pd := fun k acc => acc = dicS (nearOf i.es (i.rooms.take k)) strsD) (xs := i.rooms.map D.str) (it_list1 (ev_var (i := 0) rfl)) (by rw [List.length_map]; exact few) (by decide) rfl fun k x acc hx hp => by
    subst hp
    rw [List.getElem?_map] at hx
    obtain ⟨y, hy, rfl⟩ := Option.map_eq_some_iff.mp hx
    have ym := List.mem_of_getElem? hy
    have li := (List.getElem?_eq_some_iff.mp hy).1
    have ny : y ∉ (nearOf i.es (i.rooms.take k)).map (·.1) := fun q => by
      unfold nearOf at q
      rw [List.map_map] at q
      obtain ⟨r, hr, e⟩ := List.mem_map.mp q
      have e : r = y := e
      subst e
      obtain ⟨j, hj⟩ := List.getElem?_of_mem hr
      have lj := (List.getElem?_eq_some_iff.mp hj).1
      rw [List.length_take] at lj
      rw [List.getElem?_take_of_lt (by omega)] at hj
      have := nd_idx i.nd hj hy
      omega
    have lk : (i.rooms.map fun r => (r, (nbs i.es r).map D.str)).lookup y = some ((nbs i.es y).map D.str) := by
      have : ∀ {l : List Str}, y ∈ l → (l.map fun r => (r, (nbs i.es r).map D.str)).lookup y = some ((nbs i.es y).map D.str) := fun {l} h => by
        induction l with
        | nil => exact absurd h (by simp)
        | cons x r ih =>
          rw [List.map_cons, List.lookup_cons]
          by_cases e : y = x
          · subst e
            simp
          · have e2 : (y == x) = false := beq_eq_false_iff_ne.mpr e
            simp only [e2]
            exact ih ((List.mem_cons.mp h).resolve_left e)
      exact this ym
    have nbl : (nbs i.es y).length < 64 := by
      rw [← (ssort_perm (nbs i.es y)).length_eq, nbs_besides fun p hp => (i.T.inn p hp).2.2]
      have := besides_len i.es y
      omega
    have gt : Ev K C Ω 0 (tDGet (tVar 2) (tVar 3)) [.val (strsD i.rooms), x1, .val (.dic (dicS (i.rooms.map fun r => (r, (nbs i.es r).map D.str)) D.lst)), .val (.str y), x4, x5, x6] (· = .lst ((nbs i.es y).map D.str)) :=
      (ev_dget (k := Sum.inr y) (ev_var (i := 2) rfl) (ev_var (i := 3) (d := .str y) rfl) rfl (by rw [look_dicS, lk]; rfl)).le (by omega)
    have so : Ev K C Ω 0 (tCB (rSortedS K) (tCons (tDGet (tVar 2) (tVar 3)) tNil)) [.val (strsD i.rooms), x1, .val (.dic (dicS (i.rooms.map fun r => (r, (nbs i.es r).map D.str)) D.lst)), .val (.str y), x4, x5, x6] (· = strsD (besides i.es y)) := (ev_l (el_cb (ea1 gt ea_nil) fun ds e => by
      subst e
      exact rl_sortS nbl)).imp fun d e => by rw [e, nbs_besides fun p hp => (i.T.inn p hp).2.2]; rfl
    refine ⟨by unfold dicS nearOf; rw [List.length_map, List.length_map, List.length_take]; omega, _, tg_name (.inr (by simp)) (by simp), .str y, Sum.inr y, rfl, ev_var (i := 3) rfl, so.imp fun d e => ?_⟩
    rw [e, put_dicS, put_new ny]
    unfold nearOf
    rw [List.take_add_one, hy, List.map_append]
    rfl
  refine run_ret (ev_d (dc.imp fun xs e => ?_)) fun d e => e
  rw [e, List.length_map, List.take_length]
abbrev spRoomsNear (K : PySem.W.Frag) (C : Addr) (Ω : List (Addr × Str)) : Sp := SpX K C Ω (fun _ => 0) (fun i : RNi => [strsD i.rooms, prsD i.es]) fun i d => d = .dic (dicS (nearOf i.es i.rooms) strsD)
theorem run_rooms_near_made (i : RNi) : Run K C Ω 0 (tRoomsNear K C Ω) (startS 7 [strsD i.rooms, prsD i.es]) (retO (· = .dic (dicS (nearOf i.es i.rooms) strsD))) := by
  have few := i.few
  have ne : 0 < i.rooms.length := by
    have := i.T.cnt
    omega
  show Run K C Ω 0 (tRoomsNear K C Ω) (sR i .un .un .un .un .un) _
  refine run_near (rooms := i.rooms) (fun j s e => ?_) rfl (by show 3 < 7; omega) i.nd (by omega) fun as nda la => ?_
  · have lt := (List.getElem?_eq_some_iff.mp e).1
    have lt : j < 7 := lt
    have : ∀ j, j < 7 → ((sR i .un .un .un .un .un)[j]?).all (fun s => !s.own) = true := by
      intro j hj
      match j, hj with
      | 0, _ => rfl
      | 1, _ => rfl
      | 2, _ => rfl
      | 3, _ => rfl
      | 4, _ => rfl
      | 5, _ => rfl
      | 6, _ => rfl
    have := this j lt
    rw [e] at this
    simpa using this
  have e0 : (as.map fun a => (a, []) : Ls) = lsOf i.rooms as (nbK i 0) := by
    unfold lsOf nbK
    rw [← zip_snd la, List.map_map]
    rw [zip_snd la]
    apply List.map_congr_left
    intro p _
    rfl
  rw [e0]
  show RunL _ (sR i (.val (nearA i.rooms as)) .un .un .un .un) _ _
  refine rn_seq (N := fun δ' L' => δ' = sR i (.val (nearA i.rooms as)) .un (.oD (lotsD i.rooms id)) .un .un ∧ L' = lsOf i.rooms as (nbK i 0)) (rn_run (P := fun o => o = .nx (sR i (.val (nearA i.rooms as)) .un (.oD (lotsD i.rooms id)) .un .un)) (run_asgD (ed_lots i.nd few) fun xs e => by rw [e]; rfl) fun o e => ?_) fun δ' L' ⟨e1, e2⟩ => ?_
  · subst e
    exact ⟨rfl, rfl⟩
  subst e1 e2
  refine rn_seq (N := fun δ' L' => δ' = sR i (.val (nearA i.rooms as)) .un (.oD (lotsD i.rooms id)) .un .un ∧ L' = lsOf i.rooms as (nbK i 0)) (rn_run (P := fun o => o = .nx (sR i (.val (nearA i.rooms as)) .un (.oD (lotsD i.rooms id)) .un .un)) ((run_if (c1 := 0) (c2 := 0) (c3 := 0) (O := fun o => o = .nx (sR i (.val (nearA i.rooms as)) .un (.oD (lotsD i.rooms id)) .un .un)) (RT := (· = false)) (et_not (et_ofB ((ev_is_row (j := 1) rfl (.inl rfl)).imp fun d e => ⟨_, e, rfl⟩))) (fun z => by cases z) fun _ => run_next rfl).le (by omega)) fun o e => ?_) fun δ' L' ⟨e1, e2⟩ => ?_
  · subst e
    exact ⟨rfl, rfl⟩
  subst e1 e2
  refine rn_seq (N := fun δ' L' => ∃ x5 x6 g, Lot i i.es.length g ∧ δ' = sR i (.val (nearA i.rooms as)) .un (.oD (lotsD i.rooms g)) x5 x6 ∧ L' = lsOf i.rooms as (nbK i i.es.length))
    (rn_for (n := 0) (Pv := fun k δ' L' => ∃ x5 x6 g, Lot i k g ∧ δ' = sR i (.val (nearA i.rooms as)) .un (.oD (lotsD i.rooms g)) x5 x6 ∧ L' = lsOf i.rooms as (nbK i k)) (xs := nums (i.es.map prD2)) (it_enum (ea1 (ev_var (i := 1) rfl) ea_nil)) ⟨.un, .un, id, Lot.start i, rfl, rfl⟩ (fun k x δ1 L1 hx hp => ?_) fun δ1 L1 hp => ?_) fun δ' L' ⟨x5, x6, g, l, e1, e2⟩ => ?_
  · obtain ⟨x5, x6, g, l, rfl, rfl⟩ := hp
    have lk : k < i.es.length := by
      have := (List.getElem?_eq_some_iff.mp hx).1
      unfold nums at this
      rwa [List.length_map, List.length_range, List.length_map] at this
    obtain ⟨p, hp⟩ : ∃ p, i.es[k]? = some p := ⟨_, List.getElem?_eq_getElem lk⟩
    have ex := nums_get (d := prD2 p) (by rw [List.getElem?_map, hp]; rfl) hx
    subst ex
    refine ⟨_, tf_pair, ?_⟩
    show RunL _ (sR i (.val (nearA i.rooms as)) .un (.oD (lotsD i.rooms g)) (.val (.int (k : Nat))) (.val (prD2 p))) _ _
    exact rn_door nda la hp l fun g' l' => ⟨_, _, g', l', rfl, rfl⟩
  · obtain ⟨x5, x6, g, l, rfl, rfl⟩ := hp
    unfold nums at l ⊢
    rw [List.length_map, List.length_range, List.length_map] at l ⊢
    exact ⟨x5, x6, g, l, rfl, rfl⟩
  · subst e1 e2
    refine rn_seq (N := fun δ' L' => ∃ x3, δ' = sR i (.val (nearA i.rooms as)) x3 (.oD (lotsD i.rooms g)) x5 x6 ∧ L' = lsOf i.rooms as (nbK i i.es.length)) (rn_run (P := fun o => ∃ x3, o = .nx (sR i (.val (nearA i.rooms as)) x3 (.oD (lotsD i.rooms g)) x5 x6)) (run_joinedAll l ne fun x3 => ⟨x3, rfl⟩) fun o ⟨x3, e⟩ => ?_) fun δ' L' ⟨x3, e1, e2⟩ => ?_
    · subst e
      exact ⟨x3, rfl, rfl⟩
    subst e1 e2
    refine rn_keep (i := 2) (rooms := i.rooms) (by rw [lsOf_keys la]; rfl) ?_ (fun δ => ⟨fun z => z, fun z => z⟩) fun δ z => ?_
    · rw [lsOf_snd la]
      have : nbK i i.es.length = nbs i.es := by
        unfold nbK
        rw [List.take_length]
      rw [this]
      exact run_nearR
    · exact absurd z (by intro q; cases q)
end
end Z
set_option maxRecDepth 100000
set_option maxHeartbeats 1000000
set_option linter.all false
namespace Z
open PySem PySem.Spec
open PyProof.Rows L2 LamX
/-! comprehensions with two walks -/
section
variable {K : PySem.W.Frag} {C : Addr} {Ω : List (Addr × Str)} {δ : List Sl} {O : Out → Prop} {wi wi1 : TI} {g g1 : TG} {tt1 : TT} {te : TE}
/-- a list that is being made: its own, new since H -/
structure Mk (W : Wd K C Ω) (G0 H0 G H : Hp) (D9 : Addr) (acc : List D) : Prop where
  st : Stp W 0 G0 H0 G H
  nw : H0 D9 = none
  gn : G D9 = none
  at_ : ∃ ws, H D9 = some (.lst ws) ∧ Dens W G acc ws
theorem Mk.step {W : Wd K C Ω} {F : Addr → Prop} {G0 H0 G H G' H' : Hp} {D9 : Addr} {acc : List D} (k : Mk W G0 H0 G H D9 acc) (o : Ok W F G0 H0) (s : Stp W 0 G H G' H') : Mk W G0 H0 G' H' D9 acc := by
  obtain ⟨ws, h1, h2⟩ := k.at_
  refine ⟨(k.st.trans s).le (by omega), k.nw, none_of_ne fun q => ?_, ws, s.hh _ _ h1 fun hS => W.inn _ _ o.iv hS k.nw, h2.mono s.gg⟩
  rcases s.fr _ q with e | e
  · exact e k.gn
  · rw [h1] at e
    cases e
theorem Mk.add {W : Wd K C Ω} {F : Addr → Prop} {G0 H0 G H : Hp} {D9 : Addr} {acc : List D} {d : D} {v : V} {ws : List V} (k : Mk W G0 H0 G H D9 acc) (o : Ok W F G0 H0) (hw : H D9 = some (.lst ws)) (dd : Den W G d v) : Mk W G0 H0 G (upd H D9 (.lst (ws ++ [v]))) D9 (acc ++ [d]) := by
  obtain ⟨us, h1, h2⟩ := k.at_
  rw [hw] at h1
  cases h1
  exact ⟨k.st.putN o k.nw k.gn (by rw [hw]; intro φ z; cases z), k.nw, k.gn, _, upd_same, h2.snoc dd⟩
/-- what stands is kept, but at D9 -/
structure Ap (W : Wd K C Ω) (D9 : Addr) (G H G' H' : Hp) : Prop where
  gg : Same G G'
  hh : ∀ a o, H a = some o → ¬ W.S a → a ≠ D9 → H' a = some o
  fr : ∀ a, G' a ≠ none → G a ≠ none ∨ H a = none
  dm : ∀ a, H a ≠ none → H' a ≠ none
theorem Ap.refl {W : Wd K C Ω} {D9 : Addr} {G H : Hp} : Ap W D9 G H G H := ⟨fun _ _ z => z, fun _ _ z _ _ => z, fun _ z => .inl z, fun _ z => z⟩
theorem Ap.step {W : Wd K C Ω} {D9 : Addr} {G H G1 H1 G2 H2 : Hp} (a : Ap W D9 G H G1 H1) (s : Stp W 0 G1 H1 G2 H2) : Ap W D9 G H G2 H2 := ⟨fun x u z => s.gg x u (a.gg x u z), fun x u z n d => s.hh x u (a.hh x u z n d) n, fun x z => by
  rcases s.fr x z with w | w
  · exact a.fr x w
  · exact .inr (none_of_ne fun q => a.dm x q w), fun x z => s.dom (a.dm x z)⟩
theorem Ap.put {W : Wd K C Ω} {D9 : Addr} {G H G1 H1 : Hp} {u : HO} (a : Ap W D9 G H G1 H1) : Ap W D9 G H G1 (upd H1 D9 u) := ⟨a.gg, fun x v z n d => by rw [upd_ne d]; exact a.hh x v z n d, a.fr, fun x z => by
  by_cases e : x = D9
  · rw [e, upd_same]
    exact fun q => nomatch q
  · rw [upd_ne e]
    exact a.dm x z⟩
abbrev FD (F : Addr → Prop) (D9 : Addr) : Addr → Prop := fun a => F a ∨ a = D9
theorem Slots.apart {W : Wd K C Ω} {F : Addr → Prop} {D9 : Addr} {G H G' H' : Hp} {σ : L2.St} (s : Slots W (FD F D9) G H σ δ) (o : Ok W F G H) (a : Ap W D9 G H G' H') : Slots W (FD F D9) G' H' σ δ := by
  have kk : ∀ l u, H l = some u → G l = none → ¬ FD F D9 l → H' l = some u ∧ G' l = none := fun l u hl hg hf => by
    refine ⟨a.hh l u hl (fun q => hf (.inl (o.sf l q))) fun q => hf (.inr q), none_of_ne fun q => ?_⟩
    rcases a.fr l q with e | e
    · exact e hg
    · rw [hl] at e
      cases e
  refine ⟨s.len, fun i t e => ?_, s.ne⟩
  have q := s.ok i t e
  cases t with
  | un => trivial
  | val d =>
    obtain ⟨v, e1, h⟩ := q
    exact ⟨v, e1, h.mono a.gg⟩
  | oL xs =>
    obtain ⟨l, vs, e, hl, hg, hf, h⟩ := q
    obtain ⟨x, y⟩ := kk l _ hl hg hf
    exact ⟨l, vs, e, x, y, hf, h.mono a.gg⟩
  | oD xs =>
    obtain ⟨l, vs, e, hl, hg, hf, h⟩ := q
    obtain ⟨x, y⟩ := kk l _ hl hg hf
    exact ⟨l, vs, e, x, y, hf, h.mono a.gg⟩
  | oI p xs =>
    obtain ⟨l, dx, vs, e, ep, hl, hg, hf, h⟩ := q
    obtain ⟨x, y⟩ := kk l _ hl hg hf
    exact ⟨l, dx, vs, e, ep, x, y, hf, h.mono a.gg⟩
theorem Slots.avoid {W : Wd K C Ω} {F : Addr → Prop} {D9 : Addr} {G H : Hp} {σ : L2.St} (s : Slots W F G H σ δ) (h0 : H D9 = none) : Slots W (FD F D9) G H σ δ := by
  have kk : ∀ {l : Addr} {u : HO}, H l = some u → ¬ F l → ¬ FD F D9 l := fun {l u} e f z => z.elim f fun q => by
    rw [q, h0] at e
    cases e
  refine ⟨s.len, fun i t e => ?_, s.ne⟩
  have q := s.ok i t e
  cases t with
  | un => trivial
  | val d => exact q
  | oL xs =>
    obtain ⟨l, vs, e, hl, hg, hf, h⟩ := q
    exact ⟨l, vs, e, hl, hg, kk hl hf, h⟩
  | oD xs =>
    obtain ⟨l, vs, e, hl, hg, hf, h⟩ := q
    exact ⟨l, vs, e, hl, hg, kk hl hf, h⟩
  | oI p xs =>
    obtain ⟨l, dx, vs, e, ep, hl, hg, hf, h⟩ := q
    exact ⟨l, dx, vs, e, ep, hl, hg, kk hl hf, h⟩
theorem Ok.fD {W : Wd K C Ω} {F : Addr → Prop} {D9 : Addr} {G H : Hp} (o : Ok W F G H) (h : H D9 ≠ none) : Ok W (FD F D9) G H := ⟨o.gh, o.iv, o.gs, fun a z => z.elim (o.fd a) fun e => by rw [e]; exact h, fun a z => .inl (o.sf a z)⟩
theorem Mk.ne {W : Wd K C Ω} {G0 H0 G H : Hp} {D9 : Addr} {acc : List D} (k : Mk W G0 H0 G H D9 acc) : H D9 ≠ none := by
  obtain ⟨ws, h1, _⟩ := k.at_
  rw [h1]
  exact fun z => nomatch z
theorem Mk.ap {W : Wd K C Ω} {G0 H0 G H : Hp} {D9 : Addr} {acc : List D} (k : Mk W G0 H0 G H D9 acc) : Ap W D9 G0 H0 G H := ⟨k.st.gg, fun a u z n _ => k.st.hh a u z n, k.st.fr, fun a z => k.st.dom z⟩
theorem el_lc2 {vs vs1 : List Nat} {n1 n2 : Nat} {xs : List D} {ys : D → List D} {p : D → D → Bool} {f : D → D → D} (hI : IterR K C Ω 0 wi δ (· = xs)) (l1 : xs.length ≤ n1) (l2 : ∀ x ∈ xs, (ys x).length ≤ n2) (big : n1 * n2 < sizeLine)
    (hs : ∀ x ∈ xs, ∃ δ2, TgR K C Ω g vs x (wipeS δ vs) δ2 ∧ IterR K C Ω 0 wi1 δ2 (· = ys x) ∧ ∀ y ∈ ys x, ∃ δ3, TgR K C Ω g1 vs1 y (wipeS δ2 vs1) δ3 ∧ EvT K C Ω 0 tt1 δ3 (· = p x y) ∧ (p x y = true → Ev K C Ω 0 te δ3 (· = f x y))) :
    EvL K C Ω 0 (tLc2 wi g tYes wi1 g1 tt1 te vs vs1) δ (· = xs.flatMap fun x => ((ys x).filter (p x)).map (f x)) := fun W F G H σ o s m Q q =>
  hI W F G H σ o s m _ fun J G1 H1 zs st hy hx => by
    subst hx
    intro D9 hD
    have o1 := st.ok o
    have hD0 : H D9 = none := none_of_ne fun z => st.dom z hD
    let T : D → List D := fun x => ((ys x).filter (p x)).map (f x)
    have lenT : ∀ {x j}, (((ys x).take j).filter (p x)).length ≤ j := fun {x j} => Nat.le_trans (List.length_filter_le _ _) (by rw [List.length_take]; omega)
    have start : Mk W G H G1 (upd H1 D9 (.lst [])) D9 [] := ⟨(st.trans (o1.own hD)).le (by omega), hD0, o1.gnone hD, [], upd_same, .nil⟩
    have sD := s.avoid hD0
    refine ⟨fun i m' H' => m' = zs.length - i ∧ i ≤ zs.length ∧ ∃ G', Mk W G H G' H' D9 ((zs.take i).flatMap T) ∧ Same G1 G' ∧ ((zs.take i).flatMap T).length ≤ i * n2, ⟨_, rfl, Nat.zero_le _, G1, start, fun _ _ z => z, Nat.zero_le _⟩, ?_⟩
    rintro i m' H' ⟨rfl, hi, G', mk, sg, hl⟩
    have o' := (mk.st.ok o).fD mk.ne
    obtain ⟨y1, y2⟩ := hy (FD F D9) G' H' sg o' i
    by_cases hlt : i < zs.length
    · have hz : zs[i]? = some zs[i] := List.getElem?_eq_getElem hlt
      have zm : zs[i] ∈ zs := List.getElem_mem hlt
      generalize zs[i] = x at hz zm
      obtain ⟨hgo, hyl⟩ := y1 x hz
      obtain ⟨δ2, ht, hw, hin⟩ := hs x zm
      have tk : (zs.take (i + 1)).flatMap T = (zs.take i).flatMap T ++ T x := by
        rw [List.take_add_one, hz, List.flatMap_append]
        simp
      refine .inr ⟨hgo, fun H2 => ∃ G2, Mk W G H G2 H2 D9 ((zs.take (i + 1)).flatMap T) ∧ Same G1 G2 ∧ ((zs.take (i + 1)).flatMap T).length ≤ (i + 1) * n2, fun H2 ⟨G2, z⟩ => ⟨zs.length - (i + 1), by omega, rfl, hlt, G2, z⟩, fun v H3 hyv => ?_⟩
      obtain ⟨G3, dv, st3⟩ := hyl v H3 hyv
      have mk3 := mk.step o st3
      have o3 := (mk3.st.ok o).fD mk3.ne
      have g3 : Same G1 G3 := fun a u z => st3.gg a u (sg a u z)
      refine ht W (FD F D9) G3 H3 (wipe σ vs) v o3 ((sD.apart o mk3.ap).wipe vs) dv _ fun σ4 s4 ew => ?_
      refine ⟨ew.trans (wipe_wipe σ vs vs fun _ z => z), ?_⟩
      unfold tYes
      simp only [if_true]
      have c3 := mk3.st.ct
      refine hw W (FD F D9) G3 H3 σ4 o3 s4 (by omega) _ fun J1 G4 H4 us st4 hy4 hus => ?_
      have hus : us = ys x := hus
      subst hus
      have mk4 := mk3.step o st4
      have g4 : Same G1 G4 := fun a u z => st4.gg a u (g3 a u z)
      have s4' := s4.step o3 st4
      have nn2 := l2 x zm
      refine ⟨fun j k H5 => k = (ys x).length - j ∧ j ≤ (ys x).length ∧ ∃ G5, Mk W G H G5 H5 D9 ((zs.take i).flatMap T ++ (((ys x).take j).filter (p x)).map (f x)) ∧ Same G4 G5 ∧ Ap W D9 G4 H4 G5 H5, ⟨_, rfl, Nat.zero_le _, G4, by simpa using mk4, fun _ _ z => z, .refl⟩, ?_⟩
      rintro j k H5 ⟨rfl, hj, G5, mk5, g5, st5⟩
      have o5 := (mk5.st.ok o).fD mk5.ne
      obtain ⟨w1, w2⟩ := hy4 (FD F D9) G5 H5 g5 o5 j
      by_cases jlt : j < (ys x).length
      · have hyj : (ys x)[j]? = some (ys x)[j] := List.getElem?_eq_getElem jlt
        have ym : (ys x)[j] ∈ ys x := List.getElem_mem jlt
        generalize (ys x)[j] = y at hyj ym
        obtain ⟨jgo, jyl⟩ := w1 y hyj
        obtain ⟨δ3, h3, htt, hev⟩ := hin y ym
        have tk2 : (((ys x).take (j + 1)).filter (p x)).map (f x) = (((ys x).take j).filter (p x)).map (f x) ++ (([y].filter (p x)).map (f x)) := by
          rw [List.take_add_one, hyj, List.filter_append, List.map_append]
          rfl
        refine .inr ⟨jgo, fun H6 => ∃ G6, Mk W G H G6 H6 D9 ((zs.take i).flatMap T ++ (((ys x).take (j + 1)).filter (p x)).map (f x)) ∧ Same G4 G6 ∧ Ap W D9 G4 H4 G6 H6, fun H6 ⟨G6, z⟩ => ⟨(ys x).length - (j + 1), by omega, rfl, jlt, G6, z⟩, fun v2 H6 hyv2 => ?_⟩
        obtain ⟨G6, dv2, st6⟩ := jyl v2 H6 hyv2
        have mk6 := mk5.step o st6
        have o6 := (mk6.st.ok o).fD mk6.ne
        have st46 := st5.step st6
        refine h3 W (FD F D9) G6 H6 (wipe σ4 vs1) v2 o6 ((s4'.apart (mk4.st.ok o) st46).wipe vs1) dv2 _ fun σ7 s7 ew7 => ?_
        refine ⟨ew7.trans (wipe_wipe σ4 vs1 vs1 fun _ z => z), ?_⟩
        have c6 := mk6.st.ct
        refine htt W (FD F D9) G6 H6 σ7 o6 s7 (by omega) _ fun b G7 H7 st7 hb => ?_
        have mk7 := mk6.step o st7
        have o7 := (mk7.st.ok o).fD mk7.ne
        have st47 := st46.step st7
        have g7 : Same G4 G7 := fun a u z => st7.gg a u (st6.gg a u (g5 a u z))
        have hb : b = p x y := hb
        cases b with
        | true =>
          rw [if_pos rfl]
          have c7 := mk7.st.ct
          refine hev hb.symm W (FD F D9) G7 H7 σ7 o7 (s7.step o6 st7) (by omega) _ fun u G8 H8 d st8 dd hd => ?_
          subst hd
          have mk8 := mk7.step o st8
          obtain ⟨ws, hw8, dw8⟩ := mk8.at_
          refine ⟨ws, hw8, ?_, G8, ?_, fun a u z => st8.gg a u (g7 a u z), (st47.step st8).put⟩
          · rw [← dw8.len, List.length_append, List.length_map]
            have := lenT (x := x) (j := j)
            have : i * n2 + n2 ≤ n1 * n2 := by
              rw [← Nat.succ_mul]
              exact Nat.mul_le_mul_right _ (by omega)
            omega
          · have := mk8.add o hw8 dd
            rw [tk2, List.filter_cons, if_pos hb.symm, ← List.append_assoc]
            exact this
        | false =>
          rw [if_neg Bool.false_ne_true]
          refine ⟨G7, ?_, g7, st47⟩
          rw [tk2, List.filter_cons, if_neg (by rw [← hb]; exact Bool.false_ne_true), List.filter_nil, List.map_nil, List.append_nil]
          exact mk7
      · have ej : j = (ys x).length := by omega
        subst ej
        refine .inl ⟨w2 (Nat.le_refl _), G5, ?_, fun a u z => g5 a u (g4 a u z), ?_⟩
        · rw [tk]
          rw [List.take_length] at mk5
          exact mk5
        · rw [tk, List.length_append, Nat.succ_mul]
          have : (T x).length ≤ n2 := by
            show (((ys x).filter (p x)).map (f x)).length ≤ n2
            rw [List.length_map]
            exact Nat.le_trans (List.length_filter_le _ _) nn2
          omega
    · have ei : i = zs.length := by omega
      subst ei
      rw [List.take_length] at mk
      obtain ⟨ws, hw, dw⟩ := mk.at_
      exact .inl ⟨y2 (Nat.le_refl _), q D9 ws G' H' _ mk.st hD0 mk.gn hw dw rfl⟩
end
end Z
set_option maxRecDepth 100000
set_option maxHeartbeats 1000000
set_option linter.all false
namespace Z
open PySem PySem.Spec
open PyProof.Rows L2 LamX
/-! House.__init__ -/
def doorsOf (es : List (Str × Str)) (rooms : List Str) : List (Str × Str) := rooms.flatMap fun r => ((besides es r).filter fun o => decide (r.cps.toList < o.cps.toList)).map fun o => (r, o)
structure HMk where
  rs : List Str
  es : List (Str × Str)
  nd : rs.Nodup
  nm : ∀ x ∈ rs, x ∈ twelve
  fewD : es.length ≤ 30
  T : Tree rs es
def HMk.rooms (i : HMk) : List Str := ssort i.rs
theorem HMk.pm (i : HMk) : i.rooms.Perm i.rs := ssort_perm i.rs
theorem HMk.few (i : HMk) : i.rs.length ≤ 12 := pigeon i.nd i.nm
def HMk.rn (i : HMk) : RNi := ⟨i.rooms, i.es, i.pm.nodup_iff.mpr i.nd, by rw [i.pm.length_eq]; exact i.few, i.fewD, i.T.perm i.pm⟩
def HMk.h (i : HMk) : Hs := ⟨i.rooms, nearOf i.es i.rooms, doorsOf i.es i.rooms⟩
section
variable {K : PySem.W.Frag} {C : Addr} {Ω : List (Addr × Str)} {δ : List Sl} {O : Out → Prop}
abbrev spBadIx (K : PySem.W.Frag) (C : Addr) (Ω : List (Addr × Str)) (f : Addr) : Sp := SpX K C Ω (fun _ => 0) (fun i : BI => [strsD i.xs, .adr f]) fun _ d => d = .non
def ltS : R2 := fun x y H Q => ∃ i j, x = V.str i ∧ y = V.str j ∧ Q (V.bl (decide (i.cps.toList < j.cps.toList))) H
def isNon : R2 := fun x y H Q => y = V.non ∧ Q (V.bl (decide (x = V.non))) H
def tDoorsE (K : PySem.W.Frag) : TE := tLc2 (iList K (tFld K (tVar 0) (Str.ofString "_rooms"))) (gName 4) tYes (iList K (tDGet (tFld K (tVar 0) (Str.ofString "_near")) (tVar 4))) (gName 5) (tTest (tOp ltS (tVar 4) (tVar 5))) (tTup (tCons (tVar 4) (tCons (tVar 5) tNil))) [4, 5] [5]
def tInit (K : PySem.W.Frag) (C : Addr) (Ω : List (Addr × Str)) (f : Addr) : TS := tSeq (tAsg (tCall (spBadIx K C Ω f) [] C8.E0 (tCons (tVar 1) (tCons (tC (V.ref f)) tNil))) (gName 3))
  (tSeq (tIfS (tAnd (tTest (tOp isNon (tVar 3) (tC V.non))) (tTest (tOp rEq (tCB (rLenV K) (tCons (tVar 1) tNil)) (tC (V.int 0))))) (tAsg (tC (V.int 0)) (gName 3)) tNext)
  (tSeq (tIfS (tTest (tOp tNotN (tVar 3) (tC V.non))) tNever tNext)
  (tSeq (sFld K (tVar 0) (tCB (rSortedS K) (tCons (tVar 1) tNil)) (Str.ofString "_rooms"))
  (tSeq (sFld K (tVar 0) (tCall (spRoomsNear K C Ω) [] C8.E0 (tCons (tFld K (tVar 0) (Str.ofString "_rooms")) (tCons (tVar 2) tNil))) (Str.ofString "_near"))
    (sFld K (tVar 0) (tDoorsE K) (Str.ofString "_doors"))))))
theorem ev_adr {a : Addr} : Ev K C Ω 0 (tC (V.ref a)) δ (· = .adr a) := fun W F G H σ o s m Q q => q _ G H _ o.refl (.adr a) rfl
theorem ev_ltS {ta tb : TE} {x y : Str} (ha : Ev K C Ω 0 ta δ (· = .str x)) (hb : Ev K C Ω 0 tb δ (· = .str y)) : Ev K C Ω 0 (tOp ltS ta tb) δ (· = .bl (decide (x.cps.toList < y.cps.toList))) :=
  (ev_op1 ha hb fun W F G H v w o da db Q q => by
    cases da
    cases db
    exact ⟨x, y, rfl, rfl, q _ G H _ o.refl (.bl _) rfl⟩).le (by omega)
theorem el_doors {i : HMk} (hk : HouseK K C) {p : Addr} {x1 x2 x3 x4 x5 : Sl} :
    EvL K C Ω 0 (tDoorsE K) [.oI p [("_rooms", strsD i.rooms), ("_near", .dic (dicS (nearOf i.es i.rooms) strsD))], x1, x2, x3, x4, x5] (· = (doorsOf i.es i.rooms).map prD2) := by
  have few := i.few
  have fewD := i.fewD
  have lr : i.rooms.length ≤ 12 := by rw [i.pm.length_eq]; exact few
  have two : (2 : Nat) ≤ sizeLine := by decide
  have el := el_lc2 (K := K) (C := C) (Ω := Ω) (δ := [.oI p [("_rooms", strsD i.rooms), ("_near", .dic (dicS (nearOf i.es i.rooms) strsD))], x1, x2, x3, x4, x5]) (vs := [4, 5]) (vs1 := [5]) (n1 := 12) (n2 := 60) (xs := i.rooms.map D.str)
    (wi := iList K (tFld K (tVar 0) (Str.ofString "_rooms"))) (g := gName 4) (wi1 := iList K (tDGet (tFld K (tVar 0) (Str.ofString "_near")) (tVar 4))) (g1 := gName 5) (tt1 := tTest (tOp ltS (tVar 4) (tVar 5))) (te := tTup (tCons (tVar 4) (tCons (tVar 5) tNil)))
    (ys := fun d => match d with
      | .str r => (besides i.es r).map D.str
      | _ => []) (p := fun x y => match x, y with
      | .str r, .str o => decide (r.cps.toList < o.cps.toList)
      | _, _ => false) (f := fun x y => .tup [x, y])
    (it_list1 (ev_fldO (i := 0) (p := p) rfl hk.cl hk.r rfl)) (by rw [List.length_map]; exact lr) (fun x hx => by
      obtain ⟨r, hr, rfl⟩ := List.mem_map.mp hx
      show ((besides i.es r).map D.str).length ≤ 60
      rw [List.length_map]
      have := besides_len i.es r
      omega) (by decide) fun x hx => by
      obtain ⟨r, hr, rfl⟩ := List.mem_map.mp hx
      refine ⟨_, tg_name (.inr (by simp)) (by simp), it_list1 ?_, fun y hy => ?_⟩
      · exact (ev_dget (k := Sum.inr r) (ev_fldO (i := 0) (p := p) rfl hk.cl hk.n rfl) (ev_var (i := 4) (d := .str r) rfl) rfl (by rw [look_dicS, look_near hr]; rfl)).le (by omega)
      · obtain ⟨o, ho, rfl⟩ := List.mem_map.mp hy
        refine ⟨_, tg_name (.inr (by simp)) (by simp), et1 (ev_ltS (ev_var (i := 4) (d := .str r) rfl) (ev_var (i := 5) (d := .str o) rfl)), fun _ => ?_⟩
        exact (ev_tup1 (ea1 (ev_var (i := 4) (d := .str r) rfl) (ea1 (ev_var (i := 5) (d := .str o) rfl) ea_nil)) two).le (by omega)
  refine el.imp fun xs e => ?_
  rw [e]
  unfold doorsOf
  rw [List.map_flatMap, List.flatMap_map]
  congr 1
  funext r
  show (((besides i.es r).map D.str).filter _).map _ = _
  rw [List.filter_map, List.map_map, List.map_map]
  rfl
abbrev spInit (K : PySem.W.Frag) (C : Addr) (Ω : List (Addr × Str)) : Sp := SpI K C Ω 0 (fun ds => ∃ i : HMk, ds = [strsD i.rs, prsD i.es]) fun ds fs => ∀ i : HMk, ds = [strsD i.rs, prsD i.es] → fs = i.h.fs
theorem run_house_init (hk : HouseK K C) {f p : Addr} (i : HMk) : Run K C Ω 0 (tInit K C Ω f) (.oI p [] :: startS 5 [strsD i.rs, prsD i.es]) (initO p fun fs => fs = i.h.fs) := by
  have few := i.few
  show Run K C Ω 0 (tInit K C Ω f) [.oI p [], .val (strsD i.rs), .val (prsD i.es), .un, .un, .un] _
  refine (row_asg1 (c1 := 0) (c2 := 0) (d := .non) ((ev_callX (cc := fun _ => 0) (A := fun i : BI => [strsD i.xs, .adr f]) (Rx := fun _ d => d = .non) ⟨i.rs, i.nd, i.nm⟩ (ea1 (ev_var (i := 1) rfl) (ea1 ev_adr ea_nil))).le (by omega)) ?_).le (by omega)
  show Run K C Ω 0 _ [.oI p [], .val (strsD i.rs), .val (prsD i.es), .val .non, .un, .un] _
  have len : Ev K C Ω 0 (tCB (rLenV K) (tCons (tVar 1) tNil)) [.oI p [], .val (strsD i.rs), .val (prsD i.es), .val .non, .un, .un] (· = .int i.rs.length) := (ev_lenL (i := 1) rfl).imp fun d e => by rw [e, List.length_map]
  have ne : 0 < i.rs.length := by
    have := i.T.cnt
    omega
  have eq : Ev K C Ω 0 (tOp rEq (tCB (rLenV K) (tCons (tVar 1) tNil)) (tC (V.int 0))) [.oI p [], .val (strsD i.rs), .val (prsD i.es), .val .non, .un, .un] (· = .bl false) := ((ev_op1 len ev_int (rv_eq rfl rfl rfl)).imp fun d e => by
    rw [e]
    congr 1
    exact decide_eq_false fun z => by
      have := V.int.inj z
      omega).le (by omega)
  refine (run_seq (c1 := 0) (c2 := 0) (N := fun δ' => δ' = [.oI p [], .val (strsD i.rs), .val (prsD i.es), .val .non, .un, .un]) ((run_if (c1 := 0) (c2 := 0) (c3 := 0) (O := thenO (fun δ' => δ' = [.oI p [], .val (strsD i.rs), .val (prsD i.es), .val .non, .un, .un]) (initO p fun fs => fs = i.h.fs)) (RT := (· = false)) ((et_and (c1 := 0) (c2 := 0) (RT := (· = true)) (RU := (· = false)) (et_of ((ev_op1 (c1 := 0) (c2 := 0) (ev_var (i := 3) (d := .non) rfl) ev_non (rv_isN (K := K) (C := C) (Ω := Ω) (a := .non))).imp fun d ⟨k, e, h⟩ => ⟨k, e, h.mpr rfl⟩)) (fun _ => et1 eq) fun e => by cases e).le (by omega)) (fun z => by cases z) fun _ => run_next rfl).le (by omega)) fun δ' e => ?_).le (by omega)
  subst e
  refine (run_seq (c1 := 0) (c2 := 0) (N := fun δ' => δ' = [.oI p [], .val (strsD i.rs), .val (prsD i.es), .val .non, .un, .un]) ((run_if (c1 := 0) (c2 := 0) (c3 := 0) (O := thenO (fun δ' => δ' = [.oI p [], .val (strsD i.rs), .val (prsD i.es), .val .non, .un, .un]) (initO p fun fs => fs = i.h.fs)) (RT := (· = false)) ((et_of ((ev_op1 (c1 := 0) (c2 := 0) (ev_var (i := 3) (d := .non) rfl) ev_non (rv_notN (K := K) (C := C) (Ω := Ω) (a := .non))).imp fun d ⟨k, e, h⟩ => ⟨k, e, ?_⟩)).le (by omega)) (fun z => by cases z) fun _ => run_next rfl).le (by omega)) fun δ' e => ?_).le (by omega)
  · cases k with
    | false => rfl
    | true => exact absurd rfl (h.mp rfl)
  subst e
  have srt : Ev K C Ω 0 (tCB (rSortedS K) (tCons (tVar 1) tNil)) [.oI p [], .val (strsD i.rs), .val (prsD i.es), .val .non, .un, .un] (· = strsD i.rooms) := ev_l (el_cb (ea1 (ev_var (i := 1) rfl) ea_nil) fun ds e => by
    subst e
    exact rl_sortS (by omega))
  refine (run_seq (c1 := 0) (c2 := 0) (N := fun δ' => δ' = [.oI p [("_rooms", strsD i.rooms)], .val (strsD i.rs), .val (prsD i.es), .val .non, .un, .un]) (run_fldO (i := 0) (p := p) rfl hk.cl hk.r (by show 0 < 1000; omega) srt fun d e => by rw [e]; rfl) fun δ' e => ?_).le (by omega)
  subst e
  have nr : Ev K C Ω 0 (tCall (spRoomsNear K C Ω) [] C8.E0 (tCons (tFld K (tVar 0) (Str.ofString "_rooms")) (tCons (tVar 2) tNil))) [.oI p [("_rooms", strsD i.rooms)], .val (strsD i.rs), .val (prsD i.es), .val .non, .un, .un] (· = .dic (dicS (nearOf i.es i.rooms) strsD)) :=
    (ev_callX (cc := fun _ => 0) (A := fun i : RNi => [strsD i.rooms, prsD i.es]) (Rx := fun i d => d = .dic (dicS (nearOf i.es i.rooms) strsD)) i.rn (ea1 (ev_fldO (i := 0) (p := p) rfl hk.cl hk.r rfl) (ea1 (ev_var (i := 2) rfl) ea_nil))).le (by omega)
  refine (run_seq (c1 := 0) (c2 := 0) (N := fun δ' => δ' = [.oI p [("_rooms", strsD i.rooms), ("_near", .dic (dicS (nearOf i.es i.rooms) strsD))], .val (strsD i.rs), .val (prsD i.es), .val .non, .un, .un]) (run_fldO (i := 0) (p := p) rfl hk.cl hk.n (by show 1 < 1000; omega) nr fun d e => by rw [e]; rfl) fun δ' e => ?_).le (by omega)
  subst e
  refine run_fldO (i := 0) (p := p) rfl hk.cl hk.d (by show 2 < 1000; omega) (ev_l (el_doors hk)) fun d e => ?_
  rw [e]
  exact ⟨_, rfl, rfl⟩
end
end Z
set_option maxRecDepth 100000
set_option maxHeartbeats 1000000
set_option linter.all false
namespace Z
open PySem PySem.Spec
open PyProof.Rows L2 LamX
/-! two lists at once; whether two things are the same: lists of one truth -/
section
variable {K : PySem.W.Frag} {C : Addr} {Ω : List (Addr × Str)} {δ : List Sl} {O : Out → Prop} {c : Nat}
def zipD (xs ys : List D) : List D := (xs.zip ys).map fun p => .tup [p.1, p.2]
theorem it_zip {tA : TA} {xs ys : List D} (h : EvA K C Ω c tA δ (· = [.lst xs, .lst ys])) : IterR K C Ω c (iZip K tA) δ (· = zipD xs ys) := fun W F G H σ o s m Q q =>
  h W F G H σ o s m _ fun vs G1 H1 ds st dd e => by
    subst e
    obtain ⟨u, v, rfl, du, dv⟩ := d2 dd
    cases du with
    | @lst a as _ a1 a2 => cases dv with
      | @lst b bs _ b1 b2 =>
        refine ⟨a, b, as, bs, rfl, .inl (.inl (st.gh _ _ a1)), .inl (.inl (st.gh _ _ b1)), q _ G1 H1 _ st (fun F2 G2 H2 e o2 i => ?_) rfl⟩
        have ha : SqL K H2 a as := .inl (.inl (o2.gh _ _ (e _ _ a1)))
        have hb : SqL K H2 b bs := .inl (.inl (o2.gh _ _ (e _ _ b1)))
        have la := a2.len
        have lb := b2.len
        refine ⟨fun d hd => ?_, fun hl => ?_⟩
        · unfold zipD at hd
          rw [List.getElem?_map] at hd
          obtain ⟨⟨x, y⟩, hz, rfl⟩ := Option.map_eq_some_iff.mp hd
          obtain ⟨hx, hy⟩ := List.getElem?_zip_eq_some.mp hz
          obtain ⟨x', hx', dx⟩ := (a2.mono e).get hx
          obtain ⟨y', hy', dy⟩ := (b2.mono e).get hy
          refine ⟨⟨as, bs, x', y', ha, hb, hx', hy'⟩, fun w H3 hyl => ?_⟩
          obtain ⟨T, x2, y2, rfl, hT, rfl, h1, h2⟩ := hyl
          have e1 := h1 _ ha
          have e2 := h2 _ hb
          rw [hx'] at e1
          rw [hy'] at e2
          cases e1
          cases e2
          have st2 := o2.new (o := .tup [x', y']) hT
          exact ⟨_, .tup (.inl (.inl upd_same)) (.cons (dx.mono st2.gg) (.cons (dy.mono st2.gg) .nil)), st2⟩
        · refine ⟨as, bs, ha, hb, ?_⟩
          unfold zipD at hl
          rw [List.length_map, List.length_zip] at hl
          omega
/-! same -/
def tSame (K : PySem.W.Frag) (sp : Sp) : TS := tSeq (tIfS (tB (tCB (rIsiT K) (tCons (tVar 1) (tCons (tTup (tCons (tC (V.ty "list")) (tCons (tC (V.ty "tuple")) tNil))) tNil))))
    (tSeq (tIfS (tOr (tTest (tOp rNe (tCB (rIsi K) (tCons (tVar 0) (tCons (tC (V.ty "list")) tNil))) (tCB (rIsi K) (tCons (tVar 1) (tCons (tC (V.ty "list")) tNil)))))
        (tTest (tOp rNe (tCB (rIsi K) (tCons (tVar 0) (tCons (tC (V.ty "tuple")) tNil))) (tCB (rIsi K) (tCons (tVar 1) (tCons (tC (V.ty "tuple")) tNil)))))) (tRet (tC (V.bl false))) tNext)
      (tRet (tAndV (tOp rEq (tCB (rLenV K) (tCons (tVar 0) tNil)) (tCB (rLenV K) (tCons (tVar 1) tNil)))
        (tCB (rAll K) (tCons (tLc (iZip K (tCons (tVar 0) (tCons (tVar 1) tNil))) (gTup K 2 (gCons (gName 2) (gCons (gName 3) gNil))) tYes (tCall sp [] C8.E0 (tCons (tVar 2) (tCons (tVar 3) tNil))) [2, 3]) tNil))))) tNext)
  (tSeq (tIfS (tB (tCB (rIsi K) (tCons (tVar 1) (tCons (tC (V.ty "dict")) tNil)))) (tRet (tAndV (tCB (rIsi K) (tCons (tVar 0) (tCons (tC (V.ty "dict")) tNil))) (tCall sp [] C8.E0 (tCons (tLiR (tVar 0)) (tCons (tLiR (tVar 1)) tNil))))) tNext)
  (tSeq (tIfS (tB (tCB (rIsi K) (tCons (tVar 1) (tCons (tC (V.ty "int")) tNil)))) (tRet (tAndV (tCB (rIsi K) (tCons (tVar 0) (tCons (tC (V.ty "int")) tNil)))
      (tAndV (tOp rEq (tCB (rIsi K) (tCons (tVar 0) (tCons (tC (V.ty "bool")) tNil))) (tCB (rIsi K) (tCons (tVar 1) (tCons (tC (V.ty "bool")) tNil)))) (tOp (rEqD K) (tVar 0) (tVar 1))))) tNext)
    (tRet (tAndV (tNotV (tCB (rIsiT K) (tCons (tVar 0) (tCons (tTup (tCons (tC (V.ty "int")) (tCons (tC (V.ty "list")) (tCons (tC (V.ty "tuple")) (tCons (tC (V.ty "dict")) tNil))))) tNil)))) (tOp (rEqD K) (tVar 0) (tVar 1))))))
abbrev spSameB (K : PySem.W.Frag) (C : Addr) (Ω : List (Addr × Str)) : Sp := SpX K C Ω (fun _ => 0) (fun i : Bool × Bool => [.bl i.1, .bl i.2]) fun i d => d = .bl (decide (i.1 = i.2))
abbrev spSameL (K : PySem.W.Frag) (C : Addr) (Ω : List (Addr × Str)) : Sp := SpX K C Ω (fun _ => 0) (fun i : Bool × Bool => [.lst [.bl i.1], .lst [.bl i.2]]) fun i d => d = .bl (decide (i.1 = i.2))
theorem ev_eqB {ta tb : TE} {a b : Bool} (ha : Ev K C Ω 0 ta δ (· = .bl a)) (hb : Ev K C Ω 0 tb δ (· = .bl b)) : Ev K C Ω 0 (tOp rEq ta tb) δ (· = .bl (decide (a = b))) :=
  ((ev_op1 ha hb (rv_eq rfl rfl rfl)).imp fun d e => by
    rw [e]
    congr 1
    exact decide_eq_decide.mpr ⟨fun q => V.bl.inj q, fun q => by rw [q]⟩).le (by omega)
theorem ev_neB {ta tb : TE} {a b : Bool} (ha : Ev K C Ω 0 ta δ (· = .bl a)) (hb : Ev K C Ω 0 tb δ (· = .bl b)) : Ev K C Ω 0 (tOp rNe ta tb) δ (· = .bl (!decide (a = b))) :=
  ((ev_op1 ha hb (rv_ne rfl rfl rfl)).imp fun d e => by
    rw [e]
    congr 2
    exact decide_eq_decide.mpr ⟨fun q => V.bl.inj q, fun q => by rw [q]⟩).le (by omega)
theorem rv_eqDB {a b : Bool} : RV K C Ω (rEqD K) (.bl a) (.bl b) (· = .bl (decide (a = b))) := fun W F G H v w o da db Q q => by
  cases da
  cases db
  refine ⟨_, _, .bl a, .bl b, rfl, rfl, q _ G H _ o.refl (.bl _) ?_⟩
  cases a <;> cases b <;> rfl
theorem run_same_b {sp : Sp} (a b : Bool) : Run K C Ω 0 (tSame K sp) (startS 4 [.bl a, .bl b]) (retO (· = .bl (decide (a = b)))) := by
  show Run K C Ω 0 (tSame K sp) [.val (.bl a), .val (.bl b), .un, .un] _
  have v0 : Ev K C Ω 0 (tVar 0) [.val (.bl a), .val (.bl b), .un, .un] (· = .bl a) := ev_var rfl
  have v1 : Ev K C Ω 0 (tVar 1) [.val (.bl a), .val (.bl b), .un, .un] (· = .bl b) := ev_var rfl
  refine (row_if (c1 := 0) (c2 := 0) (c3 := 0) (N := fun δ' => δ' = [.val (.bl a), .val (.bl b), .un, .un]) (RT := (· = false)) (et1B (ev_isi2 v1 rfl (k1 := false) (k2 := false) rfl rfl)) (fun z => by cases z) (fun _ => rfl) fun δ' e => ?_).le (by omega)
  subst e
  refine (row_if (c1 := 0) (c2 := 0) (c3 := 0) (N := fun δ' => δ' = [.val (.bl a), .val (.bl b), .un, .un]) (RT := (· = false)) (et1B (ev_isi v1 rfl (k := false) rfl)) (fun z => by cases z) (fun _ => rfl) fun δ' e => ?_).le (by omega)
  subst e
  refine (row_if (c1 := 0) (c2 := 0) (c3 := 0) (N := fun _ => False) (RT := (· = true)) (et1B (ev_isi v1 rfl (k := true) rfl)) (fun _ => run_ret (R := fun d => ∃ k, d = .bl k ∧ k = decide (a = b)) ?_ fun d ⟨k, e, ek⟩ => by rw [e, ek]; rfl) (fun z => by cases z) fun δ' z => z.elim).le (by omega)
  refine (ev_and (c1 := 0) (c2 := 0) (RT := (· = true)) (RU := (· = decide (a = b))) ((ev_isi v0 rfl (k := true) rfl).imp fun d e => ⟨_, e, rfl⟩) (fun _ => ?_) fun e => by cases e).le (by omega)
  refine (ev_and (c1 := 0) (c2 := 0) (RT := (· = true)) (RU := (· = decide (a = b))) ((ev_eqB (ev_isi v0 rfl (k := true) rfl) (ev_isi v1 rfl (k := true) rfl)).imp fun d e => ⟨_, e, rfl⟩) (fun _ => ?_) fun e => by cases e).le (by omega)
  exact ((ev_op1 v0 v1 rv_eqDB).imp fun d e => ⟨_, e, rfl⟩).le (by omega)
theorem run_same_l (a b : Bool) : Run K C Ω 0 (tSame K (spSameB K C Ω)) (startS 4 [.lst [.bl a], .lst [.bl b]]) (retO (· = .bl (decide (a = b)))) := by
  show Run K C Ω 0 (tSame K (spSameB K C Ω)) [.val (.lst [.bl a]), .val (.lst [.bl b]), .un, .un] _
  have v0 : Ev K C Ω 0 (tVar 0) [.val (.lst [.bl a]), .val (.lst [.bl b]), .un, .un] (· = .lst [.bl a]) := ev_var rfl
  have v1 : Ev K C Ω 0 (tVar 1) [.val (.lst [.bl a]), .val (.lst [.bl b]), .un, .un] (· = .lst [.bl b]) := ev_var rfl
  refine (row_if (c1 := 0) (c2 := 0) (c3 := 0) (N := fun _ => False) (RT := (· = true)) (et1B (ev_isi2 v1 rfl (k1 := true) (k2 := false) rfl rfl)) (fun _ => ?_) (fun z => by cases z) fun δ' z => z.elim).le (by omega)
  refine (row_guard (c1 := 0) (c2 := 0) (c3 := 0) (RT := (· = false)) ((et_or (c1 := 0) (c2 := 0) (RT := (· = false)) (RU := (· = false)) (et1 (ev_neB (ev_isi v0 rfl (k := true) rfl) (ev_isi v1 rfl (k := true) rfl))) (fun _ => et1 (ev_neB (ev_isi v0 rfl (k := false) rfl) (ev_isi v1 rfl (k := false) rfl))) fun e => by cases e).le (by omega)) (fun z => by cases z) fun _ => ?_).le (by omega)
  refine run_ret (R := fun d => ∃ k, d = .bl k ∧ k = decide (a = b)) ?_ fun d ⟨k, e, ek⟩ => by rw [e, ek]; rfl
  have ln : Ev K C Ω 0 (tOp rEq (tCB (rLenV K) (tCons (tVar 0) tNil)) (tCB (rLenV K) (tCons (tVar 1) tNil))) [.val (.lst [.bl a]), .val (.lst [.bl b]), .un, .un] (· = .bl true) := ((ev_op1 (ev_lenL (i := 0) rfl) (ev_lenL (i := 1) rfl) (rv_eq rfl rfl rfl)).imp fun d e => by rw [e]; simp).le (by omega)
  refine (ev_and (c1 := 0) (c2 := 0) (RT := (· = true)) (RU := (· = decide (a = b))) (ln.imp fun d e => ⟨_, e, rfl⟩) (fun _ => ?_) fun e => by cases e).le (by omega)
  refine ((ev_all_map (fun d => match d with
    | .tup [.bl x, .bl y] => decide (x = y)
    | _ => false) (it_zip (xs := [.bl a]) (ys := [.bl b]) (ea1 v0 (ea1 v1 ea_nil))) (by show 1 ≤ 1000; omega) fun x hx => ?_).imp fun d e => ⟨_, e, ?_⟩).le (by omega)
  · have hx : x = .tup [.bl a, .bl b] := by simpa [zipD] using hx
    subst hx
    refine ⟨_, tg_pair (by simp) (by simp), ?_⟩
    exact (ev_callX (cc := fun _ => 0) (A := fun i : Bool × Bool => [.bl i.1, .bl i.2]) (Rx := fun i d => d = .bl (decide (i.1 = i.2))) (a, b) (ea1 (ev_var (i := 2) rfl) (ea1 (ev_var (i := 3) rfl) ea_nil))).le (by omega)
  · show (zipD [.bl a] [.bl b]).all _ = _
    unfold zipD
    simp
end
end Z
set_option maxRecDepth 100000
set_option maxHeartbeats 1000000
set_option linter.all false
namespace Z
open PySem PySem.Spec
open PyProof.Rows L2 LamX
/-! a turn of the law: what stands behind its things -/
theorem strs_ok : ∀ x ∈ twelve, PyData.strOk x = true := by decide +kernel
structure Turn6 where
  rs : List Str
  es : List (Str × Str)
  nd : rs.Nodup
  nm : ∀ x ∈ rs, x ∈ twelve
  l1 : 1 ≤ rs.length
  l5 : rs.length ≤ 5
  T : Tree rs es
  w : Fi
  mo : Int
  m3 : mo ≤ 3
  wk : w.map (·.1) = ssort rs
  wv : ∀ p ∈ w, 1 ≤ p.2 ∧ p.2 ≤ mo
namespace Turn6
variable (t : Turn6)
theorem fewD : t.es.length ≤ 30 := by
  have := t.T.cnt
  have := t.l5
  omega
def hmk : HMk := ⟨t.rs, t.es, t.nd, t.nm, t.fewD, t.T⟩
def h : Hs := t.hmk.h
theorem rooms_eq : t.h.rooms = ssort t.rs := rfl
theorem pm : t.h.rooms.Perm t.rs := ssort_perm t.rs
theorem mem {x : Str} : x ∈ t.h.rooms ↔ x ∈ t.rs := t.pm.mem_iff
theorem len : t.h.rooms.length = t.rs.length := t.pm.length_eq
theorem ndr : t.h.rooms.Nodup := t.pm.nodup_iff.mpr t.nd
theorem TT : Tree t.h.rooms t.es := t.T.perm t.pm
theorem near_keys : t.h.near.map (·.1) = t.h.rooms := by
  show (nearOf t.es t.h.rooms).map (·.1) = _
  unfold nearOf
  rw [List.map_map]
  exact (List.map_congr_left fun _ _ => rfl).trans (List.map_id _)
theorem near_at {x : Str} (hx : x ∈ t.h.rooms) : t.h.near.lookup x = some (besides t.es x) := look_near hx
theorem near_of {x : Str} {ns : List Str} (e : t.h.near.lookup x = some ns) : x ∈ t.h.rooms ∧ ns = besides t.es x := by
  have hx : x ∈ t.h.rooms := by
    rw [← t.near_keys]
    exact look_mem.mp (by rw [e]; rfl)
  rw [t.near_at hx] at e
  cases e
  exact ⟨hx, rfl⟩
theorem adj_in {x y : Str} (a : Adj t.es x y) : x ∈ t.h.rooms ∧ y ∈ t.h.rooms := by
  rcases a with a | a
  · exact ⟨(t.TT.inn _ a).1, (t.TT.inn _ a).2.1⟩
  · exact ⟨(t.TT.inn _ a).2.1, (t.TT.inn _ a).1⟩
theorem ok : HsOk t.h where
  near := ⟨fun x hx => ⟨_, t.near_at hx, by
    have := besides_len t.es x
    have := t.fewD
    omega, fun y hy => (t.adj_in (besides_mem.mp hy)).2⟩, by rw [t.len]; have := t.l5; omega⟩
  keys := t.near_keys
  nd := t.ndr
  ne := by rw [t.len]; have := t.l1; omega
theorem closed {S : Str → Prop} {z : Str} (hz : z ∈ t.h.rooms) (sz : S z) (cl : ∀ x y, S x → Adj t.es x y → S y) : ∀ x ∈ t.h.rooms, S x := t.TT.closed hz sz cl
theorem conn : Conn t.h := fun S ⟨z, hz, sz⟩ cl => t.closed hz sz fun x y sx a => cl x _ sx (t.near_at (t.adj_in a).1) y (besides_mem.mpr a)
theorem hd : Hd t.es t.h where
  ok := t.ok
  cn := t.conn
  adj1 := fun b ns e y hy => by
    rw [(t.near_of e).2] at hy
    exact besides_mem.mp hy
  adj2 := fun b y a => ⟨_, t.near_at (t.adj_in a).1, besides_mem.mpr a⟩
  cnt := t.TT.cnt
  inn := fun p hp => ⟨(t.TT.inn p hp).1, (t.TT.inn p hp).2.1⟩
theorem wmem {x : Str} : x ∈ t.w.map (·.1) ↔ x ∈ t.h.rooms := by rw [t.wk]; exact Iff.rfl
theorem wnd : (t.w.map (·.1)).Nodup := by rw [t.wk]; exact t.ndr
theorem wlen : t.w.length = t.h.rooms.length := by
  have := congrArg List.length t.wk
  rwa [List.length_map] at this
theorem val_mem {f : Fi} {x : Str} (h : x ∈ f.map (·.1)) : ∃ p ∈ f, p.1 = x ∧ p.2 = valF f x ∧ f.lookup x = some (valF f x) := by
  unfold valF
  induction f with
  | nil => simp at h
  | cons p r ih =>
    rw [List.lookup_cons]
    by_cases e : x = p.1
    · have e2 : (x == p.1) = true := beq_iff_eq.mpr e
      simp only [e2]
      exact ⟨p, List.mem_cons_self, e.symm, rfl, rfl⟩
    · have e2 : (x == p.1) = false := beq_eq_false_iff_ne.mpr e
      simp only [e2]
      obtain ⟨q, hq, a, b, c⟩ := ih ((List.mem_cons.mp h).resolve_left e)
      exact ⟨q, List.mem_cons_of_mem _ hq, a, b, c⟩
theorem pos {x : Str} (hx : x ∈ t.w.map (·.1)) : 1 ≤ valF t.w x ∧ valF t.w x ≤ 3 := by
  obtain ⟨p, hp, _, e, _⟩ := val_mem hx
  have := t.wv p hp
  have := t.m3
  rw [← e]
  omega
theorem all_of {f : Fi} (l : f.length = t.h.rooms.length) (k : ∀ x ∈ t.h.rooms, x ∈ f.map (·.1)) : AllOf t.h f := ⟨l, fun p hp => look_mem.mpr (k p.1 (by rw [← t.near_keys]; exact List.mem_map.mpr ⟨p, hp, rfl⟩))⟩
def hm : HM := ⟨t.h, t.w, t.ok, t.all_of t.wlen fun x hx => t.wmem.mpr hx⟩
def hw : HW := ⟨t.hm, fun x v hx e => by
  have hx' : x ∈ t.w.map (·.1) := t.wmem.mpr hx
  obtain ⟨_, _, _, _, e2⟩ := val_mem hx'
  have e : t.w.lookup x = some v := e
  rw [e] at e2
  cases Option.some.inj e2
  exact (t.pos hx').1⟩
def hal (first : Str) (hour : Int) (hf : first ∈ t.rs) : HAl where
  ds := t.es
  w := t.w
  first := first
  hour := hour
  nd := t.wnd
  few := t.fewD
  fewW := by rw [t.wlen, t.len]; exact t.l5
  hf := t.wmem.mpr (t.mem.mpr hf)
  inn := fun p hp => ⟨t.wmem.mpr (t.hd.inn p hp).1, t.wmem.mpr (t.hd.inn p hp).2⟩
  cn := fun S s0 cl x hx => t.closed (t.mem.mpr hf) s0 cl x (t.wmem.mp hx)
  pos := fun r hr => t.pos hr
  okS := fun x hx => strs_ok x (t.nm x (t.mem.mp (t.wmem.mp hx)))
variable {first : Str} {hour : Int} {hf : first ∈ t.rs} {m : Ms} {Fs : List Fi}
theorem full (G : Gw (t.hal first hour hf) m Fs) (em : m.length = t.w.length) : Full t.es t.h first m where
  p := G.p
  all := fun x => by
    refine ⟨fun hx => t.wmem.mp (G.sub x hx), fun hx => ?_⟩
    have pm : (m.map (·.1)).Perm (t.w.map (·.1)) := (perm_of_len G.p.ndm (l := t.w.map (·.1)) G.sub (by rw [List.length_map, List.length_map]; omega)).symm
    exact pm.mem_iff.mpr (t.wmem.mpr hx)
theorem keys_f (G : Gw (t.hal first hour hf) m Fs) (em : m.length = t.w.length) {f : Fi} (hfm : f ∈ Fs) : (f.map (·.1)).Nodup ∧ ∀ x, x ∈ f.map (·.1) ↔ x ∈ t.h.rooms := by
  rw [G.g.keys f hfm]
  exact ⟨G.p.ndm, (t.full G em).all⟩
theorem hrs_sort (G : Gw (t.hal first hour hf) m Fs) (em : m.length = t.w.length) {f : Fi} (hfm : f ∈ Fs) : Hrs t.es t.h (sortF f) := by
  obtain ⟨nd, km⟩ := t.keys_f G em hfm
  have pm := ssort_perm (f.map (·.1))
  exact ⟨by rw [sortF_keys]; exact pm.nodup_iff.mpr nd, fun x => by rw [sortF_keys, pm.mem_iff]; exact km x⟩
theorem burns_sort (G : Gw (t.hal first hour hf) m Fs) (em : m.length = t.w.length) {f : Fi} (hfm : f ∈ Fs) : burnsB t.w (sortF f) m = true := by
  have kf := G.g.keys f hfm
  rw [← burns_congr (f := f) fun x b p => ⟨(valF_sortF (by rw [kf]; exact p.key)).symm, (valF_sortF (by rw [kf]; exact G.p.key p)).symm⟩]
  exact burns_iff.mpr (G.g.stp f hfm)
theorem depth {x : Str} (G : Gw (t.hal first hour hf) m Fs) (em : m.length = t.w.length) (hx : x ∈ t.h.rooms) {bs : List Str} (wo : WayOf t.h first x bs) : Dp t.w m first x ((bs.length : Int) - 1) (wayWood t.w bs) := by
  obtain ⟨m', last, ah, k, e, _⟩ := wo
  have F := t.full G em
  have F' := t.hd.ahead hx ah
  have lx : last = x := by
    have km : last ∈ m'.map (·.1) := look_mem.mp (by rw [e]; rfl)
    rcases F'.p.ex km with q | ⟨b, i, hi⟩
    · exact q
    · rw [look_at ah.1.nd hi] at e
      cases e
  subst lx
  exact (F.p.way (F.cnt t.hd) F'.p (fun {y z} lk => by
    have km : y ∈ m'.map (·.1) := look_mem.mp (by rw [lk]; rfl)
    obtain ⟨p, hp, ep⟩ := List.mem_map.mp km
    obtain ⟨j, hj⟩ := List.getElem?_of_mem hp
    have := look_at (v := p.2) ah.1.nd hj
    rw [ep, lk] at this
    cases q : p.2 with
    | none => rw [q] at this; cases this
    | some b =>
      rw [q] at this
      cases this
      exact ⟨j, by rw [hj, ← ep, ← q]⟩) k).1
/-- depths are few -/
theorem dp_few (F : Full t.es t.h first m) {x : Str} {lo hi : Int} (d : Dp t.w m first x lo hi) : ∀ {i : Nat} {o : Option Str}, m[i]? = some (x, o) → 0 ≤ lo ∧ lo ≤ i ∧ lo ≤ hi ∧ hi ≤ 3 * i := by
  induction d with
  | top => exact fun {i o} _ => ⟨by omega, by omega, by omega, by omega⟩
  | up p d ih =>
    rename_i y b lo hi
    intro i o hi2
    obtain ⟨i', hi'⟩ := p
    have e := F.p.nd hi2 hi'
    subst e
    obtain ⟨j, o2, lt, hj, _⟩ := F.p.up hi'
    obtain ⟨a1, a2, a3, a4⟩ := ih hj
    have bm : b ∈ t.w.map (·.1) := t.wmem.mpr ((F.all b).mp (List.mem_map.mpr ⟨_, List.mem_of_getElem? hj, rfl⟩))
    have := t.pos bm
    omega
def sr (G : Gw (t.hal first hour hf) m Fs) (em : m.length = t.w.length) : SR where
  w := t.hw
  cn := t.conn
  ds := t.es
  fewD := t.fewD
  first := first
  hf := t.mem.mpr hf
  fires := Fs.map sortF
  fewF := by rw [List.length_map]; have := G.most; omega
  inF := fun f hfm x hx => by
    obtain ⟨f0, hf0, rfl⟩ := List.mem_map.mp hfm
    exact ((t.hrs_sort G em hf0).all x).mpr hx
  ks := fun x hx => t.wmem.mp hx
  fewW := by show t.w.length ≤ 1000; rw [t.wlen, t.len]; have := t.l5; omega
  low := fun x hx => by have := (t.pos hx).2; show valF t.w x < 2 ^ 64; omega
  right := fun x hx bs wo => by
    have hx' := t.wmem.mp hx
    have F := t.full G em
    have d := t.depth G em hx' wo
    obtain ⟨p, hp, ep⟩ := List.mem_map.mp ((F.all x).mpr hx')
    obtain ⟨i, hi⟩ := List.getElem?_of_mem hp
    have li := (List.getElem?_eq_some_iff.mp hi).1
    have lm : m.length ≤ 5 := by rw [em, t.wlen, t.len]; exact t.l5
    obtain ⟨a1, a2, a3, a4⟩ := t.dp_few F d (i := i) (o := p.2) (by rw [hi, ← ep])
    refine ⟨G.g.right F hx' d, ?_, ?_⟩
    · refine ⟨by omega, by omega, by show _ ≤ wayWood t.w bs + 1; omega, by show wayWood t.w bs + 1 < _; omega, ?_⟩
      show (wayWood t.w bs + 1 - ((bs.length : Int) - 1)).toNat ≤ 2 ^ 24
      omega
    · have e : (onces (diffs (Fs.map sortF) x first)).length = (wayWood t.w bs + 1 - ((bs.length : Int) - 1)).toNat := G.g.few F hx' d
      show (onces (diffs (Fs.map sortF) x first)).length < 64
      rw [e]
      omega
  cnt := by
    have F := t.full G em
    show manyOf t.es t.w first (t.w.map (·.1)) = ((Fs.map sortF).length : Int)
    rw [List.length_map]
    exact G.g.many F.p (F.cnt t.hd) t.wnd (fun x => by rw [t.wmem]; exact (F.all x).symm) fun b hb => by have := (t.pos hb).1; show 0 ≤ valF t.w b; omega
def fi (f : Fi) (l : f.length = t.h.rooms.length) (k : ∀ x ∈ t.h.rooms, x ∈ f.map (·.1)) : FI := ⟨⟨t.hw, f, t.all_of l k⟩, t.conn⟩
def ft (f : Fi) (l : f.length = t.h.rooms.length) (H : Hrs t.es t.h f) (b : byDoors t.es t.w f = true) : FT6 := ⟨⟨t.fi f l fun x hx => (H.all x).mpr hx, fun b' z => (fire_doors (i := t.fi f l fun x hx => (H.all x).mpr hx) t.hd H z).trans b⟩, by show t.h.rooms.length < 64; rw [t.len]; have := t.l5; omega⟩
def bd (f : Fi) (l : f.length = t.h.rooms.length) (H : Hrs t.es t.h f) : BD where
  ds := t.es
  w := t.w
  f := f
  few := t.fewD
  fewF := by rw [l, t.len]; have := t.l5; omega
  nd := H.nd
  inF := fun p hp => ⟨(H.all _).mpr (t.hd.inn p hp).1, (H.all _).mpr (t.hd.inn p hp).2⟩
  inW := fun p hp => ⟨t.wmem.mpr (t.hd.inn p hp).1, t.wmem.mpr (t.hd.inn p hp).2⟩
def bu (f : Fi) (l : f.length = t.h.rooms.length) (H : Hrs t.es t.h f) : BU where
  ds := t.es
  w := t.w
  f := f
  few := t.fewD
  fewF := by rw [l, t.len]; have := t.l5; omega
  nd := H.nd
  inF := fun p hp => ⟨(H.all _).mpr (t.hd.inn p hp).1, (H.all _).mpr (t.hd.inn p hp).2⟩
  inW := fun x hx => t.wmem.mpr ((H.all x).mp hx)
  okS := fun x hx => strs_ok x (t.nm x (t.mem.mp ((H.all x).mp hx)))
end Turn6
end Z
set_option maxRecDepth 100000
set_option maxHeartbeats 1000000
set_option linter.all false
namespace Z
open PySem PySem.Spec
open PyProof.Rows L2 LamX
/-! the law's own walk: its parts -/
section
variable {K : PySem.W.Frag} {C : Addr} {Ω : List (Addr × Str)} {δ : List Sl} {O : Out → Prop} {c c1 c2 : Nat} {te ta tb : TE} {R Ra Rb : D → Prop}
theorem run_par2 {i j : Nat} (ha : Ev K C Ω c1 ta δ Ra) (hb : Ev K C Ω c2 tb δ Rb) (k : ∀ a b, Ra a → Rb b → O (.nx ((δ.set i (.val a)).set j (.val b)))) : Run K C Ω (c1 + c2) (tPar i j (tCons ta (tCons tb tNil))) δ O := fun W F G H σ o s m Z n r b e =>
  ha W F G H σ o s (by omega) _ fun v G1 H1 d st dd rd => hb W F G1 H1 σ (st.ok o) (s.step o st) (cost1 st m) _ fun v2 G2 H2 d2 st2 dd2 rd2 => by
    refine ⟨v, v2, rfl, ?_⟩
    have o1 := st.ok o
    have s2 := ((s.step o st).step o1 st2).set (i := i) (dd.mono st2.gg)
    exact n _ _ G2 _ (k d d2 rd rd2) ((st.trans st2).f o) (s2.set dd2)
theorem el_uptoC {RL : List D → Prop} {n : Int} (h : Ev K C Ω c te δ (fun d => ∃ xs, d = .lst xs ∧ RL xs)) (n0 : 0 ≤ n) : EvL K C Ω c (tSl (rSlL K) te tNoPart (tPart (tC (V.int n)))) δ (fun ys => ∃ xs, RL xs ∧ ys = xs.take n.toNat) := fun W F G H σ o s m Q q =>
  h W F G H σ o s m _ fun v G1 H1 d st dd ⟨xs, e, rl⟩ => by
    subst e
    cases dd with
    | lst g1 g2 =>
      rename_i a vs
      refine ⟨n, rfl, a, vs, rfl, .inl (.inl (st.gh _ _ g1)), fun p hp => ?_⟩
      have o1 := st.ok o
      have e : cutV vs none (some n) = vs.take n.toNat := by
        unfold cutV
        show (vs.drop 0).take (HT.sIx vs.length vs.length (some n) - 0) = _
        have : HT.sIx vs.length vs.length (some n) = min n.toNat vs.length := by
          show (if n < 0 then (n + (vs.length : Int)).toNat else min n.toNat vs.length) = _
          rw [if_neg (by omega)]
        rw [this, List.drop_zero, Nat.sub_zero]
        rcases Nat.le_total n.toNat vs.length with z | z
        · rw [Nat.min_eq_left z]
        · rw [Nat.min_eq_right z, List.take_of_length_le (Nat.le_refl _), List.take_of_length_le z]
      rw [e]
      have s2 := o1.own (o := .lst (vs.take n.toNat)) hp
      exact q p _ G1 _ (xs.take n.toNat) ((st.trans s2).le (by omega)) (none_of_ne fun z => st.dom z hp) (o1.gnone hp) upd_same (g2.take _) ⟨xs, rl, rfl⟩
theorem ev_isNotB {a b : Bool} (ha : Ev K C Ω c1 ta δ (· = .bl a)) (hb : Ev K C Ω c2 tb δ (· = .bl b)) : Ev K C Ω (c1 + c2) (tOp rNotB ta tb) δ (· = .bl (!decide (a = b))) :=
  ev_op1 ha hb fun W F G H v w o da db Q q => by
    cases da
    cases db
    exact ⟨a, b, rfl, rfl, q _ G H _ o.refl (.bl _) rfl⟩
structure PK where
  xs : List D
  ne : 0 < xs.length
  few : xs.length < 1073741824
abbrev spPick (K : PySem.W.Frag) (C : Addr) (Ω : List (Addr × Str)) : Sp := SpX K C Ω (fun _ => 1) (fun i : PK => [.stm, .lst i.xs]) fun i d => d ∈ i.xs
def callDraw (K : PySem.W.Frag) (C : Addr) (Ω : List (Addr × Str)) (i : Nat) (t : TE) : TE := tCall (spDraw K C Ω) [] C8.E0 (tCons (tVar i) (tCons t tNil))
theorem ev_drawI {i : Nat} {m : Int} {t : TE} (h0 : δ[i]? = some (.val .stm)) (ht : Ev K C Ω 0 t δ (· = .int m)) (m1 : 1 ≤ m) (m2 : m < 1073741824) : Ev K C Ω 1 (callDraw K C Ω i t) δ (fun d => ∃ r : Int, d = .int r ∧ 0 ≤ r ∧ r < m) :=
  ((ev_call1 (ds := [.stm, .int m]) (ea1 (ev_var h0) (ea1 ht ea_nil)) ⟨_, rfl, m1, m2⟩).imp fun d ⟨m', r, q, z, r0, r1⟩ => by
    cases q
    exact ⟨r, z, r0, r1⟩).le (by omega)
/-- slots of the law -/
abbrev sW (x0 x2 x3 x4 x5 x6 x7 x8 x9 x10 x11 x12 x13 : Sl) : List Sl := [x0, .val .stm, x2, x3, x4, x5, x6, x7, x8, x9, x10, x11, x12, x13]
/-! hours drawn -/
def tHours (K : PySem.W.Frag) (C : Addr) (Ω : List (Addr × Str)) : TE := tCB (rDictV K) (tCons (tLc (iList K (tCB (rSortedS K) (tCons (tVar 3) tNil))) (gName 11) tYes
  (tTup (tCons (tVar 11) (tCons (callDraw K C Ω 1 (tOp plus (tCB (rLenV K) (tCons (tVar 3) tNil)) (tC (V.int 2)))) tNil))) [11]) tNil)
theorem ev_hours {rs : List Str} {x0 x2 x4 x5 x6 x7 x8 x9 x10 x11 x12 x13 : Sl} (nd : rs.Nodup) (few : rs.length ≤ 5) :
    Ev K C Ω 5 (tHours K C Ω) (sW x0 x2 (.val (strsD rs)) x4 x5 x6 x7 x8 x9 x10 x11 x12 x13) (fun d => ∃ f : Fi, f.map (·.1) = ssort rs ∧ d = dicD f) := by
  have pm := ssort_perm rs
  have len := pm.length_eq
  have big : 64 < sizeLine := by decide
  have it : IterR K C Ω 0 (iList K (tCB (rSortedS K) (tCons (tVar 3) tNil))) (sW x0 x2 (.val (strsD rs)) x4 x5 x6 x7 x8 x9 x10 x11 x12 x13) (· = (ssort rs).map D.str) := it_list1 (ev_l (el_cb (ea1 (ev_var (i := 3) rfl) ea_nil) fun ds e => by
    subst e
    exact rl_sortS (by omega)))
  have el := el_lc (K := K) (C := C) (Ω := Ω) (vs := [11]) (g := gName 11) (c2 := 0) (c3 := 1) (tt := tYes) (te := tTup (tCons (tVar 11) (tCons (callDraw K C Ω 1 (tOp plus (tCB (rLenV K) (tCons (tVar 3) tNil)) (tC (V.int 2)))) tNil))) (n := 5)
    (Pd := fun _ k acc => ∃ m : Fi, acc = m.map (fun p => .tup [.str p.1, .int p.2]) ∧ m.map (·.1) = (ssort rs).take k) it (fun xs e => by rw [e, List.length_map, len]; exact few) (by omega) (fun xs e => ⟨[], rfl, rfl⟩) fun xs k x acc e hx hp => by
      subst e
      obtain ⟨m, rfl, km⟩ := hp
      rw [List.getElem?_map] at hx
      obtain ⟨y, hy, rfl⟩ := Option.map_eq_some_iff.mp hx
      refine ⟨_, tg_name (.inr (by simp)) (by simp), (· = true), et_yes, fun _ => ?_, fun z => by cases z⟩
      have ln : Ev K C Ω 0 (tOp plus (tCB (rLenV K) (tCons (tVar 3) tNil)) (tC (V.int 2))) (sW x0 x2 (.val (strsD rs)) x4 x5 x6 x7 x8 x9 x10 (.val (.str y)) x12 x13) (· = .int (rs.length + 2)) := (ev_op1 ((ev_lenL (i := 3) rfl).imp fun d e => by rw [e, List.length_map]) ev_int (rv_int (g := fun i j => i + j))).le (by omega)
      have dr := ev_drawI (K := K) (C := C) (Ω := Ω) (i := 1) (δ := sW x0 x2 (.val (strsD rs)) x4 x5 x6 x7 x8 x9 x10 (.val (.str y)) x12 x13) rfl ln (by omega) (by omega)
      refine ((ev_tup (Rs := fun ds => ∃ r : Int, ds = [.str y, .int r]) (ea_cons (Ra := (· = .str y)) (ev_var (i := 11) rfl) (ea_cons (S := fun ds => ∃ r : Int, ds = [.int r]) dr ea_nil fun d ds ⟨r, e, _⟩ es => ⟨r, by rw [e, es]⟩) fun d ds e ⟨r, es⟩ => ⟨r, by rw [e, es]⟩) fun ds ⟨r, e⟩ => by rw [e]; show 2 ≤ sizeLine; decide).imp fun d ⟨ds, e, r, es⟩ => ?_).le (by omega)
      refine ⟨m ++ [(y, r)], by rw [e, es, List.map_append]; rfl, ?_⟩
      rw [List.map_append, km, List.take_add_one, hy]
      rfl
  have pairs : Ev K C Ω 5 (tLc (iList K (tCB (rSortedS K) (tCons (tVar 3) tNil))) (gName 11) tYes (tTup (tCons (tVar 11) (tCons (callDraw K C Ω 1 (tOp plus (tCB (rLenV K) (tCons (tVar 3) tNil)) (tC (V.int 2)))) tNil))) [11]) (sW x0 x2 (.val (strsD rs)) x4 x5 x6 x7 x8 x9 x10 x11 x12 x13) (fun d => ∃ m : Fi, m.map (·.1) = ssort rs ∧ d = .lst (itemsOf (dicS m D.int))) := by
    refine ((ev_of_l el).imp fun d ⟨ys, e, xs, ex, m, e1, e2⟩ => ?_).le (by omega)
    subst ex
    rw [List.length_map, List.take_length] at e2
    exact ⟨m, e2, by rw [e, e1, items_dicS]⟩
  refine ((ev_of_d (ed_cb (Rs := fun ds => ∃ m : Fi, m.map (·.1) = ssort rs ∧ ds = [.lst (itemsOf (dicS m D.int))]) (S := fun xs => ∃ m : Fi, m.map (·.1) = ssort rs ∧ xs = dicS m D.int) (ea_cons pairs ea_nil fun d ds ⟨m, a, e⟩ es => ⟨m, a, by rw [e, es]⟩) fun ds ⟨m, a, e⟩ => ?_)).imp fun d ⟨xs, e, m, a, ex⟩ => ⟨m, a, by rw [e, ex]; rfl⟩).le (by omega)
  subst e
  intro W F G H vs o dd Q q
  refine rd_dict (K := K) (C := C) (Ω := Ω) (ds := dicS m D.int) W F G H vs o dd Q fun p vs' G' H' xs st hp gp ep dn e => q p vs' G' H' xs st hp gp ep dn ⟨m, a, ?_⟩
  rw [e]
  exact mergeD_nd (by rw [a]; exact pm.nodup_iff.mpr nd)
/-! hours judged three ways -/
def tJudged (K : PySem.W.Frag) (C : Addr) (Ω : List (Addr × Str)) : TS := tSeq (tAsg (tHours K C Ω) (gName 9)) (tSeq (tAsg (tCall (spByDoors K C Ω) [] C8.E0 (tCons (tVar 4) (tCons (tVar 6) (tCons (tVar 9) tNil)))) (gName 13))
  (tIfS (tOr (tTest (tOp rNe (tVar 13) (tCall (spBurns K C Ω) [] C8.E0 (tCons (tVar 4) (tCons (tVar 6) (tCons (tVar 9) tNil)))))) (tNot (tB (tCall (spSameL K C Ω) [] C8.E0 (tCons (tLst (tCons (tCall (spIsFire K C Ω) [] C8.E0 (tCons (tVar 5) (tCons (tVar 6) (tCons (tVar 9) tNil)))) tNil)) (tCons (tLst (tCons (tVar 13) tNil)) tNil)))))) (tRet (tC (V.bl false))) tNext))
theorem run_judged {t : Turn6} {x0 x2 x7 x8 x9 x10 x11 x12 x13 : Sl} (hO : ∀ x9 x13, O (.nx (sW x0 x2 (.val (strsD t.rs)) (.val (prsD t.es)) (.val t.h.d) (.val (dicD t.w)) x7 x8 x9 x10 x11 x12 x13))) :
    Run K C Ω 5 (tJudged K C Ω) (sW x0 x2 (.val (strsD t.rs)) (.val (prsD t.es)) (.val t.h.d) (.val (dicD t.w)) x7 x8 x9 x10 x11 x12 x13) O := by
  refine (row_asg (c1 := 5) (c2 := 0) (ev_hours t.nd t.l5) fun d ⟨f, kf, e⟩ => ?_).le (by omega)
  subst e
  have kl : f.length = t.h.rooms.length := by
    have := congrArg List.length kf
    rwa [List.length_map] at this
  have H : Hrs t.es t.h f := ⟨by rw [kf]; exact t.ndr, fun x => by rw [kf]; exact Iff.rfl⟩
  show Run K C Ω 0 _ (sW x0 x2 (.val (strsD t.rs)) (.val (prsD t.es)) (.val t.h.d) (.val (dicD t.w)) x7 x8 (.val (dicD f)) x10 x11 x12 x13) O
  have by_ : Ev K C Ω 0 (tCall (spByDoors K C Ω) [] C8.E0 (tCons (tVar 4) (tCons (tVar 6) (tCons (tVar 9) tNil)))) (sW x0 x2 (.val (strsD t.rs)) (.val (prsD t.es)) (.val t.h.d) (.val (dicD t.w)) x7 x8 (.val (dicD f)) x10 x11 x12 x13) (· = .bl (byDoors t.es t.w f)) :=
    (ev_callX (cc := fun _ => 0) (A := fun i : BD => [prsD i.ds, .dic (dicS i.w D.int), .dic (dicS i.f D.int)]) (Rx := fun i d => d = .bl (byDoors i.ds i.w i.f)) (t.bd f kl H) (ea1 (ev_var (i := 4) rfl) (ea1 (ev_var (i := 6) rfl) (ea1 (ev_var (i := 9) rfl) ea_nil)))).le (by omega)
  refine (row_asg1 (c1 := 0) (c2 := 0) by_ ?_).le (by omega)
  show Run K C Ω 0 _ (sW x0 x2 (.val (strsD t.rs)) (.val (prsD t.es)) (.val t.h.d) (.val (dicD t.w)) x7 x8 (.val (dicD f)) x10 x11 x12 (.val (.bl (byDoors t.es t.w f)))) O
  have bu : Ev K C Ω 0 (tCall (spBurns K C Ω) [] C8.E0 (tCons (tVar 4) (tCons (tVar 6) (tCons (tVar 9) tNil)))) (sW x0 x2 (.val (strsD t.rs)) (.val (prsD t.es)) (.val t.h.d) (.val (dicD t.w)) x7 x8 (.val (dicD f)) x10 x11 x12 (.val (.bl (byDoors t.es t.w f)))) (· = .bl (byDoors t.es t.w f)) :=
    ((ev_callX (cc := fun _ => 0) (A := fun i : BU => [prsD i.ds, .dic (dicS i.w D.int), .dic (dicS i.f D.int)]) (Rx := fun i d => ∃ b, BurnsB i b ∧ d = .bl b) (t.bu f kl H) (ea1 (ev_var (i := 4) rfl) (ea1 (ev_var (i := 6) rfl) (ea1 (ev_var (i := 9) rfl) ea_nil)))).imp fun d ⟨b, z, e⟩ => by rw [e, burns_doors (i := t.bu f kl H) t.hd H rfl z]; rfl).le (by omega)
  have fi : Ev K C Ω 0 (tCall (spIsFire K C Ω) [] C8.E0 (tCons (tVar 5) (tCons (tVar 6) (tCons (tVar 9) tNil)))) (sW x0 x2 (.val (strsD t.rs)) (.val (prsD t.es)) (.val t.h.d) (.val (dicD t.w)) x7 x8 (.val (dicD f)) x10 x11 x12 (.val (.bl (byDoors t.es t.w f)))) (· = .bl (byDoors t.es t.w f)) :=
    ((ev_callX (cc := fun _ => 0) (A := fun i : FI => [i.w.h.d, .dic (dicS i.w.m D.int), .dic (dicS i.f D.int)]) (Rx := fun i d => ∃ b, FireB i b ∧ d = .bl b) (t.fi f kl fun x hx => (H.all x).mpr hx) (ea1 (ev_var (i := 5) rfl) (ea1 (ev_var (i := 6) rfl) (ea1 (ev_var (i := 9) rfl) ea_nil)))).imp fun d ⟨b, z, e⟩ => by rw [e, fire_doors (i := t.fi f kl fun x hx => (H.all x).mpr hx) t.hd H z]; rfl).le (by omega)
  have one : (1 : Nat) ≤ sizeLine := by decide
  have l1 := (ev_l (el_lst (ea1 fi ea_nil) fun ds e => by rw [e]; exact one)).le (c := 0) (by omega)
  have l2 := (ev_l (el_lst (ea1 (ev_var (δ := sW x0 x2 (.val (strsD t.rs)) (.val (prsD t.es)) (.val t.h.d) (.val (dicD t.w)) x7 x8 (.val (dicD f)) x10 x11 x12 (.val (.bl (byDoors t.es t.w f)))) (K := K) (C := C) (Ω := Ω) (i := 13) rfl) ea_nil) fun ds e => by rw [e]; exact one)).le (c := 0) (by omega)
  have sm := (ev_callX (K := K) (C := C) (Ω := Ω) (E := C8.E0) (cc := fun _ => 0) (A := fun i : Bool × Bool => [.lst [.bl i.1], .lst [.bl i.2]]) (Rx := fun i d => d = .bl (decide (i.1 = i.2))) (byDoors t.es t.w f, byDoors t.es t.w f) (ea1 l1 (ea1 l2 ea_nil))).le (c := 0) (by omega)
  exact (run_if (c1 := 0) (c2 := 0) (c3 := 0) (RT := (· = false)) ((et_or (c1 := 0) (c2 := 0) (RT := (· = false)) (RU := (· = false)) (et1 ((ev_neB (ev_var (i := 13) rfl) bu).imp fun d e => by rw [e]; simp)) (fun _ => et_not (et_ofB (sm.imp fun d e => ⟨true, by rw [e]; simp, rfl⟩))) fun e => by cases e).le (by omega)) (fun z => by cases z) fun _ => run_next (hO _ _)).le (by omega)
end
end Z
set_option maxRecDepth 100000
set_option maxHeartbeats 1000000
set_option linter.all false
namespace Z
open PySem PySem.Spec
open PyProof.Rows L2 LamX
/-! each of some fires asked of; a turn; the law -/
section
variable {K : PySem.W.Frag} {C : Addr} {Ω : List (Addr × Str)} {δ : List Sl} {O : Out → Prop}
def tAsked (K : PySem.W.Frag) (C : Addr) (Ω : List (Addr × Str)) : TS := tSeq (tIfS (tOr (tTest (tOp rNotB (tCall (spIsFire K C Ω) [] C8.E0 (tCons (tVar 5) (tCons (tVar 6) (tCons (tVar 9) tNil)))) (tC (V.bl true))))
    (tTest (tOp rNe (tCall (spFirstOf K C Ω) [] C8.E0 (tCons (tVar 5) (tCons (tVar 6) (tCons (tVar 9) tNil)))) (tVar 7)))) (tRet (tC (V.bl false))) tNext)
  (tSeq (tAsg (tCall (spLitFrom K C Ω) [] C8.E0 (tCons (tVar 5) (tCons (tVar 6) (tCons (tVar 9) tNil)))) (gName 10))
    (tIfS (tTest (tOp (rNeD K) (tLkE (tLc (iKeys (tVar 10)) (gName 11) (tTest (tOp isNon (tDGet (tVar 10) (tVar 11)) (tC V.non))) (tVar 11) [11])) (tLst (tCons (tVar 7) tNil)))) (tRet (tC (V.bl false))) tNext))
theorem run_asked {t : Turn6} {first : Str} {f : Fi} {m : Ms} {x0 x2 x3 x4 x8 x10 x11 x12 x13 : Sl} (hf : first ∈ t.rs) (F : Full t.es t.h first m) (kl : f.length = t.h.rooms.length) (H : Hrs t.es t.h f) (b : burnsB t.w f m = true)
    (hO : ∀ x10 x11, O (.nx (sW x0 x2 x3 x4 (.val t.h.d) (.val (dicD t.w)) (.val (.str first)) x8 (.val (dicD f)) x10 x11 x12 x13))) :
    Run K C Ω 0 (tAsked K C Ω) (sW x0 x2 x3 x4 (.val t.h.d) (.val (dicD t.w)) (.val (.str first)) x8 (.val (dicD f)) x10 x11 x12 x13) O := by
  have by_ : byDoors t.es t.w f = true := F.by_burns t.hd H b
  have fi : Ev K C Ω 0 (tCall (spIsFire K C Ω) [] C8.E0 (tCons (tVar 5) (tCons (tVar 6) (tCons (tVar 9) tNil)))) (sW x0 x2 x3 x4 (.val t.h.d) (.val (dicD t.w)) (.val (.str first)) x8 (.val (dicD f)) x10 x11 x12 x13) (· = .bl true) :=
    ((ev_callX (cc := fun _ => 0) (A := fun i : FI => [i.w.h.d, .dic (dicS i.w.m D.int), .dic (dicS i.f D.int)]) (Rx := fun i d => ∃ b, FireB i b ∧ d = .bl b) (t.fi f kl fun x hx => (H.all x).mpr hx) (ea1 (ev_var (i := 5) rfl) (ea1 (ev_var (i := 6) rfl) (ea1 (ev_var (i := 9) rfl) ea_nil)))).imp fun d ⟨b, z, e⟩ => by rw [e, fire_doors (i := t.fi f kl fun x hx => (H.all x).mpr hx) t.hd H z]; exact congrArg D.bl by_).le (by omega)
  have fo : Ev K C Ω 0 (tCall (spFirstOf K C Ω) [] C8.E0 (tCons (tVar 5) (tCons (tVar 6) (tCons (tVar 9) tNil)))) (sW x0 x2 x3 x4 (.val t.h.d) (.val (dicD t.w)) (.val (.str first)) x8 (.val (dicD f)) x10 x11 x12 x13) (· = .str first) :=
    ((ev_callX (cc := fun _ => 0) (A := FT.ds) (Rx := fun i d => ∃ x, d = .str x ∧ Earliest i.w.h i.f x) (t.ft f kl H by_).toFT (ea1 (ev_var (i := 5) rfl) (ea1 (ev_var (i := 6) rfl) (ea1 (ev_var (i := 9) rfl) ea_nil)))).imp fun d ⟨x, e, er⟩ => by rw [e, F.earliest H b er]).le (by omega)
  refine (row_guard (c1 := 0) (c2 := 0) (c3 := 0) (RT := (· = false)) ((et_or (c1 := 0) (c2 := 0) (RT := (· = false)) (RU := (· = false)) (et1 ((ev_isNotB (c1 := 0) (c2 := 0) fi ev_bl).imp fun d e => by rw [e]; simp)) (fun _ => et1 ((ev_neS fo (ev_var (i := 7) rfl)).imp fun d e => by rw [e]; simp)) fun e => by cases e).le (by omega)) (fun z => by cases z) fun _ => ?_).le (by omega)
  have lf : Ev K C Ω 0 (tCall (spLitFrom K C Ω) [] C8.E0 (tCons (tVar 5) (tCons (tVar 6) (tCons (tVar 9) tNil)))) (sW x0 x2 x3 x4 (.val t.h.d) (.val (dicD t.w)) (.val (.str first)) x8 (.val (dicD f)) x10 x11 x12 x13) (fun d => ∃ m', FromsOf t.h f m' ∧ d = .dic (dicS m' optD)) :=
    (ev_callX (cc := fun _ => 0) (A := fun i : FT6 => i.ds) (Rx := fun i d => ∃ m', FromsOf i.w.h i.f m' ∧ d = .dic (dicS m' optD)) (t.ft f kl H by_) (ea1 (ev_var (i := 5) rfl) (ea1 (ev_var (i := 6) rfl) (ea1 (ev_var (i := 9) rfl) ea_nil)))).le (by omega)
  refine (row_asg (c1 := 0) (c2 := 0) lf fun d ⟨m', fr, e⟩ => ?_).le (by omega)
  subst e
  show Run K C Ω 0 _ (sW x0 x2 x3 x4 (.val t.h.d) (.val (dicD t.w)) (.val (.str first)) x8 (.val (dicD f)) (.val (.dic (dicS m' optD))) x11 x12 x13) O
  obtain ⟨x, mm, er, ah, as⟩ := fr
  have ex := F.earliest H b er
  subst ex
  have nn := froms_none t.hd er.1 ah as
  have ks : keysOf (dicS m' optD) = (m'.map (·.1)).map D.str := by
    unfold keysOf dicS
    rw [List.map_map, List.map_map]
    rfl
  have lm : m'.length ≤ 1000 := by
    have e1 := congrArg List.length as.1
    rw [List.length_map, (ssort_perm _).length_eq, List.length_map] at e1
    have := ah.few t.ok
    omega
  have el := el_keys (K := K) (C := C) (Ω := Ω) (δ := sW x0 x2 x3 x4 (.val t.h.d) (.val (dicD t.w)) (.val (.str x)) x8 (.val (dicD f)) (.val (.dic (dicS m' optD))) x11 x12 x13) (n := 1000) (vs := [11]) (g := gName 11) (tt := tTest (tOp isNon (tDGet (tVar 10) (tVar 11)) (tC V.non))) (te := tVar 11) (ds := dicS m' optD) (td := tVar 10)
    (p := fun d => match d with
      | .str r => decide (m'.lookup r = some none)
      | _ => false) (f := fun d => d) (atd_var (i := 10) rfl) (by rw [ks, List.length_map, List.length_map]; exact lm) (by decide) fun y hy => by
      rw [ks] at hy
      obtain ⟨r, hr, rfl⟩ := List.mem_map.mp hy
      refine ⟨_, tg_name (.inr (by simp)) (by simp), ?_, fun _ => ev_var (i := 11) rfl⟩
      obtain ⟨o, ho⟩ := Option.isSome_iff_exists.mp (look_mem.mpr hr)
      have dg : Ev K C Ω 0 (tDGet (tVar 10) (tVar 11)) (sW x0 x2 x3 x4 (.val t.h.d) (.val (dicD t.w)) (.val (.str x)) x8 (.val (dicD f)) (.val (.dic (dicS m' optD))) (.val (.str r)) x12 x13) (· = optD o) := (ev_dget (k := Sum.inr r) (ev_var (i := 10) rfl) (ev_var (i := 11) (d := .str r) rfl) rfl (by rw [look_dicS, ho]; rfl)).le (by omega)
      refine (et_of (RT := fun b => b = decide (m'.lookup r = some none)) ((ev_op1 (c1 := 0) (c2 := 0) dg ev_non (rv_isN (K := K) (C := C) (Ω := Ω) (a := optD o))).imp fun d ⟨k, e, h⟩ => ⟨k, e, ?_⟩)).le (by omega)
      rw [Bool.eq_iff_iff, h, decide_eq_true_eq, ho]
      cases o with
      | none => exact ⟨fun _ => rfl, fun _ => rfl⟩
      | some z => exact ⟨fun q => D.noConfusion q, fun q => by cases q⟩
  have el2 : Ev K C Ω 0 (tLkE (tLc (iKeys (tVar 10)) (gName 11) (tTest (tOp isNon (tDGet (tVar 10) (tVar 11)) (tC V.non))) (tVar 11) [11])) (sW x0 x2 x3 x4 (.val t.h.d) (.val (dicD t.w)) (.val (.str x)) x8 (.val (dicD f)) (.val (.dic (dicS m' optD))) x11 x12 x13) (· = .lst ([x].map D.str)) := (ev_l (el.imp fun xs e => by
    rw [e, ks, List.filter_map, List.map_map]
    have : (m'.map (·.1)).filter ((fun d : D => match d with
      | .str r => decide (m'.lookup r = some none)
      | _ => false) ∘ D.str) = [x] := nn
    rw [this]
    rfl)).le (by omega)
  have one : Ev K C Ω 0 (tLst (tCons (tVar 7) tNil)) (sW x0 x2 x3 x4 (.val t.h.d) (.val (dicD t.w)) (.val (.str x)) x8 (.val (dicD f)) (.val (.dic (dicS m' optD))) x11 x12 x13) (· = .lst ([x].map D.str)) := (ev_l (el_lst (ea1 (ev_var (i := 7) rfl) ea_nil) fun ds e => by rw [e]; show 1 ≤ sizeLine; decide)).le (by omega)
  have okx : ∀ y ∈ [x], PyData.strOk y = true := fun y hy => by
    rw [List.mem_singleton.mp hy]
    exact strs_ok x (t.nm x hf)
  exact (run_if (c1 := 0) (c2 := 0) (c3 := 0) (RT := (· = false)) ((et1 (ev_op1 (c1 := 0) (c2 := 0) el2 one (rv_neStrs okx okx))).imp fun b e => by rw [e]; simp) (fun z => by cases z) fun _ => run_next (hO _ _)).le (by omega)
/-! a turn -/
def tTurn (K : PySem.W.Frag) (C : Addr) (Ω : List (Addr × Str)) : TS := tSeq (tAsg (tCall (spHouse K C Ω) [] C8.E0 (tCons (tVar 1) (tCons (tC (V.int 5)) tNil))) (gTup K 2 (gCons (gName 3) (gCons (gName 4) gNil))))
  (tSeq (tPar 5 6 (tCons (tMake C (spInit K C Ω) [] C8.E0 (tCons (tVar 3) (tCons (tVar 4) tNil))) (tCons (tCall (spHWoods K C Ω) [] C8.E0 (tCons (tVar 1) (tCons (tVar 3) (tCons (tOp (rIxL K) (tLst (tCons (tC (V.int 3)) (tCons (tC (V.int 2)) (tCons (tC (V.int 2)) tNil)))) (tVar 2)) tNil)))) tNil)))
  (tSeq (tAsg (tCall (spPick K C Ω) [] C8.E0 (tCons (tVar 1) (tCons (tVar 3) tNil))) (gName 7))
  (tSeq (tAsg (tCall (spAllFires K C Ω) [] C8.E0 (tCons (tVar 4) (tCons (tVar 6) (tCons (tVar 7) (tCons (tCall (spPick K C Ω) [] C8.E0 (tCons (tVar 1) (tCons (tLst (tCons (tC (V.int 0)) (tCons (tUn (rU fun i => V.int (-i)) (tC (V.int 3))) (tCons (tC (V.int 7)) tNil)))) tNil))) tNil))))) (gName 8))
  (tSeq (tIfS (tNot (tB (tCall (spSpreadR K C Ω) [] C8.E0 (tCons (tVar 5) (tCons (tVar 4) (tCons (tVar 6) (tCons (tVar 7) (tCons (tVar 8) tNil)))))))) (tRet (tC (V.bl false))) tNext)
  (tSeq (tFor (iList K (tSl (rSlL K) (tCall (spMix K C Ω) [] C8.E0 (tCons (tVar 1) (tCons (tVar 8) tNil))) tNoPart (tPart (tC (V.int 8))))) (gName 9) (tAsked K C Ω))
    (tFor (iRng1 (tCons (tC (V.int 20)) tNil)) (gName 12) (tJudged K C Ω)))))))
theorem run_turn {k : Nat} {x0 x3 x4 x5 x6 x7 x8 x9 x10 x11 x12 x13 : Sl} (hk : k < 3) (hO : ∀ x3 x4 x5 x6 x7 x8 x9 x10 x11 x12 x13, O (.nx (sW x0 (.val (.int (k : Nat))) x3 x4 x5 x6 x7 x8 x9 x10 x11 x12 x13))) :
    Run K C Ω 1000 (tTurn K C Ω) (sW x0 (.val (.int (k : Nat))) x3 x4 x5 x6 x7 x8 x9 x10 x11 x12 x13) O := by
  have hh : Ev K C Ω 300 (tCall (spHouse K C Ω) [] C8.E0 (tCons (tVar 1) (tCons (tC (V.int 5)) tNil))) (sW x0 (.val (.int (k : Nat))) x3 x4 x5 x6 x7 x8 x9 x10 x11 x12 x13) (fun d => ∃ rooms ds es rs, Drawn ⟨5, by omega, by omega⟩ rooms ds es rs ∧ d = .tup [strsD rs, prsD es]) :=
    (ev_callX (cc := fun _ => 300) (A := fun i : HI => [.stm, .int i.most]) (Rx := fun i d => ∃ rooms ds es rs, Drawn i rooms ds es rs ∧ d = .tup [strsD rs, prsD es]) ⟨5, by omega, by omega⟩ (ea1 (ev_var (i := 1) rfl) (ea1 ev_int ea_nil))).le (by omega)
  refine (run_seq (c1 := 300) (c2 := 700) (N := fun δ' => ∃ rooms ds es rs, Drawn ⟨5, by omega, by omega⟩ rooms ds es rs ∧ δ' = sW x0 (.val (.int (k : Nat))) (.val (strsD rs)) (.val (prsD es)) x5 x6 x7 x8 x9 x10 x11 x12 x13)
    (run_asgG (δ' := fun d => match d with
      | .tup [a, b] => sW x0 (.val (.int (k : Nat))) (.val a) (.val b) x5 x6 x7 x8 x9 x10 x11 x12 x13
      | _ => []) hh (fun d ⟨rooms, ds, es, rs, _, e⟩ => by rw [e]; exact tf_pair) fun d ⟨rooms, ds, es, rs, dr, e⟩ => ⟨rooms, ds, es, rs, dr, by rw [e]⟩) fun δ' ⟨rooms, ds, es, rs, dr, e⟩ => ?_).le (by omega)
  subst e
  have ndr : rs.Nodup := dr.pr.nodup_iff.mpr dr.nd
  have lr := dr.pr.length_eq
  have l1 := dr.l1
  have l2 : (rooms.length : Int) ≤ 5 := dr.l2
  have T : Tree rs es := (dr.dr.tree dr.nd dr.l1 dr.pe).perm dr.pr
  have nm : ∀ x ∈ rs, x ∈ twelve := fun x hx => dr.nm x (dr.pr.mem_iff.mp hx)
  have lrs : rs.length ≤ 5 := by omega
  have fewD : es.length ≤ 30 := by
    have := T.cnt
    omega
  let hmk : HMk := ⟨rs, es, ndr, nm, fewD, T⟩
  obtain ⟨mo, m1, m3, mx⟩ : ∃ mo : Int, 1 ≤ mo ∧ mo ≤ 3 ∧ ([D.int 3, D.int 2, D.int 2] : List D)[k]? = some (.int mo) := by
    match k, hk with
    | 0, _ => exact ⟨3, by omega, by omega, rfl⟩
    | 1, _ => exact ⟨2, by omega, by omega, rfl⟩
    | 2, _ => exact ⟨2, by omega, by omega, rfl⟩
  have mkh : Ev K C Ω 0 (tMake C (spInit K C Ω) [] C8.E0 (tCons (tVar 3) (tCons (tVar 4) tNil))) (sW x0 (.val (.int (k : Nat))) (.val (strsD rs)) (.val (prsD es)) x5 x6 x7 x8 x9 x10 x11 x12 x13) (· = hmk.h.d) :=
    ((ev_make (c1 := 0) (c2 := 0) (Rs := (· = [strsD rs, prsD es])) (Pr := fun ds => ∃ i : HMk, ds = [strsD i.rs, prsD i.es]) (Rf := fun ds fs => ∀ i : HMk, ds = [strsD i.rs, prsD i.es] → fs = i.h.fs) (ea1 (ev_var (i := 3) rfl) (ea1 (ev_var (i := 4) rfl) ea_nil)) fun ds e => ⟨hmk, e⟩).imp fun d ⟨ds, fs, e1, e2, r⟩ => by rw [e2, r hmk e1]; rfl).le (by omega)
  have ixm : Ev K C Ω 0 (tOp (rIxL K) (tLst (tCons (tC (V.int 3)) (tCons (tC (V.int 2)) (tCons (tC (V.int 2)) tNil)))) (tVar 2)) (sW x0 (.val (.int (k : Nat))) (.val (strsD rs)) (.val (prsD es)) x5 x6 x7 x8 x9 x10 x11 x12 x13) (· = .int mo) := by
    have l := (ev_l (el_lst (ea1 (ev_int (K := K) (C := C) (Ω := Ω) (δ := sW x0 (.val (.int (k : Nat))) (.val (strsD rs)) (.val (prsD es)) x5 x6 x7 x8 x9 x10 x11 x12 x13) (x := 3)) (ea1 (ev_int (x := 2)) (ea1 (ev_int (x := 2)) ea_nil))) fun ds e => by rw [e]; show 3 ≤ sizeLine; decide)).le (c := 0) (by omega)
    exact (ev_op1 l (ev_var (i := 2) rfl) (rv_ixl (by rw [at_nat (by omega) (by simp; omega)]; exact mx))).le (by omega)
  have wds : Ev K C Ω 5 (tCall (spHWoods K C Ω) [] C8.E0 (tCons (tVar 1) (tCons (tVar 3) (tCons (tOp (rIxL K) (tLst (tCons (tC (V.int 3)) (tCons (tC (V.int 2)) (tCons (tC (V.int 2)) tNil)))) (tVar 2)) tNil)))) (sW x0 (.val (.int (k : Nat))) (.val (strsD rs)) (.val (prsD es)) x5 x6 x7 x8 x9 x10 x11 x12 x13) (fun d => ∃ m, WoodsOf ⟨rs, mo, ndr, by omega, m1, by omega⟩ m ∧ d = .dic (dicS m D.int)) :=
    (ev_callX (cc := fun i : WI => i.rooms.length) (A := fun i : WI => [.stm, strsD i.rooms, .int i.most]) (Rx := fun i d => ∃ m, WoodsOf i m ∧ d = .dic (dicS m D.int)) ⟨rs, mo, ndr, by omega, m1, by omega⟩ (ea1 (ev_var (i := 1) rfl) (ea1 (ev_var (i := 3) rfl) (ea1 ixm ea_nil)))).le (by show 0 + (0 + (0 + 0)) + rs.length ≤ 5; omega)
  refine (run_seq (c1 := 5) (c2 := 695) (N := fun δ' => ∃ w, WoodsOf ⟨rs, mo, ndr, by omega, m1, by omega⟩ w ∧ δ' = sW x0 (.val (.int (k : Nat))) (.val (strsD rs)) (.val (prsD es)) (.val hmk.h.d) (.val (dicD w)) x7 x8 x9 x10 x11 x12 x13)
    ((run_par2 (c1 := 0) (c2 := 5) mkh wds fun a b ea ⟨w, hw, eb⟩ => ⟨w, hw, by rw [ea, eb]; rfl⟩).le (by omega)) fun δ' ⟨w, hw, e⟩ => ?_).le (by omega)
  subst e
  let t : Turn6 := ⟨rs, es, ndr, nm, by omega, lrs, T, w, mo, m3, hw.1, hw.2⟩
  show Run K C Ω 695 _ (sW x0 (.val (.int (k : Nat))) (.val (strsD t.rs)) (.val (prsD t.es)) (.val t.h.d) (.val (dicD t.w)) x7 x8 x9 x10 x11 x12 x13) O
  have pk : Ev K C Ω 1 (tCall (spPick K C Ω) [] C8.E0 (tCons (tVar 1) (tCons (tVar 3) tNil))) (sW x0 (.val (.int (k : Nat))) (.val (strsD t.rs)) (.val (prsD t.es)) (.val t.h.d) (.val (dicD t.w)) x7 x8 x9 x10 x11 x12 x13) (fun d => ∃ x, d = .str x ∧ x ∈ t.rs) :=
    ((ev_callX (cc := fun _ => 1) (A := fun i : PK => [.stm, .lst i.xs]) (Rx := fun i d => d ∈ i.xs) ⟨t.rs.map D.str, by rw [List.length_map]; exact t.l1, by rw [List.length_map]; have := t.l5; omega⟩ (ea1 (ev_var (i := 1) rfl) (ea1 (ev_var (i := 3) rfl) ea_nil))).imp fun d hd => by
      obtain ⟨x, hx, e⟩ := List.mem_map.mp hd
      exact ⟨x, e.symm, hx⟩).le (by omega)
  refine (row_asg (c1 := 1) (c2 := 694) pk fun d ⟨first, e, hf⟩ => ?_).le (by omega)
  subst e
  show Run K C Ω 694 _ (sW x0 (.val (.int (k : Nat))) (.val (strsD t.rs)) (.val (prsD t.es)) (.val t.h.d) (.val (dicD t.w)) (.val (.str first)) x8 x9 x10 x11 x12 x13) O
  have lst3 : Ev K C Ω 0 (tLst (tCons (tC (V.int 0)) (tCons (tUn (rU fun i => V.int (-i)) (tC (V.int 3))) (tCons (tC (V.int 7)) tNil)))) (sW x0 (.val (.int (k : Nat))) (.val (strsD t.rs)) (.val (prsD t.es)) (.val t.h.d) (.val (dicD t.w)) (.val (.str first)) x8 x9 x10 x11 x12 x13) (· = .lst [.int 0, .int (-3), .int 7]) := by
    have neg : Ev K C Ω 0 (tUn (rU fun i => V.int (-i)) (tC (V.int 3))) (sW x0 (.val (.int (k : Nat))) (.val (strsD t.rs)) (.val (prsD t.es)) (.val t.h.d) (.val (dicD t.w)) (.val (.str first)) x8 x9 x10 x11 x12 x13) (· = .int (-3)) := ev_un (r := fun _ _ _ => True) ev_int ⟨-3, rfl, rfl⟩
    exact (ev_l (el_lst (ea1 ev_int (ea1 neg (ea1 ev_int ea_nil))) fun ds e => by rw [e]; show 3 ≤ sizeLine; decide)).le (by omega)
  have hr : Ev K C Ω 1 (tCall (spPick K C Ω) [] C8.E0 (tCons (tVar 1) (tCons (tLst (tCons (tC (V.int 0)) (tCons (tUn (rU fun i => V.int (-i)) (tC (V.int 3))) (tCons (tC (V.int 7)) tNil)))) tNil))) (sW x0 (.val (.int (k : Nat))) (.val (strsD t.rs)) (.val (prsD t.es)) (.val t.h.d) (.val (dicD t.w)) (.val (.str first)) x8 x9 x10 x11 x12 x13) (fun d => ∃ h : Int, d = .int h) :=
    ((ev_callX (cc := fun _ => 1) (A := fun i : PK => [.stm, .lst i.xs]) (Rx := fun i d => d ∈ i.xs) ⟨[.int 0, .int (-3), .int 7], by simp, by simp⟩ (ea1 (ev_var (i := 1) rfl) (ea1 lst3 ea_nil))).imp fun d hd => by
      have hd : d ∈ [D.int 0, .int (-3), .int 7] := hd
      simp at hd
      rcases hd with e | e | e
      · exact ⟨_, e⟩
      · exact ⟨_, e⟩
      · exact ⟨_, e⟩).le (by omega)
  have af : Ev K C Ω 1 (tCall (spAllFires K C Ω) [] C8.E0 (tCons (tVar 4) (tCons (tVar 6) (tCons (tVar 7) (tCons (tCall (spPick K C Ω) [] C8.E0 (tCons (tVar 1) (tCons (tLst (tCons (tC (V.int 0)) (tCons (tUn (rU fun i => V.int (-i)) (tC (V.int 3))) (tCons (tC (V.int 7)) tNil)))) tNil))) tNil))))) (sW x0 (.val (.int (k : Nat))) (.val (strsD t.rs)) (.val (prsD t.es)) (.val t.h.d) (.val (dicD t.w)) (.val (.str first)) x8 x9 x10 x11 x12 x13)
      (fun d => ∃ hour m Fs, ∃ _ : Gw (t.hal first hour hf) m Fs, m.length = t.w.length ∧ d = firesD (Fs.map sortF)) :=
    (ev_callC (c1 := 1) (c2 := 0) (cc := fun _ => 0) (A := fun i : HAl => [prsD i.ds, dicD i.w, .str i.first, .int i.hour]) (Rx := fun i d => ∃ m Fs, Gw i m Fs ∧ m.length = i.w.length ∧ d = firesD (Fs.map sortF)) (Rs := fun ds => ∃ hour : Int, ds = [prsD t.es, dicD t.w, .str first, .int hour])
      ((ea_cons (c1 := 0) (c2 := 1) (Ra := (· = prsD t.es)) (ev_var (i := 4) rfl) (ea_cons (c1 := 0) (c2 := 1) (Ra := (· = dicD t.w)) (S := fun ds => ∃ hour : Int, ds = [dicD t.w, .str first, .int hour]) (ev_var (i := 6) rfl) (ea_cons (c1 := 0) (c2 := 1) (Ra := (· = .str first)) (S := fun ds => ∃ hour : Int, ds = [.str first, .int hour]) (ev_var (i := 7) rfl) (ea_cons (c1 := 1) (c2 := 0) (S := fun ds => ∃ hour : Int, ds = [.int hour]) hr ea_nil fun d ds ⟨h, e⟩ es => ⟨h, by rw [e, es]⟩) fun d ds e ⟨h, es⟩ => ⟨h, by rw [e, es]⟩) fun d ds e ⟨h, es⟩ => ⟨h, by rw [e, es]⟩) fun d ds e ⟨h, es⟩ => ⟨h, by rw [e, es]⟩))
      fun ds ⟨hour, e⟩ => ⟨t.hal first hour hf, e.symm, Nat.le_refl _, fun d ⟨m, Fs, G, em, ed⟩ => ⟨hour, m, Fs, G, em, ed⟩⟩).le (by omega)
  refine (row_asg (c1 := 1) (c2 := 693) af fun d ⟨hour, m, Fs, G, em, e⟩ => ?_).le (by omega)
  subst e
  show Run K C Ω 693 _ (sW x0 (.val (.int (k : Nat))) (.val (strsD t.rs)) (.val (prsD t.es)) (.val t.h.d) (.val (dicD t.w)) (.val (.str first)) (.val (firesD (Fs.map sortF))) x9 x10 x11 x12 x13) O
  have F := t.full G em
  have sr : Ev K C Ω 0 (tCall (spSpreadR K C Ω) [] C8.E0 (tCons (tVar 5) (tCons (tVar 4) (tCons (tVar 6) (tCons (tVar 7) (tCons (tVar 8) tNil)))))) (sW x0 (.val (.int (k : Nat))) (.val (strsD t.rs)) (.val (prsD t.es)) (.val t.h.d) (.val (dicD t.w)) (.val (.str first)) (.val (firesD (Fs.map sortF))) x9 x10 x11 x12 x13) (· = .bl true) :=
    (ev_callX (cc := fun _ => 0) (A := fun i : SR => [i.w.h.d, prsD i.ds, .dic (dicS i.w.m D.int), .str i.first, firesD i.fires]) (Rx := fun _ d => d = .bl true) (t.sr G em) (ea1 (ev_var (i := 5) rfl) (ea1 (ev_var (i := 4) rfl) (ea1 (ev_var (i := 6) rfl) (ea1 (ev_var (i := 7) rfl) (ea1 (ev_var (i := 8) rfl) ea_nil)))))).le (by omega)
  refine (row_guard (c1 := 0) (c2 := 0) (c3 := 693) (RT := (· = false)) (et_not (et_ofB (sr.imp fun d e => ⟨true, e, rfl⟩))) (fun z => by cases z) fun _ => ?_).le (by omega)
  have most := G.most
  have mx8 : IterR K C Ω 243 (iList K (tSl (rSlL K) (tCall (spMix K C Ω) [] C8.E0 (tCons (tVar 1) (tCons (tVar 8) tNil))) tNoPart (tPart (tC (V.int 8))))) (sW x0 (.val (.int (k : Nat))) (.val (strsD t.rs)) (.val (prsD t.es)) (.val t.h.d) (.val (dicD t.w)) (.val (.str first)) (.val (firesD (Fs.map sortF))) x9 x10 x11 x12 x13) (fun ys => ys.length ≤ 8 ∧ ∀ y ∈ ys, ∃ f ∈ Fs, y = dicD (sortF f)) :=
    it_list ((ev_of_l (el_uptoC (n := 8) (RL := fun ys => ys.Perm ((Fs.map sortF).map dicD)) (((ev_mix (i := 1) (j := 8) (xs := (Fs.map sortF).map dicD) rfl rfl (by rw [List.length_map, List.length_map]; omega)).imp fun d ⟨ys, e, p⟩ => ⟨ys, e, p⟩).le (c := 243) (by rw [List.length_map, List.length_map]; exact most)) (by omega))).imp fun d ⟨ys, e, xs, p, ex⟩ => ⟨ys, e, by rw [ex, List.length_take]; omega, fun y hy => by
      rw [ex] at hy
      have := p.mem_iff.mp (List.mem_of_mem_take hy)
      rw [List.map_map] at this
      obtain ⟨f, hfm, ef⟩ := List.mem_map.mp this
      exact ⟨f, hfm, ef.symm⟩⟩)
  refine (run_seq (c1 := 243) (c2 := 100) (N := fun δ' => ∃ x9 x10 x11, δ' = sW x0 (.val (.int (k : Nat))) (.val (strsD t.rs)) (.val (prsD t.es)) (.val t.h.d) (.val (dicD t.w)) (.val (.str first)) (.val (firesD (Fs.map sortF))) x9 x10 x11 x12 x13)
    ((run_for (n := 8) (c1 := 243) (c2 := 0) (Pv := fun _ _ δ' => ∃ x9 x10 x11, δ' = sW x0 (.val (.int (k : Nat))) (.val (strsD t.rs)) (.val (prsD t.es)) (.val t.h.d) (.val (dicD t.w)) (.val (.str first)) (.val (firesD (Fs.map sortF))) x9 x10 x11 x12 x13) mx8 (fun ys h => h.1) (fun ys h => ⟨x9, x10, x11, rfl⟩) (fun ys j y δ2 h hy hp => ?_) fun ys δ2 h hp => hp).le (by omega)) fun δ' ⟨y9, y10, y11, e⟩ => ?_).le (by omega)
  · obtain ⟨y9, y10, y11, rfl⟩ := hp
    obtain ⟨f, hfm, ef⟩ := h.2 y (List.mem_of_getElem? hy)
    subst ef
    refine ⟨_, tf_name, ?_⟩
    have H := t.hrs_sort G em hfm
    have kl : (sortF f).length = t.h.rooms.length := by
      have e1 := congrArg List.length (sortF_keys f)
      rw [List.length_map, (ssort_perm _).length_eq, List.length_map] at e1
      have e2 := G.keys hfm
      rw [e1, e2, em, t.wlen]
    exact run_asked hf F kl H (t.burns_sort G em hfm) fun y10 y11 => ⟨_, y10, y11, rfl⟩
  · subst e
    refine (run_for (n := 20) (c1 := 0) (c2 := 5) (RL := (· = intsD 0 (20 : Int).toNat)) (Pv := fun _ _ δ' => ∃ x9 x12 x13, δ' = sW x0 (.val (.int (k : Nat))) (.val (strsD t.rs)) (.val (prsD t.es)) (.val t.h.d) (.val (dicD t.w)) (.val (.str first)) (.val (firesD (Fs.map sortF))) x9 y10 y11 x12 x13) (it_rng1 (ea1 ev_int ea_nil) (by omega)) (fun xs e => by rw [e, intsD_len]; decide) (fun xs e => ⟨y9, x12, x13, rfl⟩) (fun xs j x δ2 e hx hp => ?_) fun xs δ2 e ⟨z9, z12, z13, ez⟩ => ?_).le (by omega)
    · obtain ⟨z9, z12, z13, rfl⟩ := hp
      exact ⟨_, tf_name, run_judged (t := t) fun w9 w13 => ⟨w9, _, w13, rfl⟩⟩
    · rw [ez]
      exact hO _ _ _ _ _ _ _ _ _ _ _
def tLawRest (K : PySem.W.Frag) (C : Addr) (Ω : List (Addr × Str)) : TS := tSeq (tFor (iRng1 (tCons (tC (V.int 3)) tNil)) (gName 2) (tTurn K C Ω)) (tRet (tC (V.bl true)))
theorem run_law_rest {x0 : Sl} : Run K C Ω 3000 (tLawRest K C Ω) (sW x0 .un .un .un .un .un .un .un .un .un .un .un .un) (retO (· = .bl true)) := by
  refine (run_seq (c1 := 3000) (c2 := 0) (N := fun _ => True) ((run_for (n := 3) (c1 := 0) (c2 := 1000) (RL := (· = intsD 0 (3 : Int).toNat)) (Pv := fun _ k δ' => ∃ x2 x3 x4 x5 x6 x7 x8 x9 x10 x11 x12 x13, δ' = sW x0 x2 x3 x4 x5 x6 x7 x8 x9 x10 x11 x12 x13) (it_rng1 (ea1 ev_int ea_nil) (by omega)) (fun xs e => by rw [e, intsD_len]; decide) (fun xs e => ⟨_, _, _, _, _, _, _, _, _, _, _, _, rfl⟩) (fun xs k x δ2 e hx hp => ?_) fun xs δ2 e hp => trivial).le (by omega)) fun δ' _ => run_ret ev_bl fun d e => e).le (by omega)
  subst e
  obtain ⟨x2, x3, x4, x5, x6, x7, x8, x9, x10, x11, x12, x13, rfl⟩ := hp
  have lk : k < 3 := by
    have := (List.getElem?_eq_some_iff.mp hx).1
    rw [intsD_len] at this
    exact this
  have ik := intsD_get (lo := 0) (n := (3 : Int).toNat) (i := k) (show k < (3 : Int).toNat from lk)
  rw [ik] at hx
  cases hx
  refine ⟨_, tf_name, ?_⟩
  show Run K C Ω 1000 (tTurn K C Ω) (sW x0 (.val (.int (0 + (k : Nat)))) x3 x4 x5 x6 x7 x8 x9 x10 x11 x12 x13) _
  rw [Int.zero_add]
  exact run_turn lk fun y3 y4 y5 y6 y7 y8 y9 y10 y11 y12 y13 => ⟨_, y3, y4, y5, y6, y7, y8, y9, y10, y11, y12, y13, rfl⟩
end
end Z
set_option Elab.async false
set_option linter.all false
set_option maxRecDepth 100000
set_option maxHeartbeats 4000000
/-! The spring made, and the law's run from its start. -/
namespace Z
open PySem PySem.Spec PyProof.Rows L2
variable {K : PySem.W.Frag} {C : Addr}
def spStart (K : PySem.W.Frag) : Sp := fun vs H Q _ => ∃ (a : Addr) (ns : List Int), vs = [.ref a] ∧ SqL K H a (ns.map V.int) ∧
  ∀ (s cl : Addr) (H' : Hp), s ≠ cl → H s = none → H cl = none → (∀ b o, H b = some o → H' b = some o) → H' s = some (.lst [.ref cl, .int 0, .int 0, .int 11]) → H' cl = some (.lst (ns.map V.int)) → Q (.ref s) H'
def tStart (K : PySem.W.Frag) : TS := tRet (tLst (tCons (tCB (rListV K) (tCons (tVar 0) tNil)) (tCons (tC (V.int 0)) (tCons (tC (V.int 0)) (tCons (tC (V.int 11)) tNil)))))
theorem run_start {N : List Str} (hN : N.length = 1) {vs : List V} {H : Hp} {Q : VK} {E : XK} (hs : spStart K vs H Q E) : tStart K { nx := fun _ H' => Q .non H', rt := Q } (L2.start N vs) H := by
  obtain ⟨a, ns, rfl, hS, go⟩ := hs
  refine ⟨.ref a, rfl, a, _, rfl, .inl hS, fun l hl => ?_⟩
  refine ⟨(show (4 : Nat) ≤ sizeLine by decide), fun p hp => ?_⟩
  have pl : p ≠ l := fun e => by
    rw [e, upd_same] at hp
    cases hp
  have hp0 : H p = none := by
    rw [upd_ne pl] at hp
    exact hp
  refine go p l _ pl hp0 hl (fun b o e => ?_) upd_same ?_
  · rw [upd_ne (fun q => by rw [q, hp0] at e; cases e), upd_ne (fun q => by rw [q, hl] at e; cases e)]
    exact e
  · rw [upd_ne (Ne.symm pl), upd_same]
def spLaw (K : PySem.W.Frag) (C Pa : Addr) (q : Str) : Sp := fun vs H Q _ => ∃ (a : Addr) (ns : List Int), vs = [.ref a] ∧ SqL K H a (ns.map V.int) ∧ ns.length ≤ 63 ∧ H Pa = some (.tbl #[]) ∧ ∀ H', Q (.bl true) H'
def tLaw (K : PySem.W.Frag) (C : Addr) (Ω : List (Addr × Str)) : TS := tSeq (tAsg (tCall (spStart K) [] C8.E0 (tCons (tVar 0) tNil)) (gName 1)) (tLawRest K C Ω)
theorem run_law {Pa : Addr} {q : Str} {N : List Str} (hN : N.length = 14) {vs : List V} {H : Hp} {Q : VK} {E : XK} (hs : spLaw K C Pa q vs H Q E) : tLaw K C [(Pa, q)] { nx := fun _ H' => Q .non H', rt := Q } (L2.start N vs) H := by
  obtain ⟨a, ns, rfl, hS, few, hP, go⟩ := hs
  refine ⟨.ref a, rfl, ?_⟩
  refine ⟨a, ns, rfl, hS, fun s cl H' ne hs hcl kp top low => ?_⟩
  have hP' : H' Pa = some (.tbl #[]) := kp _ _ hP
  let W : Wd K C [(Pa, q)] := ⟨s, cl, ne, fun p hp => by
    cases hp with
    | head =>
      refine ⟨fun e => ?_, fun e => ?_⟩
      · have e' : Pa = s := e
        rw [e', hs] at hP
        cases hP
      · have e' : Pa = cl := e
        rw [e', hcl] at hP
        cases hP
    | tail _ z => cases z⟩
  have iv : W.I H' := by
    refine ⟨⟨ns, 0, 0, 11, ⟨top, low, few, by decide, by decide, by decide, by decide⟩⟩, fun p hp => ?_⟩
    cases hp with
    | head => exact ⟨#[], hP', trivial, fun pos cv e => by cases e⟩
    | tail _ z => cases z
  have o : Ok W (fun b => H' b ≠ none) (fun _ => none) H' := ⟨fun _ _ e => (by cases e), iv, fun _ _ => rfl, fun _ z => z, fun b z => W.inn _ _ iv z⟩
  have sl : Slots W (fun b => H' b ≠ none) (fun _ => none) H' ((L2.start N [.ref a]).set 1 (some (.ref s))) (sW .un .un .un .un .un .un .un .un .un .un .un .un .un) := by
    have e0 : L2.start N [.ref a] = some (V.ref a) :: List.replicate 13 none := by
      unfold L2.start
      rw [hN]
      rfl
    rw [e0]
    refine ⟨rfl, fun i s' e => ?_, fun i j s1 s2 l hij e1 e2 h1 h2 => ?_⟩
    · rcases i with _ | _ | i
      · cases e
        trivial
      · cases e
        exact ⟨.ref s, rfl, .stm⟩
      · have e2 : (List.replicate 12 Sl.un)[i]? = some s' := e
        rw [List.getElem?_replicate] at e2
        split at e2
        · cases e2
          trivial
        · cases e2
    · exfalso
      rcases i with _ | _ | i
      · cases e1
        cases h1
      · cases e1
        cases h1
      · have e3 : (List.replicate 12 Sl.un)[i]? = some s1 := e1
        rw [List.getElem?_replicate] at e3
        split at e3
        · cases e3
          cases h1
        · cases e3
  have ct : W.cnt H' + 3000 ≤ most := by
    have : W.cnt H' = 0 := by
      unfold Wd.cnt
      rw [show H' W.s = some (.lst [.ref cl, .int 0, .int 0, .int 11]) from top]
      rfl
    rw [this]
    decide
  exact run_law_rest W _ _ H' _ o sl ct _ (fun δ' σ' G2 H2 z _ _ => by cases z) (fun d v G2 H2 z _ dv => by
    have e : d = .bl true := z
    subst e
    cases dv
    exact go H2) (fun _ _ _ _ z _ _ => z.elim) (fun _ _ _ _ z _ _ => z.elim)
end Z
set_option Elab.async false
set_option linter.all false
set_option maxRecDepth 100000
set_option maxHeartbeats 4000000
namespace Z
open PySem PySem.Spec PyProof.Rows L2
def top (i : Nat) : Stmt := PySem.Challenge.pw_hearths_k06_whole_what_holds_of_all.main.body.getD i (.Pass ⟨0, 0, 0, 0⟩)
abbrev s_is_integer : Stmt := top 12
abbrev n_is_integer : List Str := ["thing"]
theorem sc_is_integer : FnScope n_is_integer ["thing"] (defScope s_is_integer) := ⟨rfl, rfl, rfl, by decide +kernel, rfl, by decide +kernel, by decide +kernel⟩
abbrev s_is_from_one : Stmt := top 13
abbrev n_is_from_one : List Str := ["thing"]
theorem sc_is_from_one : FnScope n_is_from_one ["thing"] (defScope s_is_from_one) := ⟨rfl, rfl, rfl, by decide +kernel, rfl, by decide +kernel, by decide +kernel⟩
abbrev s_is_name : Stmt := top 14
abbrev n_is_name : List Str := ["thing", "sign"]
theorem sc_is_name : FnScope n_is_name ["thing"] (defScope s_is_name) := ⟨rfl, rfl, rfl, by decide +kernel, rfl, by decide +kernel, by decide +kernel⟩
abbrev s_is_row : Stmt := top 15
abbrev n_is_row : List Str := ["thing"]
theorem sc_is_row : FnScope n_is_row ["thing"] (defScope s_is_row) := ⟨rfl, rfl, rfl, by decide +kernel, rfl, by decide +kernel, by decide +kernel⟩
abbrev s_bad_index : Stmt := top 16
abbrev n_bad_index : List Str := ["things", "is_right", "seen", "at", "thing"]
theorem sc_bad_index : FnScope n_bad_index ["things", "is_right"] (defScope s_bad_index) := ⟨rfl, rfl, rfl, by decide +kernel, rfl, by decide +kernel, by decide +kernel⟩
abbrev s_ascending : Stmt := top 17
abbrev n_ascending : List Str := ["table", "key"]
theorem sc_ascending : FnScope n_ascending ["table"] (defScope s_ascending) := ⟨rfl, rfl, rfl, by decide +kernel, rfl, by decide +kernel, by decide +kernel⟩
abbrev s_House_init : Stmt := inClass (top 19) 0
abbrev n_House_init : List Str := ["self", "rooms", "doors", "wrong", "one", "other"]
theorem sc_House_init : FnScope n_House_init ["self", "rooms", "doors"] (defScope s_House_init) := ⟨rfl, rfl, rfl, by decide +kernel, rfl, by decide +kernel, by decide +kernel⟩
abbrev s_House_rooms : Stmt := inClass (top 19) 1
abbrev n_House_rooms : List Str := ["self"]
theorem sc_House_rooms : FnScope n_House_rooms ["self"] (defScope s_House_rooms) := ⟨rfl, rfl, rfl, by decide +kernel, rfl, by decide +kernel, by decide +kernel⟩
abbrev s_House_doors : Stmt := inClass (top 19) 2
abbrev n_House_doors : List Str := ["self"]
theorem sc_House_doors : FnScope n_House_doors ["self"] (defScope s_House_doors) := ⟨rfl, rfl, rfl, by decide +kernel, rfl, by decide +kernel, by decide +kernel⟩
abbrev s_House_len : Stmt := inClass (top 19) 3
abbrev n_House_len : List Str := ["self"]
theorem sc_House_len : FnScope n_House_len ["self"] (defScope s_House_len) := ⟨rfl, rfl, rfl, by decide +kernel, rfl, by decide +kernel, by decide +kernel⟩
abbrev s_House_eq : Stmt := inClass (top 19) 4
abbrev n_House_eq : List Str := ["self", "other"]
theorem sc_House_eq : FnScope n_House_eq ["self", "other"] (defScope s_House_eq) := ⟨rfl, rfl, rfl, by decide +kernel, rfl, by decide +kernel, by decide +kernel⟩
abbrev s_u_rooms_near : Stmt := top 20
abbrev n_u_rooms_near : List Str := ["rooms", "doors", "near", "room", "lots", "at", "door"]
theorem sc_u_rooms_near : FnScope n_u_rooms_near ["rooms", "doors"] (defScope s_u_rooms_near) := ⟨rfl, rfl, rfl, by decide +kernel, rfl, by decide +kernel, by decide +kernel⟩
abbrev s_u_is_pair_of : Stmt := top 21
abbrev n_u_is_pair_of : List Str := ["near", "door", "room"]
theorem sc_u_is_pair_of : FnScope n_u_is_pair_of ["near", "door"] (defScope s_u_is_pair_of) := ⟨rfl, rfl, rfl, by decide +kernel, rfl, by decide +kernel, by decide +kernel⟩
abbrev s_join_lots : Stmt := top 22
abbrev n_join_lots : List Str := ["lots", "kept", "lost", "room"]
theorem sc_join_lots : FnScope n_join_lots ["lots", "kept", "lost"] (defScope s_join_lots) := ⟨rfl, rfl, rfl, by decide +kernel, rfl, by decide +kernel, by decide +kernel⟩
abbrev s_rooms_near : Stmt := top 23
abbrev n_rooms_near : List Str := ["house"]
theorem sc_rooms_near : FnScope n_rooms_near ["house"] (defScope s_rooms_near) := ⟨rfl, rfl, rfl, by decide +kernel, rfl, by decide +kernel, by decide +kernel⟩
abbrev s_is_room : Stmt := top 24
abbrev n_is_room : List Str := ["house", "thing"]
theorem sc_is_room : FnScope n_is_room ["house", "thing"] (defScope s_is_room) := ⟨rfl, rfl, rfl, by decide +kernel, rfl, by decide +kernel, by decide +kernel⟩
abbrev s_need_room : Stmt := top 25
abbrev n_need_room : List Str := ["house", "thing"]
theorem sc_need_room : FnScope n_need_room ["house", "thing"] (defScope s_need_room) := ⟨rfl, rfl, rfl, by decide +kernel, rfl, by decide +kernel, by decide +kernel⟩
abbrev s_is_of_all : Stmt := top 26
abbrev n_is_of_all : List Str := ["house", "thing", "room"]
theorem sc_is_of_all : FnScope n_is_of_all ["house", "thing"] (defScope s_is_of_all) := ⟨rfl, rfl, rfl, by decide +kernel, rfl, by decide +kernel, by decide +kernel⟩
abbrev s_ahead_from : Stmt := top 28
abbrev n_ahead_from : List Str := ["house", "first", "near", "ahead", "found", "at", "here", "room"]
theorem sc_ahead_from : FnScope n_ahead_from ["house", "first"] (defScope s_ahead_from) := ⟨rfl, rfl, rfl, by decide +kernel, rfl, by decide +kernel, by decide +kernel⟩
abbrev s_way_back : Stmt := top 29
abbrev n_way_back : List Str := ["ahead", "room", "back"]
theorem sc_way_back : FnScope n_way_back ["ahead", "room"] (defScope s_way_back) := ⟨rfl, rfl, rfl, by decide +kernel, rfl, by decide +kernel, by decide +kernel⟩
abbrev s_way : Stmt := top 30
abbrev n_way : List Str := ["house", "one", "other"]
theorem sc_way : FnScope n_way ["house", "one", "other"] (defScope s_way) := ⟨rfl, rfl, rfl, by decide +kernel, rfl, by decide +kernel, by decide +kernel⟩
abbrev s_is_woods : Stmt := top 32
abbrev n_is_woods : List Str := ["house", "thing", "room"]
theorem sc_is_woods : FnScope n_is_woods ["house", "thing"] (defScope s_is_woods) := ⟨rfl, rfl, rfl, by decide +kernel, rfl, by decide +kernel, by decide +kernel⟩
abbrev s_need_woods : Stmt := top 33
abbrev n_need_woods : List Str := ["house", "woods"]
theorem sc_need_woods : FnScope n_need_woods ["house", "woods"] (defScope s_need_woods) := ⟨rfl, rfl, rfl, by decide +kernel, rfl, by decide +kernel, by decide +kernel⟩
abbrev s_spread : Stmt := top 34
abbrev n_spread : List Str := ["house", "woods", "one", "other", "rooms", "room"]
theorem sc_spread : FnScope n_spread ["house", "woods", "one", "other"] (defScope s_spread) := ⟨rfl, rfl, rfl, by decide +kernel, rfl, by decide +kernel, by decide +kernel⟩
abbrev s_is_fire : Stmt := top 36
abbrev n_is_fire : List Str := ["house", "woods", "thing", "room", "ahead", "before"]
theorem sc_is_fire : FnScope n_is_fire ["house", "woods", "thing"] (defScope s_is_fire) := ⟨rfl, rfl, rfl, by decide +kernel, rfl, by decide +kernel, by decide +kernel⟩
abbrev s_need_fire : Stmt := top 37
abbrev n_need_fire : List Str := ["house", "woods", "fire"]
theorem sc_need_fire : FnScope n_need_fire ["house", "woods", "fire"] (defScope s_need_fire) := ⟨rfl, rfl, rfl, by decide +kernel, rfl, by decide +kernel, by decide +kernel⟩
abbrev s_earliest_room : Stmt := top 38
abbrev n_earliest_room : List Str := ["house", "fire"]
theorem sc_earliest_room : FnScope n_earliest_room ["house", "fire"] (defScope s_earliest_room) := ⟨rfl, rfl, rfl, by decide +kernel, rfl, by decide +kernel, by decide +kernel⟩
abbrev s_first_of : Stmt := top 39
abbrev n_first_of : List Str := ["house", "woods", "fire"]
theorem sc_first_of : FnScope n_first_of ["house", "woods", "fire"] (defScope s_first_of) := ⟨rfl, rfl, rfl, by decide +kernel, rfl, by decide +kernel, by decide +kernel⟩
abbrev s_lit_from : Stmt := top 40
abbrev n_lit_from : List Str := ["house", "woods", "fire"]
theorem sc_lit_from : FnScope n_lit_from ["house", "woods", "fire"] (defScope s_lit_from) := ⟨rfl, rfl, rfl, by decide +kernel, rfl, by decide +kernel, by decide +kernel⟩
abbrev s_law_start : Stmt := top 42
abbrev n_law_start : List Str := ["script"]
theorem sc_law_start : FnScope n_law_start ["script"] (defScope s_law_start) := ⟨rfl, rfl, rfl, by decide +kernel, rfl, by decide +kernel, by decide +kernel⟩
abbrev s_law_draw : Stmt := top 43
abbrev n_law_draw : List Str := ["stream", "many", "cell", "digit", "mixed"]
theorem sc_law_draw : FnScope n_law_draw ["stream", "many"] (defScope s_law_draw) := ⟨rfl, rfl, rfl, by decide +kernel, rfl, by decide +kernel, by decide +kernel⟩
abbrev s_law_pick : Stmt := top 44
abbrev n_law_pick : List Str := ["stream", "some"]
theorem sc_law_pick : FnScope n_law_pick ["stream", "some"] (defScope s_law_pick) := ⟨rfl, rfl, rfl, by decide +kernel, rfl, by decide +kernel, by decide +kernel⟩
abbrev s_law_mixed : Stmt := top 45
abbrev n_law_mixed : List Str := ["stream", "some", "left", "k"]
theorem sc_law_mixed : FnScope n_law_mixed ["stream", "some"] (defScope s_law_mixed) := ⟨rfl, rfl, rfl, by decide +kernel, rfl, by decide +kernel, by decide +kernel⟩
abbrev s_law_same : Stmt := top 46
abbrev n_law_same : List Str := ["found", "due", "x", "y"]
theorem sc_law_same : FnScope n_law_same ["found", "due"] (defScope s_law_same) := ⟨rfl, rfl, rfl, by decide +kernel, rfl, by decide +kernel, by decide +kernel⟩
abbrev s_law_each_once : Stmt := top 47
abbrev n_law_each_once : List Str := ["things", "found", "thing"]
theorem sc_law_each_once : FnScope n_law_each_once ["things"] (defScope s_law_each_once) := ⟨rfl, rfl, rfl, by decide +kernel, rfl, by decide +kernel, by decide +kernel⟩
abbrev s_law_h_names : Stmt := top 48
abbrev n_law_h_names : List Str := ["stream", "many", "some"]
theorem sc_law_h_names : FnScope n_law_h_names ["stream", "many"] (defScope s_law_h_names) := ⟨rfl, rfl, rfl, by decide +kernel, rfl, by decide +kernel, by decide +kernel⟩
abbrev s_law_h_doors : Stmt := top 49
abbrev n_law_h_doors : List Str := ["stream", "rooms", "shape", "found", "k", "at", "pair"]
theorem sc_law_h_doors : FnScope n_law_h_doors ["stream", "rooms"] (defScope s_law_h_doors) := ⟨rfl, rfl, rfl, by decide +kernel, rfl, by decide +kernel, by decide +kernel⟩
abbrev s_law_h_house : Stmt := top 50
abbrev n_law_h_house : List Str := ["stream", "most", "rooms"]
theorem sc_law_h_house : FnScope n_law_h_house ["stream", "most"] (defScope s_law_h_house) := ⟨rfl, rfl, rfl, by decide +kernel, rfl, by decide +kernel, by decide +kernel⟩
abbrev s_law_h_beside : Stmt := top 51
abbrev n_law_h_beside : List Str := ["doors", "room", "found", "one", "other"]
theorem sc_law_h_beside : FnScope n_law_h_beside ["doors", "room"] (defScope s_law_h_beside) := ⟨rfl, rfl, rfl, by decide +kernel, rfl, by decide +kernel, by decide +kernel⟩
abbrev s_law_h_woods : Stmt := top 52
abbrev n_law_h_woods : List Str := ["stream", "rooms", "most", "room"]
theorem sc_law_h_woods : FnScope n_law_h_woods ["stream", "rooms", "most"] (defScope s_law_h_woods) := ⟨rfl, rfl, rfl, by decide +kernel, rfl, by decide +kernel, by decide +kernel⟩
abbrev s_law_h_burns : Stmt := top 53
abbrev n_law_h_burns : List Str := ["doors", "woods", "hours", "first", "met", "waiting", "is_so", "here", "there"]
theorem sc_law_h_burns : FnScope n_law_h_burns ["doors", "woods", "hours"] (defScope s_law_h_burns) := ⟨rfl, rfl, rfl, by decide +kernel, rfl, by decide +kernel, by decide +kernel⟩
abbrev s_law_h_all : Stmt := top 54
abbrev n_law_h_all : List Str := ["doors", "woods", "first", "hour", "found", "known", "there", "room", "here", "later", "hours", "k"]
theorem sc_law_h_all : FnScope n_law_h_all ["doors", "woods", "first", "hour"] (defScope s_law_h_all) := ⟨rfl, rfl, rfl, by decide +kernel, rfl, by decide +kernel, by decide +kernel⟩
abbrev s_law_h_from : Stmt := top 55
abbrev n_law_h_from : List Str := ["doors", "known", "room", "other"]
theorem sc_law_h_from : FnScope n_law_h_from ["doors", "known", "room"] (defScope s_law_h_from) := ⟨rfl, rfl, rfl, by decide +kernel, rfl, by decide +kernel, by decide +kernel⟩
abbrev s_law_by_doors : Stmt := top 56
abbrev n_law_by_doors : List Str := ["doors", "woods", "hours", "one", "other", "early", "late", "firsts", "room"]
theorem sc_law_by_doors : FnScope n_law_by_doors ["doors", "woods", "hours"] (defScope s_law_by_doors) := ⟨rfl, rfl, rfl, by decide +kernel, rfl, by decide +kernel, by decide +kernel⟩
abbrev s_law_spread_right : Stmt := top 57
abbrev n_law_spread_right : List Str := ["house", "doors", "woods", "first", "fires", "room", "least", "most", "found", "hours", "many", "k"]
theorem sc_law_spread_right : FnScope n_law_spread_right ["house", "doors", "woods", "first", "fires"] (defScope s_law_spread_right) := ⟨rfl, rfl, rfl, by decide +kernel, rfl, by decide +kernel, by decide +kernel⟩
abbrev s_law : Stmt := top 58
abbrev n_law : List Str := ["script", "stream", "turn", "rooms", "doors", "house", "woods", "first", "fires", "hours", "froms", "room", "k", "due"]
theorem sc_law : FnScope n_law ["script"] (defScope s_law) := ⟨rfl, rfl, rfl, by decide +kernel, rfl, by decide +kernel, by decide +kernel⟩
structure Tx (K : PySem.W.Frag) (mg : Str → Option Value) (t_LETTERS : Tok) (t_NAME_SIGNS : Tok) (t_LONGEST_NAME : Tok) : Prop where
  b_all : mg "all" = none
  b_bool : mg "bool" = none
  b_dict : mg "dict" = none
  b_enumerate : mg "enumerate" = none
  b_int : mg "int" = none
  b_isinstance : mg "isinstance" = none
  b_len : mg "len" = none
  b_list : mg "list" = none
  b_max : mg "max" = none
  b_min : mg "min" = none
  b_range : mg "range" = none
  b_sorted : mg "sorted" = none
  b_str : mg "str" = none
  b_sum : mg "sum" = none
  b_tuple : mg "tuple" = none
  b_zip : mg "zip" = none
  c_LETTERS : mg "LETTERS" = some (.str "abcdefghijklmnopqrstuvwxyz" t_LETTERS)
  c_NAME_SIGNS : mg "NAME_SIGNS" = some (.str "abcdefghijklmnopqrstuvwxyz0123456789" t_NAME_SIGNS)
  c_LONGEST_NAME : mg "LONGEST_NAME" = some (.int 12 t_LONGEST_NAME)
theorem map_inj {α β : Type} {g : α → β} (h : ∀ a b, g a = g b → a = b) : ∀ {xs ys : List α}, xs.map g = ys.map g → xs = ys
  | [], [], _ => rfl
  | [], _ :: _, e => by cases e
  | _ :: _, [], e => by cases e
  | x :: xs, y :: ys, e => by
    injection e with e1 e2
    rw [h x y e1, map_inj h e2]
theorem strsD_in {xs ys : List Str} (e : strsD xs = strsD ys) : xs = ys := by
  unfold strsD at e
  injection e with e1
  exact map_inj (fun a b q => by injection q) e1
theorem prsD_in {xs ys : List (Str × Str)} (e : prsD xs = prsD ys) : xs = ys := by
  unfold prsD at e
  injection e with e1
  exact map_inj (fun a b q => by
    obtain ⟨a1, a2⟩ := a
    obtain ⟨b1, b2⟩ := b
    injection q with q1
    injection q1 with q2 q3
    injection q3 with q4 _
    injection q2 with q5
    injection q4 with q6
    have q5 : a1 = b1 := q5
    have q6 : a2 = b2 := q6
    rw [q5, q6]) e1
theorem init_imp {p : Addr} {R R2 : List (Str × D) → Prop} {o : Out} (z : initO p R o) (h : ∀ fs, R fs → R2 fs) : initO p R2 o := by
  cases o with
  | nx δ =>
    obtain ⟨fs, e, r⟩ := z
    exact ⟨fs, e, h _ r⟩
  | _ => exact z.elim

section
variable {P : Program} {w : World} {K : PySem.W.Frag} {mg : Str → Option Value} {base : Heap} {C : Addr} {Ω : List (Addr × Str)} {t_LETTERS : Tok} {t_NAME_SIGNS : Tok} {t_LONGEST_NAME : Tok}
theorem a_is_integer (T : Tx K mg t_LETTERS t_NAME_SIGNS t_LONGEST_NAME) (hk : HouseK K C) {f : Addr} {fd : FuncData} (F : FnP K "is_integer" "is_integer" s_is_integer f fd) (hm : mg "is_integer" = some (.ref f))  : C8.Cal P w K mg base 1 "is_integer" (spIsInt K C Ω) [] :=
  calX (n := 1) F hm sc_is_integer rfl (fun _ => rfl) (fun _ _ _ _ _ _ us hl => match us, hl with | [_], _ => rfl) fun cdv B outer s H E _ hr => ⟨_, (pss_one (ps_ret (pe_and (pe_callB (id := "isinstance") (zisi K) (by rfl) T.b_isinstance (by decide +kernel) (pa_cons (pv 0) (pa_cons (pe_bltn (v := .ty "int") rfl T.b_int (by decide +kernel) rfl) pa_nil))) (pe_one (pe_not (pe_callB (id := "isinstance") (zisi K) (by rfl) T.b_isinstance (by decide +kernel) (pa_cons (pv 0) (pa_cons (pe_bltn (v := .ty "bool") rfl T.b_bool (by decide +kernel) rfl) pa_nil)))))))), fun i => run_is_integer i⟩
theorem a_is_from_one (T : Tx K mg t_LETTERS t_NAME_SIGNS t_LONGEST_NAME) (hk : HouseK K C) {f : Addr} {fd : FuncData} (F : FnP K "is_from_one" "is_from_one" s_is_from_one f fd) (hm : mg "is_from_one" = some (.ref f)) {f_is_integer : Addr} (m_is_integer : mg "is_integer" = some (.ref f_is_integer)) (c_is_integer : C8.Cal P w K mg base 1 "is_integer" (spIsInt K C Ω) []) : C8.Cal P w K mg base 2 "is_from_one" (spFromOne K C Ω) [] :=
  calX (n := 1) F hm sc_is_from_one rfl (fun _ => rfl) (fun _ _ _ _ _ _ us hl => match us, hl with | [_], _ => rfl) fun cdv B outer s H E _ hr => ⟨_, (pss_one (ps_ret (pe_and (C8.pe_c c_is_integer hr (by decide) rfl (pa_cons (pv 0) pa_nil)) (pe_one (pe_cmpR op_ge (pv 0) pe_int (nomark _)))))), fun i => run_is_from_one i⟩
theorem a_is_name (T : Tx K mg t_LETTERS t_NAME_SIGNS t_LONGEST_NAME) (hk : HouseK K C) {f : Addr} {fd : FuncData} (F : FnP K "is_name" "is_name" s_is_name f fd) (hm : mg "is_name" = some (.ref f))  : C8.Cal P w K mg base 1 "is_name" (spIsName K C Ω) [] :=
  calX (n := 2) F hm sc_is_name rfl (fun _ => rfl) (fun _ _ _ _ _ _ us hl => match us, hl with | [_], _ => rfl) fun cdv B outer s H E _ hr => ⟨_, (pss_cons (ps_if (PW.pt (pw_or (pt_not (pt_val (pe_callB (id := "isinstance") (zisi K) (by rfl) T.b_isinstance (by decide +kernel) (pa_cons (pv 0) (pa_cons (pe_bltn (v := .ty "str") rfl T.b_str (by decide +kernel) rfl) pa_nil))))) (pw_or (pt_cmpR op_lt (pe_callB (id := "len") (zlen K) (by rfl) T.b_len PySem.boot_len (pa_cons (pv 0) pa_nil)) pe_int (nomark _)) (pw_or1 (pt_cmpR op_gt (pe_callB (id := "len") (zlen K) (by rfl) T.b_len PySem.boot_len (pa_cons (pv 0) pa_nil)) (pe_glob (v := .int 12) rfl T.c_LONGEST_NAME ⟨_, rfl⟩) (nomark _))))))
    (pss_one (ps_ret pe_bl))
    pss_nil)
  (pss_one (ps_ret (pe_and (pe_cmpR op_in_sign (pe_ix ix_str (pv 0) pe_int (fun _ _ => rfl)) (pe_glob (v := .str "abcdefghijklmnopqrstuvwxyz") rfl T.c_LETTERS ⟨_, rfl⟩) (by rfl)) (pe_one (pe_callB (id := "all") (zall K rfl) (by rfl) T.b_all (by decide +kernel) (pa_cons (pe_lc (own := [("sign", 1)]) (by rfl) sc_is_name.nd (pi_str (pv 0)) (blkOk_by (own := [("sign", 1)]) (N := n_is_name) (sc := (defScope s_is_name)) (by first | decide +kernel | rfl)) (fun _ _ _ _ _ => (pg_name (i := 1) sc_is_name.nd rfl (by first | exact Or.inl rfl | exact Or.inr rfl))) (fun _ _ _ _ _ => pts_nil) (fun _ _ _ _ _ => (pe_cmpR op_in_sign (pv 1) (pe_glob (v := .str "abcdefghijklmnopqrstuvwxyz0123456789") rfl T.c_NAME_SIGNS ⟨_, rfl⟩) (by rfl)))) pa_nil))))))), fun i => run_is_name i⟩
theorem a_is_row (T : Tx K mg t_LETTERS t_NAME_SIGNS t_LONGEST_NAME) (hk : HouseK K C) {f : Addr} {fd : FuncData} (F : FnP K "is_row" "is_row" s_is_row f fd) (hm : mg "is_row" = some (.ref f))  : C8.Cal P w K mg base 1 "is_row" (spIsRow K C Ω) [] :=
  calX (n := 1) F hm sc_is_row rfl (fun _ => rfl) (fun _ _ _ _ _ _ us hl => match us, hl with | [_], _ => rfl) fun cdv B outer s H E _ hr => ⟨_, (pss_one (ps_ret (pe_callB (id := "isinstance") (zisiT K) (by rfl) T.b_isinstance (by decide +kernel) (pa_cons (pv 0) (pa_cons (pe_tup (pa_cons (pe_bltn (v := .ty "list") rfl T.b_list (by decide +kernel) rfl) (pa_cons (pe_bltn (v := .ty "tuple") rfl T.b_tuple (by decide +kernel) rfl) pa_nil))) pa_nil))))), fun i => run_is_row (.inl rfl)⟩
theorem a_is_rowD (T : Tx K mg t_LETTERS t_NAME_SIGNS t_LONGEST_NAME) (hk : HouseK K C) {f : Addr} {fd : FuncData} (F : FnP K "is_row" "is_row" s_is_row f fd) (hm : mg "is_row" = some (.ref f))  : C8.Cal P w K mg base 1 "is_row" (spRowD K C Ω) [] :=
  calX (n := 1) F hm sc_is_row rfl (fun _ => rfl) (fun _ _ _ _ _ _ us hl => match us, hl with | [_], _ => rfl) fun cdv B outer s H E _ hr => ⟨_, (pss_one (ps_ret (pe_callB (id := "isinstance") (zisiT K) (by rfl) T.b_isinstance (by decide +kernel) (pa_cons (pv 0) (pa_cons (pe_tup (pa_cons (pe_bltn (v := .ty "list") rfl T.b_list (by decide +kernel) rfl) (pa_cons (pe_bltn (v := .ty "tuple") rfl T.b_tuple (by decide +kernel) rfl) pa_nil))) pa_nil))))), fun i => run_is_row i.2⟩
def onlyS (g : Addr) (sp : Sp) : Addr → Option Sp := fun a => if a = g then some sp else none
theorem held_of {k : Nat} {x : Str} {f : Addr} {sp : Sp} (c : C8.Cal P w K mg base k x sp []) (hm : mg x = some (.ref f)) : Held P w K mg base k f sp := by
  obtain ⟨f2, fd, ps, ds, F, hm2, kp, b, v⟩ := c.ex
  have e := hm.symm.trans hm2
  cases e
  cases v
  exact ⟨fd, ps, F, kp, b⟩
theorem held_only {k : Nat} {x : Str} {f : Addr} {sp : Sp} (c : C8.Cal P w K mg base k x sp []) (hm : mg x = some (.ref f)) : ∀ g sp2, onlyS f sp g = some sp2 → Held P w K mg base k g sp2 := fun g sp2 e => by
  unfold onlyS at e
  split at e
  · rename_i q
    cases e
    rw [q]
    exact held_of c hm
  · cases e
theorem a_bad_index (T : Tx K mg t_LETTERS t_NAME_SIGNS t_LONGEST_NAME) (hk : HouseK K C) {f_is_name : Addr} (m_is_name : mg "is_name" = some (.ref f_is_name)) (c_is_name : C8.Cal P w K mg base 1 "is_name" (spIsName K C Ω) []) {f : Addr} {fd : FuncData} (F : FnP K "bad_index" "bad_index" s_bad_index f fd) (hm : mg "bad_index" = some (.ref f)) {f_is_row : Addr} (m_is_row : mg "is_row" = some (.ref f_is_row)) (c_is_row : C8.Cal P w K mg base 1 "is_row" (spIsRow K C Ω) []) : C8.Cal P w K mg base 2 "bad_index" (spBadIx K C Ω f_is_name) [] := by
  have hS := held_only c_is_name m_is_name
  exact calX (n := 5) F hm sc_bad_index rfl (fun _ => rfl) (fun _ _ _ _ _ _ us hl => match us, hl with | [_, _], _ => rfl) fun cdv B outer s H E _ hr => ⟨_, (pss_cons (ps_if (pt_not (pt_val (C8.pe_c c_is_row hr (by decide) rfl (pa_cons (pv 0) pa_nil))))
    (pss_one (ps_ret pe_int))
    pss_nil)
  (pss_cons (ps_set (i := 2) sc_bad_index.nd rfl (by first | exact Or.inl rfl | exact Or.inr rfl) pe_dnewK)
  (pss_cons (ps_for PassesOwn.never rfl (zpi_enum K (by rfl) T.b_enumerate (pa_cons (pv 0) pa_nil)) (zpg_tup K (n := 2) rfl (pgs_cons (pg_name (i := 3) sc_bad_index.nd rfl (by first | exact Or.inl rfl | exact Or.inr rfl)) (pgs_cons (pg_name (i := 4) sc_bad_index.nd rfl (by first | exact Or.inl rfl | exact Or.inr rfl)) pgs_nil)))
    (pss_cons (ps_if (PW.pt (pw_or (pt_not (pt_val (pe_callA (i := 1) hS (hr.mono (by decide : 1 ≤ 1)) rfl (by first | exact Or.inl rfl | exact Or.inr rfl) (pa_cons (pv 4) pa_nil)))) (pw_or1 (pt_cmp (pc_din (hu_of hr) (pv 4) (pv 2))))))
      (pss_one (ps_ret (pv 3)))
      pss_nil)
    (pss_one (ps_dput (hu_of hr) (pv 2) (pv 4) pe_bl rfl))))
  (pss_one (ps_ret pe_non))))), fun i => run_bad_ix (S := onlyS f_is_name (spIsName K C Ω)) (by unfold onlyS; rw [if_pos rfl]) i⟩
theorem a_ascending (T : Tx K mg t_LETTERS t_NAME_SIGNS t_LONGEST_NAME) (hk : HouseK K C) {f : Addr} {fd : FuncData} (F : FnP K "ascending" "ascending" s_ascending f fd) (hm : mg "ascending" = some (.ref f))  : C8.Cal P w K mg base 1 "ascending" (spAsc K C Ω) [] :=
  calX (n := 2) F hm sc_ascending rfl (fun _ => rfl) (fun _ _ _ _ _ _ us hl => match us, hl with | [_], _ => rfl) fun cdv B outer s H E _ hr => ⟨_, (pss_one (ps_ret (pe_dc (own := [("key", 1)]) (by rfl) sc_ascending.nd (zpi_l K (pe_callB (id := "sorted") (zsortS K) (by rfl) T.b_sorted (by decide +kernel) (pa_cons (pe_callTy (T := "list") (call_listD rfl) (by rfl) T.b_list (by decide +kernel) (pa_cons (pv 0) pa_nil)) pa_nil))) (blkOk_by (own := [("key", 1)]) (N := n_ascending) (sc := (defScope s_ascending)) (by first | decide +kernel | rfl)) (fun _ _ _ _ _ => (pg_name (i := 1) sc_ascending.nd rfl (by first | exact Or.inl rfl | exact Or.inr rfl))) (fun _ _ _ _ _ => pts_nil) (fun _ _ _ _ _ => (pv 1)) (fun _ _ _ _ _ => (pe_dget (hu_of hr) (pv 0) (pv 1) (fun _ _ => rfl)))))), fun i => run_asc i.nd i.few⟩
theorem a_u_is_pair_of (T : Tx K mg t_LETTERS t_NAME_SIGNS t_LONGEST_NAME) (hk : HouseK K C) {f : Addr} {fd : FuncData} (F : FnP K "_is_pair_of" "_is_pair_of" s_u_is_pair_of f fd) (hm : mg "_is_pair_of" = some (.ref f)) {f_is_row : Addr} (m_is_row : mg "is_row" = some (.ref f_is_row)) (c_is_row : C8.Cal P w K mg base 1 "is_row" (spRowD K C Ω) []) : C8.Cal P w K mg base 2 "_is_pair_of" (spIsPair K C Ω) [] :=
  calX (n := 3) F hm sc_u_is_pair_of rfl (fun _ => rfl) (fun _ _ _ _ _ _ us hl => match us, hl with | [_, _], _ => rfl) fun cdv B outer s H E _ hr => ⟨_, (pss_cons (ps_if (PW.pt (pw_or (pt_not (pt_val (C8.pe_c c_is_row hr (by decide) rfl (pa_cons (pv 1) pa_nil)))) (pw_or1 (pt_cmpR op_ne (pe_callB (id := "len") (zlen K) (by rfl) T.b_len PySem.boot_len (pa_cons (pv 1) pa_nil)) pe_int (nomark _)))))
    (pss_one (ps_ret pe_bl))
    pss_nil)
  (pss_one (ps_ret (pe_callB (id := "all") (zall K rfl) (by rfl) T.b_all (by decide +kernel) (pa_cons (pe_lc (own := [("room", 2)]) (by rfl) sc_u_is_pair_of.nd (zpi_t K (pv 1)) (blkOk_by (own := [("room", 2)]) (N := n_u_is_pair_of) (sc := (defScope s_u_is_pair_of)) (by first | decide +kernel | rfl)) (fun _ _ _ _ _ => (pg_name (i := 2) sc_u_is_pair_of.nd rfl (by first | exact Or.inl rfl | exact Or.inr rfl))) (fun _ _ _ _ _ => pts_nil) (fun _ _ _ _ _ => (pe_and (pe_callB (id := "isinstance") (zisi K) (by rfl) T.b_isinstance (by decide +kernel) (pa_cons (pv 2) (pa_cons (pe_bltn (v := .ty "str") rfl T.b_str (by decide +kernel) rfl) pa_nil))) (pe_one (pe_cmp (pc_din (hu_of hr) (pv 2) (pv 0)) rfl))))) pa_nil))))), fun i => run_is_pair i⟩
theorem a_join_lots (T : Tx K mg t_LETTERS t_NAME_SIGNS t_LONGEST_NAME) (hk : HouseK K C) {f : Addr} {fd : FuncData} (F : FnP K "join_lots" "join_lots" s_join_lots f fd) (hm : mg "join_lots" = some (.ref f)) : C8.Cal P w K mg base 1 "join_lots" spJoin [] :=
  ⟨f, fd, _, [], F.ok sc_join_lots (fun vs H Q E z => by obtain ⟨l, ks, g, kept, lost, rfl, _⟩ := z; rfl) (fun cdv A outer s H vs Q E hr z => ⟨tJoin K, PSs.nox (pss_one (ps_for PassesOwn.never rfl (zpi_l K (pe_callTy (T := "list") (call_listD rfl) (by rfl) T.b_list (by decide +kernel) (pa_cons (pv 0) pa_nil))) (pg_name (i := 3) sc_join_lots.nd rfl (by first | exact Or.inl rfl | exact Or.inr rfl))
    (pss_one (ps_if (pt_cmpR op_eq (pe_dget (hu_of hr) (pv 0) (pv 3) (fun _ _ => rfl)) (pv 2) (nomark _))
      (pss_one (ps_dput (hu_of hr) (pv 0) (pv 3) (pv 1) rfl))
      pss_nil)))), run_join rfl z⟩), hm, F.kp, F.bindsN (fun _ _ _ _ _ _ us hl => match us, hl with | [_, _, _], _ => rfl), .nil⟩
theorem a_u_rooms_near (T : Tx K mg t_LETTERS t_NAME_SIGNS t_LONGEST_NAME) (hk : HouseK K C) {f : Addr} {fd : FuncData} (F : FnP K "_rooms_near" "_rooms_near" s_u_rooms_near f fd) (hm : mg "_rooms_near" = some (.ref f)) {f_u_is_pair_of : Addr} (m_u_is_pair_of : mg "_is_pair_of" = some (.ref f_u_is_pair_of)) (c_u_is_pair_of : C8.Cal P w K mg base 2 "_is_pair_of" (spIsPair K C Ω) []) {f_is_row : Addr} (m_is_row : mg "is_row" = some (.ref f_is_row)) (c_is_row : C8.Cal P w K mg base 1 "is_row" (spRowD K C Ω) []) {f_join_lots : Addr} (m_join_lots : mg "join_lots" = some (.ref f_join_lots)) (c_join_lots : C8.Cal P w K mg base 1 "join_lots" (spJoin) []) : C8.Cal P w K mg base 3 "_rooms_near" (spRoomsNear K C Ω) [] :=
  calX (n := 7) F hm sc_u_rooms_near rfl (fun _ => rfl) (fun _ _ _ _ _ _ us hl => match us, hl with | [_, _], _ => rfl) fun cdv B outer s H E _ hr => ⟨_, (pss_cons (ps_set (i := 2) sc_u_rooms_near.nd rfl (by first | exact Or.inl rfl | exact Or.inr rfl) (pe_dc (own := [("room", 3)]) (by rfl) sc_u_rooms_near.nd (zpi_l K (pv 0)) (blkOk_by (own := [("room", 3)]) (N := n_u_rooms_near) (sc := (defScope s_u_rooms_near)) (by first | decide +kernel | rfl)) (fun _ _ _ _ _ => (pg_name (i := 3) sc_u_rooms_near.nd rfl (by first | exact Or.inl rfl | exact Or.inr rfl))) (fun _ _ _ _ _ => pts_nil) (fun _ _ _ _ _ => (pv 3)) (fun _ _ _ _ _ => (pe_lst pa_nil))))
  (pss_cons (ps_setDc (own := [("room", 3)]) (i := 4) (by rfl) sc_u_rooms_near.nd rfl rfl (sw_trueD rfl rfl rfl (by decide +kernel)) (zpi_l K (pv 0)) (blkOk_by (own := [("room", 3)]) (N := n_u_rooms_near) (sc := (defScope s_u_rooms_near)) (by first | decide +kernel | rfl)) (fun _ _ _ _ _ => (pg_name (i := 3) sc_u_rooms_near.nd rfl (by first | exact Or.inl rfl | exact Or.inr rfl))) (fun _ _ _ _ _ => pts_nil) (fun _ _ _ _ _ => (pv 3)) (fun _ _ _ _ _ => (pv 3)))
  (pss_cons (ps_if (pt_not (pt_val (C8.pe_c c_is_row hr (by decide) rfl (pa_cons (pv 1) pa_nil))))
    (pss_one ps_never)
    pss_nil)
  (pss_cons (ps_for PassesOwn.never rfl (zpi_enum K (by rfl) T.b_enumerate (pa_cons (pv 1) pa_nil)) (zpg_tup K (n := 2) rfl (pgs_cons (pg_name (i := 5) sc_u_rooms_near.nd rfl (by first | exact Or.inl rfl | exact Or.inr rfl)) (pgs_cons (pg_name (i := 6) sc_u_rooms_near.nd rfl (by first | exact Or.inl rfl | exact Or.inr rfl)) pgs_nil)))
    (pss_cons (ps_if (PW.pt (pw_or (pt_not (pt_val (C8.pe_c c_u_is_pair_of hr (by decide) rfl (pa_cons (pv 2) (pa_cons (pv 6) pa_nil))))) (pw_or1 (pt_cmpR op_eq (pe_dget (hu_of hr) (pv 4) (pe_ix (zix_t K) (pv 6) pe_int (fun _ _ => rfl)) (fun _ _ => rfl)) (pe_dget (hu_of hr) (pv 4) (pe_ix (zix_t K) (pv 6) pe_int (fun _ _ => rfl)) (fun _ _ => rfl)) (nomark _)))))
      (pss_one ps_never)
      pss_nil)
    (pss_cons (ps_expr (C8.pe_c c_join_lots hr (by decide) rfl (pa_cons (pv 4) (pa_cons (pe_dget (hu_of hr) (pv 4) (pe_ix (zix_t K) (pv 6) pe_int (fun _ _ => rfl)) (fun _ _ => rfl)) (pa_cons (pe_dget (hu_of hr) (pv 4) (pe_ix (zix_t K) (pv 6) pe_int (fun _ _ => rfl)) (fun _ _ => rfl)) pa_nil)))))
    (pss_cons (ps_expr (zbm K PySem.F.plainAttrs_list PySem.F.slot_list_append PySem.F.type_list_append mt_append (pe_dget (hu_of hr) (pv 2) (pe_ix (zix_t K) (pv 6) pe_int (fun _ _ => rfl)) (fun _ _ => rfl)) (pa_cons (pe_ix (zix_t K) (pv 6) pe_int (fun _ _ => rfl)) pa_nil)))
    (pss_one (ps_expr (zbm K PySem.F.plainAttrs_list PySem.F.slot_list_append PySem.F.type_list_append mt_append (pe_dget (hu_of hr) (pv 2) (pe_ix (zix_t K) (pv 6) pe_int (fun _ _ => rfl)) (fun _ _ => rfl)) (pa_cons (pe_ix (zix_t K) (pv 6) pe_int (fun _ _ => rfl)) pa_nil))))))))
  (pss_cons (ps_for PassesOwn.never rfl (zpi_l K (pv 0)) (pg_name (i := 3) sc_u_rooms_near.nd rfl (by first | exact Or.inl rfl | exact Or.inr rfl))
    (pss_one (ps_if (pt_cmpR op_ne (pe_dget (hu_of hr) (pv 4) (pv 3) (fun _ _ => rfl)) (pe_dget (hu_of hr) (pv 4) (pe_ix (zix_l K) (pv 0) pe_int (fun _ _ => rfl)) (fun _ _ => rfl)) (nomark _))
      (pss_one ps_never)
      pss_nil)))
  (pss_one (ps_ret (pe_dc (own := [("room", 3)]) (by rfl) sc_u_rooms_near.nd (zpi_l K (pv 0)) (blkOk_by (own := [("room", 3)]) (N := n_u_rooms_near) (sc := (defScope s_u_rooms_near)) (by first | decide +kernel | rfl)) (fun _ _ _ _ _ => (pg_name (i := 3) sc_u_rooms_near.nd rfl (by first | exact Or.inl rfl | exact Or.inr rfl))) (fun _ _ _ _ _ => pts_nil) (fun _ _ _ _ _ => (pv 3)) (fun _ _ _ _ _ => (pe_callB (id := "sorted") (zsortS K) (by rfl) T.b_sorted (by decide +kernel) (pa_cons (pe_dget (hu_of hr) (pv 2) (pv 3) (fun _ _ => rfl)) pa_nil))))))))))), fun i => run_rooms_near_made i⟩
theorem HMk.same {i j : HMk} (e : [strsD i.rs, prsD i.es] = [strsD j.rs, prsD j.es]) : i.h = j.h := by
  injection e with e1 e2
  injection e2 with e2 _
  have h1 : i.rs = j.rs := strsD_in e1
  have h2 : i.es = j.es := prsD_in e2
  unfold HMk.h HMk.rooms
  rw [h1, h2]
theorem a_House_init (T : Tx K mg t_LETTERS t_NAME_SIGNS t_LONGEST_NAME) (hk : HouseK K C) {f : Addr} {fd : FuncData} (M : L2.Mk K C f) (hC : mg "House" = some (.ref C)) (F : FnP K "__init__" "House.__init__" s_House_init f fd) {f_is_name : Addr} (m_is_name : mg "is_name" = some (.ref f_is_name)) (c_is_name : C8.Cal P w K mg base 1 "is_name" (spIsName K C Ω) []) {f_u_rooms_near : Addr} (m_u_rooms_near : mg "_rooms_near" = some (.ref f_u_rooms_near)) (c_u_rooms_near : C8.Cal P w K mg base 3 "_rooms_near" (spRoomsNear K C Ω) []) {f_bad_index : Addr} (m_bad_index : mg "bad_index" = some (.ref f_bad_index)) (c_bad_index : C8.Cal P w K mg base 2 "bad_index" (spBadIx K C Ω f_is_name) []) : C8.Mak P w K mg base 4 "House" C (spInit K C Ω) [] :=
  ⟨f, fd, _, [], M, F.ok sc_House_init (fun vs H Q E z => by
    obtain ⟨W, F9, G, ds, p, dx, us, rfl, _, _, _, _, dd, ⟨i, rfl⟩, _⟩ := z
    exact congrArg (· + 1) dd.len.symm) (fun cdv A outer s H vs Q E hr z => ⟨_, PSs.nox (pss_cons (ps_set (i := 3) sc_House_init.nd rfl (by first | exact Or.inl rfl | exact Or.inr rfl) (C8.pe_c c_bad_index hr (by decide) rfl (pa_cons (pv 1) (pa_cons (pe_glob (v := .ref f_is_name) rfl m_is_name rfl) pa_nil))))
  (pss_cons (ps_if (PW.pt (pw_and (pt_cmpR op_isN (pv 3) pe_non (nomark _)) (pw_and1 (pt_cmpR op_eq (pe_callB (id := "len") (zlen K) (by rfl) T.b_len PySem.boot_len (pa_cons (pv 1) pa_nil)) pe_int (nomark _)))))
    (pss_one (ps_set (i := 3) sc_House_init.nd rfl (by first | exact Or.inl rfl | exact Or.inr rfl) pe_int))
    pss_nil)
  (pss_cons (ps_if (pt_cmpR op_notN (pv 3) pe_non (nomark _))
    (pss_one ps_never)
    pss_nil)
  (pss_cons (ps_fld (pv 0) (pe_callB (id := "sorted") (zsortS K) (by rfl) T.b_sorted (by decide +kernel) (pa_cons (pv 1) pa_nil)) rfl)
  (pss_cons (ps_fld (pv 0) (C8.pe_c c_u_rooms_near hr (by decide) rfl (pa_cons (zfld K (pv 0) rfl) (pa_cons (pv 2) pa_nil))) rfl)
  (pss_one (ps_fld (pv 0) (pe_lc2 (own := [("one", 4), ("other", 5)]) (vs1 := [5]) (by rfl) sc_House_init.nd (zpi_l K (zfld K (pv 0) rfl)) (blkOk_by (own := [("one", 4), ("other", 5)]) (N := n_House_init) (sc := (defScope s_House_init)) (by first | decide +kernel | rfl)) (by decide) (fun _ _ _ _ _ => (pg_name (i := 4) sc_House_init.nd rfl (by first | exact Or.inl rfl | exact Or.inr rfl))) (fun _ _ _ _ _ => pts_nil) (fun _ _ _ _ _ => (zpi_l K (pe_dget (hu_of hr) (zfld K (pv 0) rfl) (pv 4) (fun _ _ => rfl)))) (fun _ _ _ _ _ => (pg_name (i := 5) sc_House_init.nd rfl (by first | exact Or.inl rfl | exact Or.inr rfl))) (fun _ _ _ _ _ => (pts_one (pt_cmpR op_lt_str (pv 4) (pv 5) (nomark _)))) (fun _ _ _ _ _ => (pe_tup (pa_cons (pv 4) (pa_cons (pv 5) pa_nil))))) rfl))))))), run_init (n := 5) rfl (fun p ds hP => by
      obtain ⟨i, rfl⟩ := hP
      exact (run_house_init hk i).imp fun o z => init_imp (R2 := fun fs => ∀ j : HMk, [strsD i.rs, prsD i.es] = [strsD j.rs, prsD j.es] → fs = j.h.fs) z fun fs e j ej => e.trans (congrArg Hs.fs (HMk.same ej))) vs H Q E z⟩), hC, F.bindsN (fun _ _ _ _ _ _ us hl => match us, hl with | [_, _, _], _ => rfl), .nil⟩
theorem a_House_rooms (T : Tx K mg t_LETTERS t_NAME_SIGNS t_LONGEST_NAME) (hk : HouseK K C) {f : Addr} {fd : FuncData} (me : Meth K C "rooms" f) (F : FnP K "rooms" "House.rooms" s_House_rooms f fd)  : C8.Met P w K mg base 1 C "rooms" (spRooms K C Ω) [] :=
  ⟨f, fd, _, [], hk.cl, me, fnX (n := 1) F sc_House_rooms rfl (fun _ => rfl) fun cdv B outer s H E _ hr => ⟨_, (pss_one (ps_ret (pe_callTy (T := "list") (zlist K) (by rfl) T.b_list (by decide +kernel) (pa_cons (zfld K (pv 0) rfl) pa_nil)))), fun i => run_rooms hk⟩, F.bindsN (fun _ _ _ _ _ _ us hl => match us, hl with | [_], _ => rfl), .nil⟩
theorem a_House_len (T : Tx K mg t_LETTERS t_NAME_SIGNS t_LONGEST_NAME) (hk : HouseK K C) {f : Addr} {fd : FuncData} (me : Meth K C "__len__" f) (F : FnP K "__len__" "House.__len__" s_House_len f fd)  : C8.Met P w K mg base 1 C "__len__" (spLen K C Ω) [] :=
  ⟨f, fd, _, [], hk.cl, me, fnX (n := 1) F sc_House_len rfl (fun _ => rfl) fun cdv B outer s H E _ hr => ⟨_, (pss_one (ps_ret (pe_callB (id := "len") (zlen K) (by rfl) T.b_len PySem.boot_len (pa_cons (zfld K (pv 0) rfl) pa_nil)))), fun i => run_len hk⟩, F.bindsN (fun _ _ _ _ _ _ us hl => match us, hl with | [_], _ => rfl), .nil⟩
theorem a_rooms_near (T : Tx K mg t_LETTERS t_NAME_SIGNS t_LONGEST_NAME) (hk : HouseK K C) {f : Addr} {fd : FuncData} (F : FnP K "rooms_near" "rooms_near" s_rooms_near f fd) (hm : mg "rooms_near" = some (.ref f))  : C8.Cal P w K mg base 1 "rooms_near" (spNear K C Ω) [] :=
  calX (n := 1) F hm sc_rooms_near rfl (fun _ => rfl) (fun _ _ _ _ _ _ us hl => match us, hl with | [_], _ => rfl) fun cdv B outer s H E _ hr => ⟨_, (pss_one (ps_ret (zfld K (pv 0) rfl))), fun i => run_rooms_near hk⟩
theorem a_is_room (T : Tx K mg t_LETTERS t_NAME_SIGNS t_LONGEST_NAME) (hk : HouseK K C) {f : Addr} {fd : FuncData} (F : FnP K "is_room" "is_room" s_is_room f fd) (hm : mg "is_room" = some (.ref f))  : C8.Cal P w K mg base 1 "is_room" (spIsRoom K C Ω) [] :=
  calX (n := 2) F hm sc_is_room rfl (fun _ => rfl) (fun _ _ _ _ _ _ us hl => match us, hl with | [_, _], _ => rfl) fun cdv B outer s H E _ hr => ⟨_, (pss_one (ps_ret (pe_and (pe_callB (id := "isinstance") (zisi K) (by rfl) T.b_isinstance (by decide +kernel) (pa_cons (pv 1) (pa_cons (pe_bltn (v := .ty "str") rfl T.b_str (by decide +kernel) rfl) pa_nil))) (pe_one (pe_cmp (pc_din (hu_of hr) (pv 1) (zfld K (pv 0) rfl)) rfl))))), fun i => run_is_room hk i.2⟩
theorem a_need_room (T : Tx K mg t_LETTERS t_NAME_SIGNS t_LONGEST_NAME) (hk : HouseK K C) {f : Addr} {fd : FuncData} (F : FnP K "need_room" "need_room" s_need_room f fd) (hm : mg "need_room" = some (.ref f)) {f_is_room : Addr} (m_is_room : mg "is_room" = some (.ref f_is_room)) (c_is_room : C8.Cal P w K mg base 1 "is_room" (spIsRoom K C Ω) []) : C8.Cal P w K mg base 2 "need_room" (spNeedRoom K C Ω) [] :=
  calX (n := 2) F hm sc_need_room rfl (fun _ => rfl) (fun _ _ _ _ _ _ us hl => match us, hl with | [_, _], _ => rfl) fun cdv B outer s H E _ hr => ⟨_, (pss_one (ps_if (pt_not (pt_val (C8.pe_c c_is_room hr (by decide) rfl (pa_cons (pv 0) (pa_cons (pv 1) pa_nil)))))
    (pss_one ps_never)
    pss_nil)), fun i => run_need_room i.e⟩
theorem a_is_of_all (T : Tx K mg t_LETTERS t_NAME_SIGNS t_LONGEST_NAME) (hk : HouseK K C) {f : Addr} {fd : FuncData} (F : FnP K "is_of_all" "is_of_all" s_is_of_all f fd) (hm : mg "is_of_all" = some (.ref f)) (c_House_len : C8.Met P w K mg base 1 C "__len__" (spLen K C Ω) []) : C8.Cal P w K mg base 3 "is_of_all" (spOfAll K C Ω) [] :=
  calX (n := 3) F hm sc_is_of_all rfl (fun _ => rfl) (fun _ _ _ _ _ _ us hl => match us, hl with | [_, _], _ => rfl) fun cdv B outer s H E _ hr => ⟨_, (pss_cons (ps_if (PW.pt (pw_or (pt_not (pt_val (pe_callB (id := "isinstance") (zisi K) (by rfl) T.b_isinstance (by decide +kernel) (pa_cons (pv 1) (pa_cons (pe_bltn (v := .ty "dict") rfl T.b_dict (by decide +kernel) rfl) pa_nil))))) (pw_or1 (pt_cmpR op_ne (pe_callB (id := "len") call_lenR (by rfl) T.b_len PySem.boot_len (pa_cons (pv 1) pa_nil)) (pe_callB (id := "len") (call_lenO c_House_len hr (by decide)) (by rfl) T.b_len PySem.boot_len (pa_cons (pv 0) pa_nil)) (nomark _)))))
    (pss_one (ps_ret pe_bl))
    pss_nil)
  (pss_one (ps_ret (pe_callB (id := "all") (zall K rfl) (by rfl) T.b_all (by decide +kernel) (pa_cons (pe_lk (pe_lc (own := [("room", 2)]) (by rfl) sc_is_of_all.nd (pi_keys (zfld K (pv 0) rfl)) (blkOk_by (own := [("room", 2)]) (N := n_is_of_all) (sc := (defScope s_is_of_all)) (by first | decide +kernel | rfl)) (fun _ _ _ _ _ => (pg_name (i := 2) sc_is_of_all.nd rfl (by first | exact Or.inl rfl | exact Or.inr rfl))) (fun _ _ _ _ _ => pts_nil) (fun _ _ _ _ _ => (pe_cmp (pc_din (hu_of hr) (pv 2) (pv 1)) rfl)))) pa_nil))))), fun i => run_of_all hk i.ok.near.few i.ok.fewN i.a⟩
theorem a_ahead_from (T : Tx K mg t_LETTERS t_NAME_SIGNS t_LONGEST_NAME) (hk : HouseK K C) {f : Addr} {fd : FuncData} (F : FnP K "ahead_from" "ahead_from" s_ahead_from f fd) (hm : mg "ahead_from" = some (.ref f)) {f_rooms_near : Addr} (m_rooms_near : mg "rooms_near" = some (.ref f_rooms_near)) (c_rooms_near : C8.Cal P w K mg base 1 "rooms_near" (spNear K C Ω) []) : C8.Cal P w K mg base 2 "ahead_from" (spAhead K C Ω) [] :=
  calX (n := 8) F hm sc_ahead_from rfl (fun _ => rfl) (fun _ _ _ _ _ _ us hl => match us, hl with | [_, _], _ => rfl) fun cdv B outer s H E _ hr => ⟨_, (pss_cons (ps_set (i := 2) sc_ahead_from.nd rfl (by first | exact Or.inl rfl | exact Or.inr rfl) (C8.pe_c c_rooms_near hr (by decide) rfl (pa_cons (pv 0) pa_nil)))
  (pss_cons (ps_set (i := 3) sc_ahead_from.nd rfl (by first | exact Or.inl rfl | exact Or.inr rfl) (pe_disp (pps_cons (pv 1) pe_non pps_nil) (by rfl) (by rfl) (fun z => by cases z) (by decide)))
  (pss_cons (ps_set (i := 4) sc_ahead_from.nd rfl (by first | exact Or.inl rfl | exact Or.inr rfl) (pe_lst (pa_cons (pv 1) pa_nil)))
  (pss_cons (ps_set (i := 5) sc_ahead_from.nd rfl (by first | exact Or.inl rfl | exact Or.inr rfl) pe_int)
  (pss_cons (ps_while PassesOwn.never (pt_cmpR op_lt (pv 5) (pe_callB (id := "len") (zlen K) (by rfl) T.b_len PySem.boot_len (pa_cons (pv 4) pa_nil)) (nomark _))
    (pss_cons (ps_set (i := 6) sc_ahead_from.nd rfl (by first | exact Or.inl rfl | exact Or.inr rfl) (pe_ix (zix_l K) (pv 4) (pv 5) (fun _ _ => rfl)))
    (pss_cons (ps_for PassesOwn.never rfl (zpi_l K (pe_dget (hu_of hr) (pv 2) (pv 6) (fun _ _ => rfl))) (pg_name (i := 7) sc_ahead_from.nd rfl (by first | exact Or.inl rfl | exact Or.inr rfl))
      (pss_one (ps_if (pt_cmp (pc_dnotin (hu_of hr) (pv 7) (pv 3)))
        (pss_cons (ps_dput (hu_of hr) (pv 3) (pv 7) (pv 6) rfl)
        (pss_one (ps_expr (zbm K PySem.F.plainAttrs_list PySem.F.slot_list_append PySem.F.type_list_append mt_append (pv 4) (pa_cons (pv 7) pa_nil)))))
        pss_nil)))
    (pss_one (ps_aug (i := 5) sc_ahead_from.nd rfl (by first | exact Or.inl rfl | exact Or.inr rfl) pe_int ip_add)))))
  (pss_one (ps_ret (pv 3)))))))), fun i => run_ahead i.ok.near i.hf⟩
theorem a_way_back (T : Tx K mg t_LETTERS t_NAME_SIGNS t_LONGEST_NAME) (hk : HouseK K C) {f : Addr} {fd : FuncData} (F : FnP K "way_back" "way_back" s_way_back f fd) (hm : mg "way_back" = some (.ref f))  : C8.Cal P w K mg base 1 "way_back" (spBack K C Ω) [] :=
  calX (n := 3) F hm sc_way_back rfl (fun _ => rfl) (fun _ _ _ _ _ _ us hl => match us, hl with | [_, _], _ => rfl) fun cdv B outer s H E _ hr => ⟨_, (pss_cons (ps_set (i := 2) sc_way_back.nd rfl (by first | exact Or.inl rfl | exact Or.inr rfl) (pe_lst (pa_cons (pv 1) pa_nil)))
  (pss_cons (ps_while PassesOwn.never (pt_cmpR op_notN (pe_dget (hu_of hr) (pv 0) (pe_ix (zix_l K) (pv 2) (pe_un un_neg pe_int) (fun _ _ => rfl)) (fun _ _ => rfl)) pe_non (nomark _))
    (pss_one (ps_expr (zbm K PySem.F.plainAttrs_list PySem.F.slot_list_append PySem.F.type_list_append mt_append (pv 2) (pa_cons (pe_dget (hu_of hr) (pv 0) (pe_ix (zix_l K) (pv 2) (pe_un un_neg pe_int) (fun _ _ => rfl)) (fun _ _ => rfl)) pa_nil)))))
  (pss_one (ps_ret (pv 2))))), fun i => run_back i.M i.few i.hr⟩
theorem a_way (T : Tx K mg t_LETTERS t_NAME_SIGNS t_LONGEST_NAME) (hk : HouseK K C) {f : Addr} {fd : FuncData} (F : FnP K "way" "way" s_way f fd) (hm : mg "way" = some (.ref f)) {f_ahead_from : Addr} (m_ahead_from : mg "ahead_from" = some (.ref f_ahead_from)) (c_ahead_from : C8.Cal P w K mg base 2 "ahead_from" (spAhead K C Ω) []) {f_need_room : Addr} (m_need_room : mg "need_room" = some (.ref f_need_room)) (c_need_room : C8.Cal P w K mg base 2 "need_room" (spNeedRoom K C Ω) []) {f_way_back : Addr} (m_way_back : mg "way_back" = some (.ref f_way_back)) (c_way_back : C8.Cal P w K mg base 1 "way_back" (spBack K C Ω) []) : C8.Cal P w K mg base 3 "way" (spWay K C Ω) [] :=
  calX (n := 3) F hm sc_way rfl (fun _ => rfl) (fun _ _ _ _ _ _ us hl => match us, hl with | [_, _, _], _ => rfl) fun cdv B outer s H E _ hr => ⟨_, (pss_cons (ps_expr (C8.pe_c c_need_room hr (by decide) rfl (pa_cons (pv 0) (pa_cons (pv 1) pa_nil))))
  (pss_cons (ps_expr (C8.pe_c c_need_room hr (by decide) rfl (pa_cons (pv 0) (pa_cons (pv 2) pa_nil))))
  (pss_one (ps_ret (C8.pe_c c_way_back hr (by decide) rfl (pa_cons (C8.pe_c c_ahead_from hr (by decide) rfl (pa_cons (pv 0) (pa_cons (pv 2) pa_nil))) (pa_cons (pv 1) pa_nil))))))), fun i => run_way i⟩
theorem a_is_woods (T : Tx K mg t_LETTERS t_NAME_SIGNS t_LONGEST_NAME) (hk : HouseK K C) {f : Addr} {fd : FuncData} (F : FnP K "is_woods" "is_woods" s_is_woods f fd) (hm : mg "is_woods" = some (.ref f)) (c_House_rooms : C8.Met P w K mg base 1 C "rooms" (spRooms K C Ω) []) {f_is_from_one : Addr} (m_is_from_one : mg "is_from_one" = some (.ref f_is_from_one)) (c_is_from_one : C8.Cal P w K mg base 2 "is_from_one" (spFromOne K C Ω) []) {f_is_of_all : Addr} (m_is_of_all : mg "is_of_all" = some (.ref f_is_of_all)) (c_is_of_all : C8.Cal P w K mg base 3 "is_of_all" (spOfAll K C Ω) []) : C8.Cal P w K mg base 4 "is_woods" (spIsWoods K C Ω) [] :=
  calX (n := 3) F hm sc_is_woods rfl (fun _ => rfl) (fun _ _ _ _ _ _ us hl => match us, hl with | [_, _], _ => rfl) fun cdv B outer s H E _ hr => ⟨_, (pss_one (ps_ret (pe_and (C8.pe_c c_is_of_all hr (by decide) rfl (pa_cons (pv 0) (pa_cons (pv 1) pa_nil))) (pe_one (pe_callB (id := "all") (zall K rfl) (by rfl) T.b_all (by decide +kernel) (pa_cons (pe_lc (own := [("room", 2)]) (by rfl) sc_is_woods.nd (zpi_l K (C8.pe_mt0 c_House_rooms hr (by decide) (pv 0))) (blkOk_by (own := [("room", 2)]) (N := n_is_woods) (sc := (defScope s_is_woods)) (by first | decide +kernel | rfl)) (fun _ _ _ _ _ => (pg_name (i := 2) sc_is_woods.nd rfl (by first | exact Or.inl rfl | exact Or.inr rfl))) (fun _ _ _ _ _ => pts_nil) (fun _ _ _ _ _ => (C8.pe_c c_is_from_one hr (by decide) rfl (pa_cons (pe_dget (hu_of hr) (pv 1) (pv 2) (fun _ _ => rfl)) pa_nil)))) pa_nil)))))), fun i => run_is_woods i⟩
theorem a_need_woods (T : Tx K mg t_LETTERS t_NAME_SIGNS t_LONGEST_NAME) (hk : HouseK K C) {f : Addr} {fd : FuncData} (F : FnP K "need_woods" "need_woods" s_need_woods f fd) (hm : mg "need_woods" = some (.ref f)) {f_is_woods : Addr} (m_is_woods : mg "is_woods" = some (.ref f_is_woods)) (c_is_woods : C8.Cal P w K mg base 4 "is_woods" (spIsWoods K C Ω) []) : C8.Cal P w K mg base 5 "need_woods" (spNeedWoods K C Ω) [] :=
  calX (n := 2) F hm sc_need_woods rfl (fun _ => rfl) (fun _ _ _ _ _ _ us hl => match us, hl with | [_, _], _ => rfl) fun cdv B outer s H E _ hr => ⟨_, (pss_one (ps_if (pt_not (pt_val (C8.pe_c c_is_woods hr (by decide) rfl (pa_cons (pv 0) (pa_cons (pv 1) pa_nil)))))
    (pss_one ps_never)
    pss_nil)), fun i => run_need_woods i⟩
theorem a_spread (T : Tx K mg t_LETTERS t_NAME_SIGNS t_LONGEST_NAME) (hk : HouseK K C) {f : Addr} {fd : FuncData} (F : FnP K "spread" "spread" s_spread f fd) (hm : mg "spread" = some (.ref f)) {f_need_woods : Addr} (m_need_woods : mg "need_woods" = some (.ref f_need_woods)) (c_need_woods : C8.Cal P w K mg base 5 "need_woods" (spNeedWoods K C Ω) []) {f_way : Addr} (m_way : mg "way" = some (.ref f_way)) (c_way : C8.Cal P w K mg base 3 "way" (spWay K C Ω) []) : C8.Cal P w K mg base 6 "spread" (spSpread K C Ω) [] :=
  calX (n := 6) F hm sc_spread rfl (fun _ => rfl) (fun _ _ _ _ _ _ us hl => match us, hl with | [_, _, _, _], _ => rfl) fun cdv B outer s H E _ hr => ⟨_, (pss_cons (ps_expr (C8.pe_c c_need_woods hr (by decide) rfl (pa_cons (pv 0) (pa_cons (pv 1) pa_nil))))
  (pss_cons (ps_set (i := 4) sc_spread.nd rfl (by first | exact Or.inl rfl | exact Or.inr rfl) (C8.pe_c c_way hr (by decide) rfl (pa_cons (pv 0) (pa_cons (pv 2) (pa_cons (pv 3) pa_nil)))))
  (pss_one (ps_ret (pe_tup (pa_cons (pe_op op_sub (pe_callB (id := "len") (zlen K) (by rfl) T.b_len PySem.boot_len (pa_cons (pv 4) pa_nil)) pe_int) (pa_cons (pe_callB (id := "sum") (zsum K rfl) (by rfl) T.b_sum (by decide +kernel) (pa_cons (pe_lc (own := [("room", 5)]) (by rfl) sc_spread.nd (zpi_l K (pe_slice (zsl_l K) (pv 4) po_none (po_some (pe_un un_neg pe_int)))) (blkOk_by (own := [("room", 5)]) (N := n_spread) (sc := (defScope s_spread)) (by first | decide +kernel | rfl)) (fun _ _ _ _ _ => (pg_name (i := 5) sc_spread.nd rfl (by first | exact Or.inl rfl | exact Or.inr rfl))) (fun _ _ _ _ _ => pts_nil) (fun _ _ _ _ _ => (pe_dget (hu_of hr) (pv 1) (pv 5) (fun _ _ => rfl)))) pa_nil)) pa_nil))))))), fun i => run_spread i⟩
def qE : Str := (envOfC "earliest_room" (defScope s_earliest_room) 0 0 .none).qual ++ "<lambda>"
theorem a_earliest_room (T : Tx K mg t_LETTERS t_NAME_SIGNS t_LONGEST_NAME) (hk : HouseK K C) {Pa ca : Addr} (TBc : LamX.TabB base mg ca Pa) (hTT : (Pa, qE) ∈ Ω) (huT : ∀ t ∈ Ω, t.1 = Pa → t.2 = qE) {f : Addr} {fd : FuncData} (hca : fd.code = .ref ca) (F : FnP K "earliest_room" "earliest_room" s_earliest_room f fd) (hm : mg "earliest_room" = some (.ref f)) (c_House_rooms : C8.Met P w K mg base 1 C "rooms" (spRooms K C Ω) []) : C8.Cal P w K mg base 6 "earliest_room" (spEarly K C Ω) [] :=
  calX (n := 2) F hm sc_earliest_room rfl (fun _ => rfl) (fun _ _ _ _ _ _ us hl => match us, hl with | [_, _], _ => rfl) fun cdv B outer s H E hc hr => by
  have e : cdv = .ref ca := hc.symm.trans hca
  subst e
  exact ⟨_, (pss_one (ps_ret (pe_minL (p := "room") (Ω := Ω) (k := 3) (by rfl) (by rfl) T.b_min (C8.pe_mt0 c_House_rooms hr (by decide) (pv 0)) TBc rfl hTT huT (hr.mono (by decide : 5 ≤ 5)) (lamP_by (by first | decide +kernel | rfl)) (show ("room" : Str) ∉ n_earliest_room by decide +kernel) (by rfl) (by intros; rfl) (fun _ _ _ _ hr => (pe_dget (hu_of hr) (pv 1) (pv 2) (fun _ _ => rfl)))))), fun i => run_early hTT i.ok i.a⟩
theorem a_is_fire (T : Tx K mg t_LETTERS t_NAME_SIGNS t_LONGEST_NAME) (hk : HouseK K C) {f : Addr} {fd : FuncData} (F : FnP K "is_fire" "is_fire" s_is_fire f fd) (hm : mg "is_fire" = some (.ref f)) (c_House_rooms : C8.Met P w K mg base 1 C "rooms" (spRooms K C Ω) []) {f_ahead_from : Addr} (m_ahead_from : mg "ahead_from" = some (.ref f_ahead_from)) (c_ahead_from : C8.Cal P w K mg base 2 "ahead_from" (spAhead K C Ω) []) {f_earliest_room : Addr} (m_earliest_room : mg "earliest_room" = some (.ref f_earliest_room)) (c_earliest_room : C8.Cal P w K mg base 6 "earliest_room" (spEarly K C Ω) []) {f_is_integer : Addr} (m_is_integer : mg "is_integer" = some (.ref f_is_integer)) (c_is_integer : C8.Cal P w K mg base 1 "is_integer" (spIsInt K C Ω) []) {f_is_of_all : Addr} (m_is_of_all : mg "is_of_all" = some (.ref f_is_of_all)) (c_is_of_all : C8.Cal P w K mg base 3 "is_of_all" (spOfAll K C Ω) []) {f_need_woods : Addr} (m_need_woods : mg "need_woods" = some (.ref f_need_woods)) (c_need_woods : C8.Cal P w K mg base 5 "need_woods" (spNeedWoods K C Ω) []) : C8.Cal P w K mg base 7 "is_fire" (spIsFire K C Ω) [] :=
  calX (n := 6) F hm sc_is_fire rfl (fun _ => rfl) (fun _ _ _ _ _ _ us hl => match us, hl with | [_, _, _], _ => rfl) fun cdv B outer s H E _ hr => ⟨_, (pss_cons (ps_expr (C8.pe_c c_need_woods hr (by decide) rfl (pa_cons (pv 0) (pa_cons (pv 1) pa_nil))))
  (pss_cons (ps_if (PW.pt (pw_or (pt_not (pt_val (C8.pe_c c_is_of_all hr (by decide) rfl (pa_cons (pv 0) (pa_cons (pv 2) pa_nil))))) (pw_or1 (pt_not (pt_val (pe_callB (id := "all") (zall K rfl) (by rfl) T.b_all (by decide +kernel) (pa_cons (pe_lc (own := [("room", 3)]) (by rfl) sc_is_fire.nd (zpi_l K (C8.pe_mt0 c_House_rooms hr (by decide) (pv 0))) (blkOk_by (own := [("room", 3)]) (N := n_is_fire) (sc := (defScope s_is_fire)) (by first | decide +kernel | rfl)) (fun _ _ _ _ _ => (pg_name (i := 3) sc_is_fire.nd rfl (by first | exact Or.inl rfl | exact Or.inr rfl))) (fun _ _ _ _ _ => pts_nil) (fun _ _ _ _ _ => (C8.pe_c c_is_integer hr (by decide) rfl (pa_cons (pe_dget (hu_of hr) (pv 2) (pv 3) (fun _ _ => rfl)) pa_nil)))) pa_nil)))))))
    (pss_one (ps_ret pe_bl))
    pss_nil)
  (pss_cons (ps_set (i := 4) sc_is_fire.nd rfl (by first | exact Or.inl rfl | exact Or.inr rfl) (C8.pe_c c_ahead_from hr (by decide) rfl (pa_cons (pv 0) (pa_cons (C8.pe_c c_earliest_room hr (by decide) rfl (pa_cons (pv 0) (pa_cons (pv 2) pa_nil))) pa_nil))))
  (pss_cons (ps_lk (ps_for PassesOwn.never rfl (pi_items (pv 4)) (zpg_tup K (n := 2) rfl (pgs_cons (pg_name (i := 3) sc_is_fire.nd rfl (by first | exact Or.inl rfl | exact Or.inr rfl)) (pgs_cons (pg_name (i := 5) sc_is_fire.nd rfl (by first | exact Or.inl rfl | exact Or.inr rfl)) pgs_nil)))
    (pss_one (ps_if (PW.pt (pw_and (pt_cmpR op_notN (pv 5) pe_non (nomark _)) (pw_and1 (pt_not (pt_chain op_le op_le pe_int (pe_op op_sub (pe_dget (hu_of hr) (pv 2) (pv 3) (fun _ _ => rfl)) (pe_dget (hu_of hr) (pv 2) (pv 5) (fun _ _ => rfl))) (pe_dget (hu_of hr) (pv 1) (pv 5) (fun _ _ => rfl)))))))
      (pss_one (ps_ret pe_bl))
      pss_nil))))
  (pss_one (ps_ret pe_bl)))))), fun i => run_is_fire i⟩
theorem a_need_fire (T : Tx K mg t_LETTERS t_NAME_SIGNS t_LONGEST_NAME) (hk : HouseK K C) {f : Addr} {fd : FuncData} (F : FnP K "need_fire" "need_fire" s_need_fire f fd) (hm : mg "need_fire" = some (.ref f)) {f_is_fire : Addr} (m_is_fire : mg "is_fire" = some (.ref f_is_fire)) (c_is_fire : C8.Cal P w K mg base 7 "is_fire" (spIsFire K C Ω) []) : C8.Cal P w K mg base 8 "need_fire" (spNeedFire K C Ω) [] :=
  calX (n := 3) F hm sc_need_fire rfl (fun _ => rfl) (fun _ _ _ _ _ _ us hl => match us, hl with | [_, _, _], _ => rfl) fun cdv B outer s H E _ hr => ⟨_, (pss_one (ps_if (pt_not (pt_val (C8.pe_c c_is_fire hr (by decide) rfl (pa_cons (pv 0) (pa_cons (pv 1) (pa_cons (pv 2) pa_nil))))))
    (pss_one ps_never)
    pss_nil)), fun i => run_need_fire i⟩
theorem a_first_of (T : Tx K mg t_LETTERS t_NAME_SIGNS t_LONGEST_NAME) (hk : HouseK K C) {f : Addr} {fd : FuncData} (F : FnP K "first_of" "first_of" s_first_of f fd) (hm : mg "first_of" = some (.ref f)) {f_earliest_room : Addr} (m_earliest_room : mg "earliest_room" = some (.ref f_earliest_room)) (c_earliest_room : C8.Cal P w K mg base 6 "earliest_room" (spEarly K C Ω) []) {f_need_fire : Addr} (m_need_fire : mg "need_fire" = some (.ref f_need_fire)) (c_need_fire : C8.Cal P w K mg base 8 "need_fire" (spNeedFire K C Ω) []) : C8.Cal P w K mg base 9 "first_of" (spFirstOf K C Ω) [] :=
  calX (n := 3) F hm sc_first_of rfl (fun _ => rfl) (fun _ _ _ _ _ _ us hl => match us, hl with | [_, _, _], _ => rfl) fun cdv B outer s H E _ hr => ⟨_, (pss_cons (ps_expr (C8.pe_c c_need_fire hr (by decide) rfl (pa_cons (pv 0) (pa_cons (pv 1) (pa_cons (pv 2) pa_nil)))))
  (pss_one (ps_ret (C8.pe_c c_earliest_room hr (by decide) rfl (pa_cons (pv 0) (pa_cons (pv 2) pa_nil)))))), fun i => run_first_of i⟩
theorem a_lit_from (T : Tx K mg t_LETTERS t_NAME_SIGNS t_LONGEST_NAME) (hk : HouseK K C) {f : Addr} {fd : FuncData} (F : FnP K "lit_from" "lit_from" s_lit_from f fd) (hm : mg "lit_from" = some (.ref f)) {f_ahead_from : Addr} (m_ahead_from : mg "ahead_from" = some (.ref f_ahead_from)) (c_ahead_from : C8.Cal P w K mg base 2 "ahead_from" (spAhead K C Ω) []) {f_ascending : Addr} (m_ascending : mg "ascending" = some (.ref f_ascending)) (c_ascending : C8.Cal P w K mg base 1 "ascending" (spAsc K C Ω) []) {f_earliest_room : Addr} (m_earliest_room : mg "earliest_room" = some (.ref f_earliest_room)) (c_earliest_room : C8.Cal P w K mg base 6 "earliest_room" (spEarly K C Ω) []) {f_need_fire : Addr} (m_need_fire : mg "need_fire" = some (.ref f_need_fire)) (c_need_fire : C8.Cal P w K mg base 8 "need_fire" (spNeedFire K C Ω) []) : C8.Cal P w K mg base 9 "lit_from" (spLitFrom K C Ω) [] :=
  calX (n := 3) F hm sc_lit_from rfl (fun _ => rfl) (fun _ _ _ _ _ _ us hl => match us, hl with | [_, _, _], _ => rfl) fun cdv B outer s H E _ hr => ⟨_, (pss_cons (ps_expr (C8.pe_c c_need_fire hr (by decide) rfl (pa_cons (pv 0) (pa_cons (pv 1) (pa_cons (pv 2) pa_nil)))))
  (pss_one (ps_ret (C8.pe_c c_ascending hr (by decide) rfl (pa_cons (C8.pe_c c_ahead_from hr (by decide) rfl (pa_cons (pv 0) (pa_cons (C8.pe_c c_earliest_room hr (by decide) rfl (pa_cons (pv 0) (pa_cons (pv 2) pa_nil))) pa_nil))) pa_nil))))), fun i => run_lit_from i⟩
theorem a_law_start (T : Tx K mg t_LETTERS t_NAME_SIGNS t_LONGEST_NAME) (hk : HouseK K C) {f : Addr} {fd : FuncData} (F : FnP K "_law_start" "_law_start" s_law_start f fd) (hm : mg "_law_start" = some (.ref f)) : C8.Cal P w K mg base 1 "_law_start" (spStart K) [] :=
  ⟨f, fd, _, [], F.ok sc_law_start (fun vs H Q E z => by obtain ⟨a, ns, rfl, _⟩ := z; rfl) (fun cdv A outer s H vs Q E hr z => ⟨tStart K, PSs.nox (pss_one (ps_ret (pe_lst (pa_cons (pe_callTy (T := "list") (zlist K) (by rfl) T.b_list (by decide +kernel) (pa_cons (pv 0) pa_nil)) (pa_cons pe_int (pa_cons pe_int (pa_cons pe_int pa_nil))))))), run_start rfl z⟩), hm, F.kp, F.bindsN (fun _ _ _ _ _ _ us hl => match us, hl with | [_], _ => rfl), .nil⟩
theorem a_law_draw (T : Tx K mg t_LETTERS t_NAME_SIGNS t_LONGEST_NAME) (hk : HouseK K C) {f : Addr} {fd : FuncData} (F : FnP K "_law_draw" "_law_draw" s_law_draw f fd) (hm : mg "_law_draw" = some (.ref f)) : C8.Cal P w K mg base 1 "_law_draw" (spDraw K C Ω) [] :=
  cal_draw F hm sc_law_draw (by decide) rfl (fun _ _ _ _ _ _ us hl => match us, hl with | [_, _], _ => rfl) fun cdv A outer s H E hr => (pss_cons (ps_asg (pe_op op_add (pe_ix (zix_l K) (pv 0) pe_int (fun _ _ => rfl)) pe_int) (pg_sub (pv 0) pe_int set_list))
  (pss_cons (ps_while PassesOwn.never (PW.pt (pw_and (pt_cmpR op_eq (pe_ix (zix_l K) (pv 0) pe_int (fun _ _ => rfl)) pe_int (nomark _)) (pw_and1 (pt_cmpR (zneD K hr.units) (pe_ix (zix_l K) (pv 0) pe_int (fun _ _ => rfl)) (pe_lst pa_nil) (nomark _)))))
    (pss_cons (ps_set (i := 2) sc_law_draw.nd rfl (by first | exact Or.inl rfl | exact Or.inr rfl) (zbm K PySem.F.plainAttrs_list PySem.F.slot_list_pop PySem.F.type_list_pop mt_popAt (pe_ix (zix_l K) (pv 0) pe_int (fun _ _ => rfl)) (pa_cons pe_int pa_nil)))
    (pss_cons (ps_asg (pe_op op_mod (pe_callTy (T := "int") call_int1 (by rfl) T.b_int (by decide +kernel) (pa_cons (pe_op op_add (pe_op op_add (pe_op op_mul (pe_ix (zix_l K) (pv 0) pe_int (fun _ _ => rfl)) pe_int) (pv 2)) pe_int) pa_nil)) pe_int) (pg_sub (pv 0) pe_int set_list))
    (pss_one (ps_asg (pe_ifExp (pt_cmpR op_ge (pv 2) (pe_op op_pow pe_int pe_int) (nomark _)) (pv 2) pe_int) (pg_sub (pv 0) pe_int set_list))))))
  (pss_cons (ps_if (pt_cmpR op_gt (pe_ix (zix_l K) (pv 0) pe_int (fun _ _ => rfl)) pe_int (nomark _))
    (pss_cons (ps_set (i := 3) sc_law_draw.nd rfl (by first | exact Or.inl rfl | exact Or.inr rfl) (pe_op op_mod (pe_callTy (T := "int") call_int1 (by rfl) T.b_int (by decide +kernel) (pa_cons (pe_ix (zix_l K) (pv 0) pe_int (fun _ _ => rfl)) pa_nil)) (pv 1)))
    (pss_cons (ps_asg (pe_op op_fdiv (pe_ix (zix_l K) (pv 0) pe_int (fun _ _ => rfl)) (pv 1)) (pg_sub (pv 0) pe_int set_list))
    (pss_one (ps_ret (pv 3)))))
    pss_nil)
  (pss_cons (ps_set (i := 4) sc_law_draw.nd rfl (by first | exact Or.inl rfl | exact Or.inr rfl) (pe_op op_mod (pe_callTy (T := "int") call_int1 (by rfl) T.b_int (by decide +kernel) (pa_cons (pe_op op_pow (pe_op op_add (pe_op op_add (pe_ix (zix_l K) (pv 0) pe_int (fun _ _ => rfl)) (pe_op op_mul pe_int (pe_ix (zix_l K) (pv 0) pe_int (fun _ _ => rfl)))) pe_int) pe_int) pa_nil)) pe_int))
  (pss_one (ps_ret (pe_op op_mod (pe_op op_mod (pe_callTy (T := "int") call_int1 (by rfl) T.b_int (by decide +kernel) (pa_cons (pe_op op_pow (pe_op op_add (pe_op op_add (pe_op op_mul (pv 4) pe_int) (pe_op op_mul pe_int (pe_ix (zix_l K) (pv 0) pe_int (fun _ _ => rfl)))) pe_int) pe_int) pa_nil)) pe_int) (pv 1))))))))
theorem a_law_pick (T : Tx K mg t_LETTERS t_NAME_SIGNS t_LONGEST_NAME) (hk : HouseK K C) {f : Addr} {fd : FuncData} (F : FnP K "_law_pick" "_law_pick" s_law_pick f fd) (hm : mg "_law_pick" = some (.ref f)) {f_law_draw : Addr} (m_law_draw : mg "_law_draw" = some (.ref f_law_draw)) (c_law_draw : C8.Cal P w K mg base 1 "_law_draw" (spDraw K C Ω) []) : C8.Cal P w K mg base 2 "_law_pick" (spPick K C Ω) [] :=
  calX (n := 2) F hm sc_law_pick rfl (fun _ => rfl) (fun _ _ _ _ _ _ us hl => match us, hl with | [_, _], _ => rfl) fun cdv B outer s H E _ hr => ⟨_, (pss_one (ps_ret (pe_ix (zix_l K) (pv 1) (C8.pe_c c_law_draw hr (by decide) rfl (pa_cons (pv 0) (pa_cons (pe_callB (id := "len") (zlen K) (by rfl) T.b_len PySem.boot_len (pa_cons (pv 1) pa_nil)) pa_nil))) (fun _ _ => rfl)))), fun i => pick_run i.ne i.few⟩
theorem a_law_mixed (T : Tx K mg t_LETTERS t_NAME_SIGNS t_LONGEST_NAME) (hk : HouseK K C) {f : Addr} {fd : FuncData} (F : FnP K "_law_mixed" "_law_mixed" s_law_mixed f fd) (hm : mg "_law_mixed" = some (.ref f)) {f_law_draw : Addr} (m_law_draw : mg "_law_draw" = some (.ref f_law_draw)) (c_law_draw : C8.Cal P w K mg base 1 "_law_draw" (spDraw K C Ω) []) : C8.Cal P w K mg base 2 "_law_mixed" (spMix K C Ω) [] :=
  calX (n := 4) F hm sc_law_mixed rfl (fun _ => rfl) (fun _ _ _ _ _ _ us hl => match us, hl with | [_, _], _ => rfl) fun cdv B outer s H E _ hr => ⟨_, (pss_cons (ps_set (i := 2) sc_law_mixed.nd rfl (by first | exact Or.inl rfl | exact Or.inr rfl) (pe_callTy (T := "list") (zlist K) (by rfl) T.b_list (by decide +kernel) (pa_cons (pv 1) pa_nil)))
  (pss_one (ps_ret (pe_lc (own := [("k", 3)]) (by rfl) sc_law_mixed.nd (pi_range1 (by rfl) T.b_range (pa_cons (pe_callB (id := "len") (zlen K) (by rfl) T.b_len PySem.boot_len (pa_cons (pv 2) pa_nil)) pa_nil)) (blkOk_by (own := [("k", 3)]) (N := n_law_mixed) (sc := (defScope s_law_mixed)) (by first | decide +kernel | rfl)) (fun _ _ _ _ _ => (pg_name (i := 3) sc_law_mixed.nd rfl (by first | exact Or.inl rfl | exact Or.inr rfl))) (fun _ _ _ _ _ => pts_nil) (fun _ _ _ _ _ => (zbm K PySem.F.plainAttrs_list PySem.F.slot_list_pop PySem.F.type_list_pop mt_popAt (pv 2) (pa_cons (C8.pe_c c_law_draw hr (by decide) rfl (pa_cons (pv 0) (pa_cons (pe_callB (id := "len") (zlen K) (by rfl) T.b_len PySem.boot_len (pa_cons (pv 2) pa_nil)) pa_nil))) pa_nil))))))), fun i => mix_run i.few⟩
theorem v_law_same (T : Tx K mg t_LETTERS t_NAME_SIGNS t_LONGEST_NAME) (hk : HouseK K C) {f : Addr} {fd : FuncData} (F : FnP K "_law_same" "_law_same" s_law_same f fd) (hm : mg "_law_same" = some (.ref f)) : C8.Cal P w K mg base 1 "_law_same" (fun _ _ _ _ => False) [] :=
  ⟨f, fd, _, [], F.ok sc_law_same (fun _ _ _ _ z => z.elim) (fun _ _ _ _ _ _ _ _ _ z => z.elim), hm, F.kp, F.bindsN (fun _ _ _ _ _ _ us hl => match us, hl with | [_, _], _ => rfl), .nil⟩
theorem a_law_sameB (T : Tx K mg t_LETTERS t_NAME_SIGNS t_LONGEST_NAME) (hk : HouseK K C) {f : Addr} {fd : FuncData} (F : FnP K "_law_same" "_law_same" s_law_same f fd) (hm : mg "_law_same" = some (.ref f)) {sp_law_same : Sp} {f_law_same : Addr} (m_law_same : mg "_law_same" = some (.ref f_law_same)) (c_law_same : C8.Cal P w K mg base 1 "_law_same" sp_law_same []) : C8.Cal P w K mg base 2 "_law_same" (spSameB K C Ω) [] :=
  calX (n := 4) F hm sc_law_same rfl (fun _ => rfl) (fun _ _ _ _ _ _ us hl => match us, hl with | [_, _], _ => rfl) fun cdv B outer s H E _ hr => ⟨_, (pss_cons (ps_if (pt_val (pe_callB (id := "isinstance") (zisiT K) (by rfl) T.b_isinstance (by decide +kernel) (pa_cons (pv 1) (pa_cons (pe_tup (pa_cons (pe_bltn (v := .ty "list") rfl T.b_list (by decide +kernel) rfl) (pa_cons (pe_bltn (v := .ty "tuple") rfl T.b_tuple (by decide +kernel) rfl) pa_nil))) pa_nil))))
    (pss_cons (ps_if (PW.pt (pw_or (pt_cmpR op_ne (pe_callB (id := "isinstance") (zisi K) (by rfl) T.b_isinstance (by decide +kernel) (pa_cons (pv 0) (pa_cons (pe_bltn (v := .ty "list") rfl T.b_list (by decide +kernel) rfl) pa_nil))) (pe_callB (id := "isinstance") (zisi K) (by rfl) T.b_isinstance (by decide +kernel) (pa_cons (pv 1) (pa_cons (pe_bltn (v := .ty "list") rfl T.b_list (by decide +kernel) rfl) pa_nil))) (nomark _)) (pw_or1 (pt_cmpR op_ne (pe_callB (id := "isinstance") (zisi K) (by rfl) T.b_isinstance (by decide +kernel) (pa_cons (pv 0) (pa_cons (pe_bltn (v := .ty "tuple") rfl T.b_tuple (by decide +kernel) rfl) pa_nil))) (pe_callB (id := "isinstance") (zisi K) (by rfl) T.b_isinstance (by decide +kernel) (pa_cons (pv 1) (pa_cons (pe_bltn (v := .ty "tuple") rfl T.b_tuple (by decide +kernel) rfl) pa_nil))) (nomark _)))))
      (pss_one (ps_ret pe_bl))
      pss_nil)
    (pss_one (ps_ret (pe_and (pe_cmpR op_eq (pe_callB (id := "len") (zlen K) (by rfl) T.b_len PySem.boot_len (pa_cons (pv 0) pa_nil)) (pe_callB (id := "len") (zlen K) (by rfl) T.b_len PySem.boot_len (pa_cons (pv 1) pa_nil)) (nomark _)) (pe_one (pe_callB (id := "all") (zall K rfl) (by rfl) T.b_all (by decide +kernel) (pa_cons (pe_lc (own := [("x", 2), ("y", 3)]) (by rfl) sc_law_same.nd (pi_zip (by rfl) T.b_zip (pa_cons (pv 0) (pa_cons (pv 1) pa_nil))) (blkOk_by (own := [("x", 2), ("y", 3)]) (N := n_law_same) (sc := (defScope s_law_same)) (by first | decide +kernel | rfl)) (fun _ _ _ _ _ => (zpg_tup K (n := 2) rfl (pgs_cons (pg_name (i := 2) sc_law_same.nd rfl (by first | exact Or.inl rfl | exact Or.inr rfl)) (pgs_cons (pg_name (i := 3) sc_law_same.nd rfl (by first | exact Or.inl rfl | exact Or.inr rfl)) pgs_nil)))) (fun _ _ _ _ _ => pts_nil) (fun _ _ _ _ _ => (C8.pe_c c_law_same hr (by decide) rfl (pa_cons (pv 2) (pa_cons (pv 3) pa_nil))))) pa_nil)))))))
    pss_nil)
  (pss_cons (ps_if (pt_val (pe_callB (id := "isinstance") (zisi K) (by rfl) T.b_isinstance (by decide +kernel) (pa_cons (pv 1) (pa_cons (pe_bltn (v := .ty "dict") rfl T.b_dict (by decide +kernel) rfl) pa_nil))))
    (pss_one (ps_ret (pe_and (pe_callB (id := "isinstance") (zisi K) (by rfl) T.b_isinstance (by decide +kernel) (pa_cons (pv 0) (pa_cons (pe_bltn (v := .ty "dict") rfl T.b_dict (by decide +kernel) rfl) pa_nil))) (pe_one (C8.pe_c c_law_same hr (by decide) rfl (pa_cons (pe_liR rfl (pv 0) rfl T.b_list (by decide +kernel)) (pa_cons (pe_liR rfl (pv 1) rfl T.b_list (by decide +kernel)) pa_nil)))))))
    pss_nil)
  (pss_cons (ps_if (pt_val (pe_callB (id := "isinstance") (zisi K) (by rfl) T.b_isinstance (by decide +kernel) (pa_cons (pv 1) (pa_cons (pe_bltn (v := .ty "int") rfl T.b_int (by decide +kernel) rfl) pa_nil))))
    (pss_one (ps_ret (pe_and (pe_callB (id := "isinstance") (zisi K) (by rfl) T.b_isinstance (by decide +kernel) (pa_cons (pv 0) (pa_cons (pe_bltn (v := .ty "int") rfl T.b_int (by decide +kernel) rfl) pa_nil))) (pe_and (pe_cmpR op_eq (pe_callB (id := "isinstance") (zisi K) (by rfl) T.b_isinstance (by decide +kernel) (pa_cons (pv 0) (pa_cons (pe_bltn (v := .ty "bool") rfl T.b_bool (by decide +kernel) rfl) pa_nil))) (pe_callB (id := "isinstance") (zisi K) (by rfl) T.b_isinstance (by decide +kernel) (pa_cons (pv 1) (pa_cons (pe_bltn (v := .ty "bool") rfl T.b_bool (by decide +kernel) rfl) pa_nil))) (nomark _)) (pe_one (pe_cmpR (zeqD K hr.units) (pv 0) (pv 1) (nomark _)))))))
    pss_nil)
  (pss_one (ps_ret (pe_and (pe_not (pe_callB (id := "isinstance") (zisiT K) (by rfl) T.b_isinstance (by decide +kernel) (pa_cons (pv 0) (pa_cons (pe_tup (pa_cons (pe_bltn (v := .ty "int") rfl T.b_int (by decide +kernel) rfl) (pa_cons (pe_bltn (v := .ty "list") rfl T.b_list (by decide +kernel) rfl) (pa_cons (pe_bltn (v := .ty "tuple") rfl T.b_tuple (by decide +kernel) rfl) (pa_cons (pe_bltn (v := .ty "dict") rfl T.b_dict (by decide +kernel) rfl) pa_nil))))) pa_nil)))) (pe_one (pe_cmpR (zeqD K hr.units) (pv 0) (pv 1) (nomark _))))))))), fun i => run_same_b i.1 i.2⟩
theorem a_law_same (T : Tx K mg t_LETTERS t_NAME_SIGNS t_LONGEST_NAME) (hk : HouseK K C) {f : Addr} {fd : FuncData} (F : FnP K "_law_same" "_law_same" s_law_same f fd) (hm : mg "_law_same" = some (.ref f)) {f_law_same : Addr} (m_law_same : mg "_law_same" = some (.ref f_law_same)) (c_law_same : C8.Cal P w K mg base 2 "_law_same" (spSameB K C Ω) []) : C8.Cal P w K mg base 3 "_law_same" (spSameL K C Ω) [] :=
  calX (n := 4) F hm sc_law_same rfl (fun _ => rfl) (fun _ _ _ _ _ _ us hl => match us, hl with | [_, _], _ => rfl) fun cdv B outer s H E _ hr => ⟨_, (pss_cons (ps_if (pt_val (pe_callB (id := "isinstance") (zisiT K) (by rfl) T.b_isinstance (by decide +kernel) (pa_cons (pv 1) (pa_cons (pe_tup (pa_cons (pe_bltn (v := .ty "list") rfl T.b_list (by decide +kernel) rfl) (pa_cons (pe_bltn (v := .ty "tuple") rfl T.b_tuple (by decide +kernel) rfl) pa_nil))) pa_nil))))
    (pss_cons (ps_if (PW.pt (pw_or (pt_cmpR op_ne (pe_callB (id := "isinstance") (zisi K) (by rfl) T.b_isinstance (by decide +kernel) (pa_cons (pv 0) (pa_cons (pe_bltn (v := .ty "list") rfl T.b_list (by decide +kernel) rfl) pa_nil))) (pe_callB (id := "isinstance") (zisi K) (by rfl) T.b_isinstance (by decide +kernel) (pa_cons (pv 1) (pa_cons (pe_bltn (v := .ty "list") rfl T.b_list (by decide +kernel) rfl) pa_nil))) (nomark _)) (pw_or1 (pt_cmpR op_ne (pe_callB (id := "isinstance") (zisi K) (by rfl) T.b_isinstance (by decide +kernel) (pa_cons (pv 0) (pa_cons (pe_bltn (v := .ty "tuple") rfl T.b_tuple (by decide +kernel) rfl) pa_nil))) (pe_callB (id := "isinstance") (zisi K) (by rfl) T.b_isinstance (by decide +kernel) (pa_cons (pv 1) (pa_cons (pe_bltn (v := .ty "tuple") rfl T.b_tuple (by decide +kernel) rfl) pa_nil))) (nomark _)))))
      (pss_one (ps_ret pe_bl))
      pss_nil)
    (pss_one (ps_ret (pe_and (pe_cmpR op_eq (pe_callB (id := "len") (zlen K) (by rfl) T.b_len PySem.boot_len (pa_cons (pv 0) pa_nil)) (pe_callB (id := "len") (zlen K) (by rfl) T.b_len PySem.boot_len (pa_cons (pv 1) pa_nil)) (nomark _)) (pe_one (pe_callB (id := "all") (zall K rfl) (by rfl) T.b_all (by decide +kernel) (pa_cons (pe_lc (own := [("x", 2), ("y", 3)]) (by rfl) sc_law_same.nd (pi_zip (by rfl) T.b_zip (pa_cons (pv 0) (pa_cons (pv 1) pa_nil))) (blkOk_by (own := [("x", 2), ("y", 3)]) (N := n_law_same) (sc := (defScope s_law_same)) (by first | decide +kernel | rfl)) (fun _ _ _ _ _ => (zpg_tup K (n := 2) rfl (pgs_cons (pg_name (i := 2) sc_law_same.nd rfl (by first | exact Or.inl rfl | exact Or.inr rfl)) (pgs_cons (pg_name (i := 3) sc_law_same.nd rfl (by first | exact Or.inl rfl | exact Or.inr rfl)) pgs_nil)))) (fun _ _ _ _ _ => pts_nil) (fun _ _ _ _ _ => (C8.pe_c c_law_same hr (by decide) rfl (pa_cons (pv 2) (pa_cons (pv 3) pa_nil))))) pa_nil)))))))
    pss_nil)
  (pss_cons (ps_if (pt_val (pe_callB (id := "isinstance") (zisi K) (by rfl) T.b_isinstance (by decide +kernel) (pa_cons (pv 1) (pa_cons (pe_bltn (v := .ty "dict") rfl T.b_dict (by decide +kernel) rfl) pa_nil))))
    (pss_one (ps_ret (pe_and (pe_callB (id := "isinstance") (zisi K) (by rfl) T.b_isinstance (by decide +kernel) (pa_cons (pv 0) (pa_cons (pe_bltn (v := .ty "dict") rfl T.b_dict (by decide +kernel) rfl) pa_nil))) (pe_one (C8.pe_c c_law_same hr (by decide) rfl (pa_cons (pe_liR rfl (pv 0) rfl T.b_list (by decide +kernel)) (pa_cons (pe_liR rfl (pv 1) rfl T.b_list (by decide +kernel)) pa_nil)))))))
    pss_nil)
  (pss_cons (ps_if (pt_val (pe_callB (id := "isinstance") (zisi K) (by rfl) T.b_isinstance (by decide +kernel) (pa_cons (pv 1) (pa_cons (pe_bltn (v := .ty "int") rfl T.b_int (by decide +kernel) rfl) pa_nil))))
    (pss_one (ps_ret (pe_and (pe_callB (id := "isinstance") (zisi K) (by rfl) T.b_isinstance (by decide +kernel) (pa_cons (pv 0) (pa_cons (pe_bltn (v := .ty "int") rfl T.b_int (by decide +kernel) rfl) pa_nil))) (pe_and (pe_cmpR op_eq (pe_callB (id := "isinstance") (zisi K) (by rfl) T.b_isinstance (by decide +kernel) (pa_cons (pv 0) (pa_cons (pe_bltn (v := .ty "bool") rfl T.b_bool (by decide +kernel) rfl) pa_nil))) (pe_callB (id := "isinstance") (zisi K) (by rfl) T.b_isinstance (by decide +kernel) (pa_cons (pv 1) (pa_cons (pe_bltn (v := .ty "bool") rfl T.b_bool (by decide +kernel) rfl) pa_nil))) (nomark _)) (pe_one (pe_cmpR (zeqD K hr.units) (pv 0) (pv 1) (nomark _)))))))
    pss_nil)
  (pss_one (ps_ret (pe_and (pe_not (pe_callB (id := "isinstance") (zisiT K) (by rfl) T.b_isinstance (by decide +kernel) (pa_cons (pv 0) (pa_cons (pe_tup (pa_cons (pe_bltn (v := .ty "int") rfl T.b_int (by decide +kernel) rfl) (pa_cons (pe_bltn (v := .ty "list") rfl T.b_list (by decide +kernel) rfl) (pa_cons (pe_bltn (v := .ty "tuple") rfl T.b_tuple (by decide +kernel) rfl) (pa_cons (pe_bltn (v := .ty "dict") rfl T.b_dict (by decide +kernel) rfl) pa_nil))))) pa_nil)))) (pe_one (pe_cmpR (zeqD K hr.units) (pv 0) (pv 1) (nomark _))))))))), fun i => run_same_l i.1 i.2⟩
theorem a_law_each_once (T : Tx K mg t_LETTERS t_NAME_SIGNS t_LONGEST_NAME) (hk : HouseK K C) {f : Addr} {fd : FuncData} (F : FnP K "_law_each_once" "_law_each_once" s_law_each_once f fd) (hm : mg "_law_each_once" = some (.ref f))  : C8.Cal P w K mg base 1 "_law_each_once" (spOnce K C Ω) [] :=
  calX (n := 3) F hm sc_law_each_once rfl (fun _ => rfl) (fun _ _ _ _ _ _ us hl => match us, hl with | [_], _ => rfl) fun cdv B outer s H E _ hr => ⟨_, (pss_cons (ps_set (i := 1) sc_law_each_once.nd rfl (by first | exact Or.inl rfl | exact Or.inr rfl) (pe_lst pa_nil))
  (pss_cons (ps_for PassesOwn.never rfl (zpi_l K (pv 0)) (pg_name (i := 2) sc_law_each_once.nd rfl (by first | exact Or.inl rfl | exact Or.inr rfl))
    (pss_one (ps_if (pt_cmpR (znotin K) (pv 2) (pv 1) (by rfl))
      (pss_one (ps_expr (zbm K PySem.F.plainAttrs_list PySem.F.slot_list_append PySem.F.type_list_append mt_append (pv 1) (pa_cons (pv 2) pa_nil))))
      pss_nil)))
  (pss_one (ps_ret (pv 1))))), fun i => run_once i⟩
theorem a_law_h_names (T : Tx K mg t_LETTERS t_NAME_SIGNS t_LONGEST_NAME) (hk : HouseK K C) {f : Addr} {fd : FuncData} (F : FnP K "_law_h_names" "_law_h_names" s_law_h_names f fd) (hm : mg "_law_h_names" = some (.ref f)) {f_law_mixed : Addr} (m_law_mixed : mg "_law_mixed" = some (.ref f_law_mixed)) (c_law_mixed : C8.Cal P w K mg base 2 "_law_mixed" (spMix K C Ω) []) : C8.Cal P w K mg base 3 "_law_h_names" (spNames K C Ω) [] :=
  calX (n := 3) F hm sc_law_h_names rfl (fun _ => rfl) (fun _ _ _ _ _ _ us hl => match us, hl with | [_, _], _ => rfl) fun cdv B outer s H E _ hr => ⟨_, (pss_cons (ps_set (i := 2) sc_law_h_names.nd rfl (by first | exact Or.inl rfl | exact Or.inr rfl) (pe_lst (pa_cons pe_str (pa_cons pe_str (pa_cons pe_str (pa_cons pe_str (pa_cons pe_str (pa_cons pe_str (pa_cons pe_str (pa_cons pe_str (pa_cons pe_str (pa_cons pe_str (pa_cons pe_str (pa_cons pe_str pa_nil))))))))))))))
  (pss_one (ps_ret (pe_slice (zsl_l K) (C8.pe_c c_law_mixed hr (by decide) rfl (pa_cons (pv 0) (pa_cons (pv 2) pa_nil))) po_none (po_some (pv 1)))))), fun i => run_names i⟩
theorem a_law_h_doors (T : Tx K mg t_LETTERS t_NAME_SIGNS t_LONGEST_NAME) (hk : HouseK K C) {f : Addr} {fd : FuncData} (F : FnP K "_law_h_doors" "_law_h_doors" s_law_h_doors f fd) (hm : mg "_law_h_doors" = some (.ref f)) {f_law_draw : Addr} (m_law_draw : mg "_law_draw" = some (.ref f_law_draw)) (c_law_draw : C8.Cal P w K mg base 1 "_law_draw" (spDraw K C Ω) []) {f_law_mixed : Addr} (m_law_mixed : mg "_law_mixed" = some (.ref f_law_mixed)) (c_law_mixed : C8.Cal P w K mg base 2 "_law_mixed" (spMix K C Ω) []) : C8.Cal P w K mg base 3 "_law_h_doors" (spDoors K C Ω) [] :=
  calX (n := 7) F hm sc_law_h_doors rfl (fun _ => rfl) (fun _ _ _ _ _ _ us hl => match us, hl with | [_, _], _ => rfl) fun cdv B outer s H E _ hr => ⟨_, (pss_cons (ps_par (i := 2) (j := 3) (by rfl) sc_law_h_doors.nd rfl rfl (by decide) rfl rfl (pa_cons (C8.pe_c c_law_draw hr (by decide) rfl (pa_cons (pv 0) (pa_cons pe_int pa_nil))) (pa_cons (pe_lst pa_nil) pa_nil)) (by rfl))
  (pss_cons (ps_for PassesOwn.never rfl (pi_range2 (by rfl) T.b_range (pa_cons pe_int (pa_cons (pe_callB (id := "len") (zlen K) (by rfl) T.b_len PySem.boot_len (pa_cons (pv 1) pa_nil)) pa_nil))) (pg_name (i := 4) sc_law_h_doors.nd rfl (by first | exact Or.inl rfl | exact Or.inr rfl))
    (pss_cons (ps_set (i := 5) sc_law_h_doors.nd rfl (by first | exact Or.inl rfl | exact Or.inr rfl) (pe_ix (zix_l K) (pe_lst (pa_cons (pe_op op_sub (pv 4) pe_int) (pa_cons pe_int (pa_cons (C8.pe_c c_law_draw hr (by decide) rfl (pa_cons (pv 0) (pa_cons (pv 4) pa_nil))) (pa_cons (pe_callB (id := "max") (call_max2 rfl) (by rfl) T.b_max (by decide +kernel) (pa_cons pe_int (pa_cons (pe_op op_sub (pe_op op_sub (pv 4) pe_int) (C8.pe_c c_law_draw hr (by decide) rfl (pa_cons (pv 0) (pa_cons pe_int pa_nil)))) pa_nil))) pa_nil))))) (pv 2) (fun _ _ => rfl)))
    (pss_cons (ps_set (i := 6) sc_law_h_doors.nd rfl (by first | exact Or.inl rfl | exact Or.inr rfl) (pe_tup (pa_cons (pe_ix (zix_l K) (pv 1) (pv 5) (fun _ _ => rfl)) (pa_cons (pe_ix (zix_l K) (pv 1) (pv 4) (fun _ _ => rfl)) pa_nil))))
    (pss_one (ps_expr (zbm K PySem.F.plainAttrs_list PySem.F.slot_list_append PySem.F.type_list_append mt_append (pv 3) (pa_cons (pe_ifExp (pt_cmpR op_eq (C8.pe_c c_law_draw hr (by decide) rfl (pa_cons (pv 0) (pa_cons pe_int pa_nil))) pe_int (nomark _)) (pv 6) (pe_revT (pv 6))) pa_nil)))))))
  (pss_one (ps_ret (C8.pe_c c_law_mixed hr (by decide) rfl (pa_cons (pv 0) (pa_cons (pv 3) pa_nil))))))), fun i => run_doors_drawn i⟩
theorem a_law_h_house (T : Tx K mg t_LETTERS t_NAME_SIGNS t_LONGEST_NAME) (hk : HouseK K C) {f : Addr} {fd : FuncData} (F : FnP K "_law_h_house" "_law_h_house" s_law_h_house f fd) (hm : mg "_law_h_house" = some (.ref f)) {f_law_draw : Addr} (m_law_draw : mg "_law_draw" = some (.ref f_law_draw)) (c_law_draw : C8.Cal P w K mg base 1 "_law_draw" (spDraw K C Ω) []) {f_law_h_doors : Addr} (m_law_h_doors : mg "_law_h_doors" = some (.ref f_law_h_doors)) (c_law_h_doors : C8.Cal P w K mg base 3 "_law_h_doors" (spDoors K C Ω) []) {f_law_h_names : Addr} (m_law_h_names : mg "_law_h_names" = some (.ref f_law_h_names)) (c_law_h_names : C8.Cal P w K mg base 3 "_law_h_names" (spNames K C Ω) []) {f_law_mixed : Addr} (m_law_mixed : mg "_law_mixed" = some (.ref f_law_mixed)) (c_law_mixed : C8.Cal P w K mg base 2 "_law_mixed" (spMix K C Ω) []) : C8.Cal P w K mg base 4 "_law_h_house" (spHouse K C Ω) [] :=
  calX (n := 3) F hm sc_law_h_house rfl (fun _ => rfl) (fun _ _ _ _ _ _ us hl => match us, hl with | [_, _], _ => rfl) fun cdv B outer s H E _ hr => ⟨_, (pss_cons (ps_set (i := 2) sc_law_h_house.nd rfl (by first | exact Or.inl rfl | exact Or.inr rfl) (C8.pe_c c_law_h_names hr (by decide) rfl (pa_cons (pv 0) (pa_cons (pe_op op_add pe_int (C8.pe_c c_law_draw hr (by decide) rfl (pa_cons (pv 0) (pa_cons (pv 1) pa_nil)))) pa_nil))))
  (pss_one (ps_ret (pe_tup (pa_cons (C8.pe_c c_law_mixed hr (by decide) rfl (pa_cons (pv 0) (pa_cons (pv 2) pa_nil))) (pa_cons (C8.pe_c c_law_h_doors hr (by decide) rfl (pa_cons (pv 0) (pa_cons (pv 2) pa_nil))) pa_nil)))))), fun i => run_house i⟩
theorem a_law_h_beside (T : Tx K mg t_LETTERS t_NAME_SIGNS t_LONGEST_NAME) (hk : HouseK K C) {f : Addr} {fd : FuncData} (F : FnP K "_law_h_beside" "_law_h_beside" s_law_h_beside f fd) (hm : mg "_law_h_beside" = some (.ref f))  : C8.Cal P w K mg base 1 "_law_h_beside" (spBeside K C Ω) [] :=
  calX (n := 5) F hm sc_law_h_beside rfl (fun _ => rfl) (fun _ _ _ _ _ _ us hl => match us, hl with | [_, _], _ => rfl) fun cdv B outer s H E _ hr => ⟨_, (pss_cons (ps_set (i := 2) sc_law_h_beside.nd rfl (by first | exact Or.inl rfl | exact Or.inr rfl) (pe_op op_cat (pe_lc (own := [("one", 3), ("other", 4)]) (by rfl) sc_law_h_beside.nd (zpi_l K (pv 0)) (blkOk_by (own := [("one", 3), ("other", 4)]) (N := n_law_h_beside) (sc := (defScope s_law_h_beside)) (by first | decide +kernel | rfl)) (fun _ _ _ _ _ => (zpg_tup K (n := 2) rfl (pgs_cons (pg_name (i := 3) sc_law_h_beside.nd rfl (by first | exact Or.inl rfl | exact Or.inr rfl)) (pgs_cons (pg_name (i := 4) sc_law_h_beside.nd rfl (by first | exact Or.inl rfl | exact Or.inr rfl)) pgs_nil)))) (fun _ _ _ _ _ => (pts_one (pt_cmpR op_eq (pv 3) (pv 1) (nomark _)))) (fun _ _ _ _ _ => (pv 4))) (pe_lc (own := [("one", 3), ("other", 4)]) (by rfl) sc_law_h_beside.nd (zpi_l K (pv 0)) (blkOk_by (own := [("one", 3), ("other", 4)]) (N := n_law_h_beside) (sc := (defScope s_law_h_beside)) (by first | decide +kernel | rfl)) (fun _ _ _ _ _ => (zpg_tup K (n := 2) rfl (pgs_cons (pg_name (i := 3) sc_law_h_beside.nd rfl (by first | exact Or.inl rfl | exact Or.inr rfl)) (pgs_cons (pg_name (i := 4) sc_law_h_beside.nd rfl (by first | exact Or.inl rfl | exact Or.inr rfl)) pgs_nil)))) (fun _ _ _ _ _ => (pts_one (pt_cmpR op_eq (pv 4) (pv 1) (nomark _)))) (fun _ _ _ _ _ => (pv 3)))))
  (pss_one (ps_ret (pe_callB (id := "sorted") (zsortS K) (by rfl) T.b_sorted (by decide +kernel) (pa_cons (pv 2) pa_nil))))), fun i => run_beside i⟩
theorem a_law_h_woods (T : Tx K mg t_LETTERS t_NAME_SIGNS t_LONGEST_NAME) (hk : HouseK K C) {f : Addr} {fd : FuncData} (F : FnP K "_law_h_woods" "_law_h_woods" s_law_h_woods f fd) (hm : mg "_law_h_woods" = some (.ref f)) {f_law_draw : Addr} (m_law_draw : mg "_law_draw" = some (.ref f_law_draw)) (c_law_draw : C8.Cal P w K mg base 1 "_law_draw" (spDraw K C Ω) []) : C8.Cal P w K mg base 2 "_law_h_woods" (spHWoods K C Ω) [] :=
  calX (n := 4) F hm sc_law_h_woods rfl (fun _ => rfl) (fun _ _ _ _ _ _ us hl => match us, hl with | [_, _, _], _ => rfl) fun cdv B outer s H E _ hr => ⟨_, (pss_one (ps_ret (pe_callTy (T := "dict") (zdict K rfl) (by rfl) T.b_dict (by decide +kernel) (pa_cons (pe_lc (own := [("room", 3)]) (by rfl) sc_law_h_woods.nd (zpi_l K (pe_callB (id := "sorted") (zsortS K) (by rfl) T.b_sorted (by decide +kernel) (pa_cons (pv 1) pa_nil))) (blkOk_by (own := [("room", 3)]) (N := n_law_h_woods) (sc := (defScope s_law_h_woods)) (by first | decide +kernel | rfl)) (fun _ _ _ _ _ => (pg_name (i := 3) sc_law_h_woods.nd rfl (by first | exact Or.inl rfl | exact Or.inr rfl))) (fun _ _ _ _ _ => pts_nil) (fun _ _ _ _ _ => (pe_tup (pa_cons (pv 3) (pa_cons (pe_op op_add pe_int (C8.pe_c c_law_draw hr (by decide) rfl (pa_cons (pv 0) (pa_cons (pv 2) pa_nil)))) pa_nil))))) pa_nil)))), fun i => run_hwoods i⟩
theorem a_law_h_burns (T : Tx K mg t_LETTERS t_NAME_SIGNS t_LONGEST_NAME) (hk : HouseK K C) {f : Addr} {fd : FuncData} (F : FnP K "_law_h_burns" "_law_h_burns" s_law_h_burns f fd) (hm : mg "_law_h_burns" = some (.ref f)) {f_law_h_beside : Addr} (m_law_h_beside : mg "_law_h_beside" = some (.ref f_law_h_beside)) (c_law_h_beside : C8.Cal P w K mg base 1 "_law_h_beside" (spBeside K C Ω) []) : C8.Cal P w K mg base 2 "_law_h_burns" (spBurns K C Ω) [] :=
  calX (n := 9) F hm sc_law_h_burns rfl (fun _ => rfl) (fun _ _ _ _ _ _ us hl => match us, hl with | [_, _, _], _ => rfl) fun cdv B outer s H E _ hr => ⟨_, (pss_cons (ps_lk (ps_for PassesOwn.never rfl (pi_keys (pv 2)) (pg_name (i := 3) sc_law_h_burns.nd rfl (by first | exact Or.inl rfl | exact Or.inr rfl))
    (pss_cons (ps_par3 (i := 4) (j := 5) (l := 6) rfl sc_law_h_burns.nd rfl rfl rfl (by decide) (by decide) (by decide) rfl rfl rfl (pa_cons (pe_lst (pa_cons (pv 3) pa_nil)) (pa_cons (pe_lst (pa_cons (pv 3) pa_nil)) (pa_cons pe_bl pa_nil))) (by rfl))
    (pss_cons (ps_while PassesOwn.never (pt_cmpR (zneD K hr.units) (pv 5) (pe_lst pa_nil) (nomark _))
      (pss_cons (ps_set (i := 7) sc_law_h_burns.nd rfl (by first | exact Or.inl rfl | exact Or.inr rfl) (zbm0 K PySem.F.plainAttrs_list PySem.F.slot_list_pop PySem.F.type_list_pop mt_pop (pv 5)))
      (pss_one (ps_for PassesOwn.never rfl (zpi_l K (C8.pe_c c_law_h_beside hr (by decide) rfl (pa_cons (pv 0) (pa_cons (pv 7) pa_nil)))) (pg_name (i := 8) sc_law_h_burns.nd rfl (by first | exact Or.inl rfl | exact Or.inr rfl))
        (pss_one (ps_if (pt_cmpR (znotin K) (pv 8) (pv 4) (by rfl))
          (pss_cons (ps_expr (zbm K PySem.F.plainAttrs_list PySem.F.slot_list_append PySem.F.type_list_append mt_append (pv 4) (pa_cons (pv 8) pa_nil)))
          (pss_cons (ps_expr (zbm K PySem.F.plainAttrs_list PySem.F.slot_list_append PySem.F.type_list_append mt_append (pv 5) (pa_cons (pv 8) pa_nil)))
          (pss_one (ps_set (i := 6) sc_law_h_burns.nd rfl (by first | exact Or.inl rfl | exact Or.inr rfl) (pe_and (pv 6) (pe_one (pe_chain op_le op_le pe_int (pe_op op_sub (pe_dget (hu_of hr) (pv 2) (pv 8) (fun _ _ => rfl)) (pe_dget (hu_of hr) (pv 2) (pv 7) (fun _ _ => rfl))) (pe_dget (hu_of hr) (pv 1) (pv 7) (fun _ _ => rfl)))))))))
          pss_nil))))))
    (pss_one (ps_if (pt_val (pv 6))
      (pss_one (ps_ret pe_bl))
      pss_nil))))))
  (pss_one (ps_ret pe_bl))), fun i => run_burns i⟩
theorem a_law_h_from (T : Tx K mg t_LETTERS t_NAME_SIGNS t_LONGEST_NAME) (hk : HouseK K C) {f : Addr} {fd : FuncData} (F : FnP K "_law_h_from" "_law_h_from" s_law_h_from f fd) (hm : mg "_law_h_from" = some (.ref f)) {f_law_h_beside : Addr} (m_law_h_beside : mg "_law_h_beside" = some (.ref f_law_h_beside)) (c_law_h_beside : C8.Cal P w K mg base 1 "_law_h_beside" (spBeside K C Ω) []) : C8.Cal P w K mg base 2 "_law_h_from" (spHFrom K C Ω) [] :=
  calX (n := 4) F hm sc_law_h_from rfl (fun _ => rfl) (fun _ _ _ _ _ _ us hl => match us, hl with | [_, _, _], _ => rfl) fun cdv B outer s H E _ hr => ⟨_, (pss_one (ps_ret (pe_lc (own := [("other", 3)]) (by rfl) sc_law_h_from.nd (zpi_l K (C8.pe_c c_law_h_beside hr (by decide) rfl (pa_cons (pv 0) (pa_cons (pv 2) pa_nil)))) (blkOk_by (own := [("other", 3)]) (N := n_law_h_from) (sc := (defScope s_law_h_from)) (by first | decide +kernel | rfl)) (fun _ _ _ _ _ => (pg_name (i := 3) sc_law_h_from.nd rfl (by first | exact Or.inl rfl | exact Or.inr rfl))) (fun _ _ _ _ _ => (pts_one (pt_cmp (pc_din (hu_of hr) (pv 3) (pv 1))))) (fun _ _ _ _ _ => (pv 3))))), fun i => run_hfrom i⟩
theorem a_law_h_all (T : Tx K mg t_LETTERS t_NAME_SIGNS t_LONGEST_NAME) (hk : HouseK K C) {f : Addr} {fd : FuncData} (F : FnP K "_law_h_all" "_law_h_all" s_law_h_all f fd) (hm : mg "_law_h_all" = some (.ref f)) {f_law_h_from : Addr} (m_law_h_from : mg "_law_h_from" = some (.ref f_law_h_from)) (c_law_h_from : C8.Cal P w K mg base 2 "_law_h_from" (spHFrom K C Ω) []) : C8.Cal P w K mg base 3 "_law_h_all" (spAllFires K C Ω) [] :=
  calX (n := 12) F hm sc_law_h_all rfl (fun _ => rfl) (fun _ _ _ _ _ _ us hl => match us, hl with | [_, _, _, _], _ => rfl) fun cdv B outer s H E _ hr => ⟨_, (pss_cons (ps_set (i := 4) sc_law_h_all.nd rfl (by first | exact Or.inl rfl | exact Or.inr rfl) (pe_lst (pa_cons (pe_callTy (T := "dict") (zdict K rfl) (by rfl) T.b_dict (by decide +kernel) (pa_cons (pe_lst (pa_cons (pe_tup (pa_cons (pv 2) (pa_cons (pv 3) pa_nil))) pa_nil)) pa_nil)) pa_nil)))
  (pss_cons (ps_while PassesOwn.never (pt_cmpR op_lt (pe_callB (id := "len") call_lenR (by rfl) T.b_len PySem.boot_len (pa_cons (pe_ix (zix_l K) (pv 4) pe_int (fun _ _ => rfl)) pa_nil)) (pe_callB (id := "len") call_lenR (by rfl) T.b_len PySem.boot_len (pa_cons (pv 1) pa_nil)) (nomark _))
    (pss_cons (ps_set (i := 5) sc_law_h_all.nd rfl (by first | exact Or.inl rfl | exact Or.inr rfl) (pe_ix (zix_l K) (pv 4) pe_int (fun _ _ => rfl)))
    (pss_cons (ps_set (i := 6) sc_law_h_all.nd rfl (by first | exact Or.inl rfl | exact Or.inr rfl) (pe_ix (zix_l K) (pe_lc (own := [("room", 7)]) (by rfl) sc_law_h_all.nd (zpi_l K (pe_callB (id := "sorted") (call_sortedD rfl) (by rfl) T.b_sorted (by decide +kernel) (pa_cons (pv 1) pa_nil))) (blkOk_by (own := [("room", 7)]) (N := n_law_h_all) (sc := (defScope s_law_h_all)) (by first | decide +kernel | rfl)) (fun _ _ _ _ _ => (pg_name (i := 7) sc_law_h_all.nd rfl (by first | exact Or.inl rfl | exact Or.inr rfl))) (fun _ _ _ _ _ => (pts_one (PW.pt (pw_and (pt_cmp (pc_dnotin (hu_of hr) (pv 7) (pv 5))) (pw_and1 (pt_cmpR (zneD K hr.units) (C8.pe_c c_law_h_from hr (by decide) rfl (pa_cons (pv 0) (pa_cons (pv 5) (pa_cons (pv 7) pa_nil)))) (pe_lst pa_nil) (nomark _))))))) (fun _ _ _ _ _ => (pv 7))) pe_int (fun _ _ => rfl)))
    (pss_cons (ps_asg (pe_tup (pa_cons (pe_ix (zix_l K) (C8.pe_c c_law_h_from hr (by decide) rfl (pa_cons (pv 0) (pa_cons (pv 5) (pa_cons (pv 6) pa_nil)))) pe_int (fun _ _ => rfl)) (pa_cons (pe_lst pa_nil) pa_nil))) (zpg_tup K (n := 2) rfl (pgs_cons (pg_name (i := 8) sc_law_h_all.nd rfl (by first | exact Or.inl rfl | exact Or.inr rfl)) (pgs_cons (pg_name (i := 9) sc_law_h_all.nd rfl (by first | exact Or.inl rfl | exact Or.inr rfl)) pgs_nil))))
    (pss_cons (ps_for PassesOwn.never rfl (zpi_l K (pv 4)) (pg_name (i := 10) sc_law_h_all.nd rfl (by first | exact Or.inl rfl | exact Or.inr rfl))
      (pss_one (ps_expr (zbm K PySem.F.plainAttrs_list PySem.F.slot_list_extend PySem.F.type_list_extend mt_extend (pv 9) (pa_cons (pe_lc (own := [("k", 11)]) (by rfl) sc_law_h_all.nd (pi_range1 (by rfl) T.b_range (pa_cons (pe_dget (hu_of hr) (pv 1) (pv 8) (fun _ _ => rfl)) pa_nil)) (blkOk_by (own := [("k", 11)]) (N := n_law_h_all) (sc := (defScope s_law_h_all)) (by first | decide +kernel | rfl)) (fun _ _ _ _ _ => (pg_name (i := 11) sc_law_h_all.nd rfl (by first | exact Or.inl rfl | exact Or.inr rfl))) (fun _ _ _ _ _ => pts_nil) (fun _ _ _ _ _ => (pe_callTy (T := "dict") (zdict K rfl) (by rfl) T.b_dict (by decide +kernel) (pa_cons (pe_op op_cat (pe_liR rfl (pv 10) rfl T.b_list (by decide +kernel)) (pe_lst (pa_cons (pe_tup (pa_cons (pv 6) (pa_cons (pe_op op_add (pe_op op_add (pe_dget (hu_of hr) (pv 10) (pv 8) (fun _ _ => rfl)) pe_int) (pv 11)) pa_nil))) pa_nil))) pa_nil)))) pa_nil)))))
    (pss_one (ps_set (i := 4) sc_law_h_all.nd rfl (by first | exact Or.inl rfl | exact Or.inr rfl) (pv 9))))))))
  (pss_one (ps_ret (pe_lc (own := [("hours", 10)]) (by rfl) sc_law_h_all.nd (zpi_l K (pv 4)) (blkOk_by (own := [("hours", 10)]) (N := n_law_h_all) (sc := (defScope s_law_h_all)) (by first | decide +kernel | rfl)) (fun _ _ _ _ _ => (pg_name (i := 10) sc_law_h_all.nd rfl (by first | exact Or.inl rfl | exact Or.inr rfl))) (fun _ _ _ _ _ => pts_nil) (fun _ _ _ _ _ => (pe_callTy (T := "dict") (zdict K rfl) (by rfl) T.b_dict (by decide +kernel) (pa_cons (pe_lc (own := [("room", 7)]) (by rfl) sc_law_h_all.nd (zpi_l K (pe_callB (id := "sorted") (call_sortedD rfl) (by rfl) T.b_sorted (by decide +kernel) (pa_cons (pv 10) pa_nil))) (blkOk_by (own := [("room", 7)]) (N := n_law_h_all) (sc := _) (by first | decide +kernel | rfl)) (fun _ _ _ _ _ => (pg_name (i := 7) sc_law_h_all.nd rfl (by first | exact Or.inl rfl | exact Or.inr rfl))) (fun _ _ _ _ _ => pts_nil) (fun _ _ _ _ _ => (pe_tup (pa_cons (pv 7) (pa_cons (pe_dget (hu_of hr) (pv 10) (pv 7) (fun _ _ => rfl)) pa_nil))))) pa_nil)))))))), fun i => run_all_fires i⟩
theorem a_law_by_doors (T : Tx K mg t_LETTERS t_NAME_SIGNS t_LONGEST_NAME) (hk : HouseK K C) {f : Addr} {fd : FuncData} (F : FnP K "_law_by_doors" "_law_by_doors" s_law_by_doors f fd) (hm : mg "_law_by_doors" = some (.ref f)) {f_law_h_beside : Addr} (m_law_h_beside : mg "_law_h_beside" = some (.ref f_law_h_beside)) (c_law_h_beside : C8.Cal P w K mg base 1 "_law_h_beside" (spBeside K C Ω) []) : C8.Cal P w K mg base 2 "_law_by_doors" (spByDoors K C Ω) [] :=
  calX (n := 9) F hm sc_law_by_doors rfl (fun _ => rfl) (fun _ _ _ _ _ _ us hl => match us, hl with | [_, _, _], _ => rfl) fun cdv B outer s H E _ hr => ⟨_, (pss_cons (ps_for PassesOwn.never rfl (zpi_l K (pv 0)) (zpg_tup K (n := 2) rfl (pgs_cons (pg_name (i := 3) sc_law_by_doors.nd rfl (by first | exact Or.inl rfl | exact Or.inr rfl)) (pgs_cons (pg_name (i := 4) sc_law_by_doors.nd rfl (by first | exact Or.inl rfl | exact Or.inr rfl)) pgs_nil)))
    (pss_cons (ps_asg (pe_ifExp (pt_cmpR op_lt (pe_dget (hu_of hr) (pv 2) (pv 3) (fun _ _ => rfl)) (pe_dget (hu_of hr) (pv 2) (pv 4) (fun _ _ => rfl)) (nomark _)) (pe_tup (pa_cons (pv 3) (pa_cons (pv 4) pa_nil))) (pe_tup (pa_cons (pv 4) (pa_cons (pv 3) pa_nil)))) (zpg_tup K (n := 2) rfl (pgs_cons (pg_name (i := 5) sc_law_by_doors.nd rfl (by first | exact Or.inl rfl | exact Or.inr rfl)) (pgs_cons (pg_name (i := 6) sc_law_by_doors.nd rfl (by first | exact Or.inl rfl | exact Or.inr rfl)) pgs_nil))))
    (pss_one (ps_if (PW.pt (pw_or (pt_cmpR op_eq (pe_dget (hu_of hr) (pv 2) (pv 5) (fun _ _ => rfl)) (pe_dget (hu_of hr) (pv 2) (pv 6) (fun _ _ => rfl)) (nomark _)) (pw_or1 (pt_cmpR op_gt (pe_op op_sub (pe_dget (hu_of hr) (pv 2) (pv 6) (fun _ _ => rfl)) (pe_dget (hu_of hr) (pv 2) (pv 5) (fun _ _ => rfl))) (pe_dget (hu_of hr) (pv 1) (pv 5) (fun _ _ => rfl)) (nomark _)))))
      (pss_one (ps_ret pe_bl))
      pss_nil))))
  (pss_cons (ps_lk (ps_setLc (own := [("room", 8)]) (i := 7) (by rfl) sc_law_by_doors.nd rfl rfl (sw_true rfl rfl rfl (by decide +kernel)) (pi_keys (pv 2)) (blkOk_by (own := [("room", 8)]) (N := n_law_by_doors) (sc := (defScope s_law_by_doors)) (by first | decide +kernel | rfl)) (fun _ _ _ _ _ => (pg_name (i := 8) sc_law_by_doors.nd rfl (by first | exact Or.inl rfl | exact Or.inr rfl))) (fun _ _ _ _ _ => (pts_one (pt_val (pe_callB (id := "all") (zall K rfl) (by rfl) T.b_all (by decide +kernel) (pa_cons (pe_lc (own := [("other", 4)]) (by rfl) sc_law_by_doors.nd (zpi_l K (C8.pe_c c_law_h_beside hr (by decide) rfl (pa_cons (pv 0) (pa_cons (pv 8) pa_nil)))) (blkOk_by (own := [("other", 4)]) (N := n_law_by_doors) (sc := _) (by first | decide +kernel | rfl)) (fun _ _ _ _ _ => (pg_name (i := 4) sc_law_by_doors.nd rfl (by first | exact Or.inl rfl | exact Or.inr rfl))) (fun _ _ _ _ _ => pts_nil) (fun _ _ _ _ _ => (pe_cmpR op_gt (pe_dget (hu_of hr) (pv 2) (pv 4) (fun _ _ => rfl)) (pe_dget (hu_of hr) (pv 2) (pv 8) (fun _ _ => rfl)) (nomark _)))) pa_nil))))) (fun _ _ _ _ _ => (pv 8))))
  (pss_one (ps_ret (pe_cmpR op_eq (pe_callB (id := "len") (zlen K) (by rfl) T.b_len PySem.boot_len (pa_cons (pv 7) pa_nil)) pe_int (nomark _)))))), fun i => run_by_doors i⟩
theorem a_law_spread_right (T : Tx K mg t_LETTERS t_NAME_SIGNS t_LONGEST_NAME) (hk : HouseK K C) {f : Addr} {fd : FuncData} (F : FnP K "_law_spread_right" "_law_spread_right" s_law_spread_right f fd) (hm : mg "_law_spread_right" = some (.ref f)) {f_law_each_once : Addr} (m_law_each_once : mg "_law_each_once" = some (.ref f_law_each_once)) (c_law_each_once : C8.Cal P w K mg base 1 "_law_each_once" (spOnce K C Ω) []) {f_law_h_beside : Addr} (m_law_h_beside : mg "_law_h_beside" = some (.ref f_law_h_beside)) (c_law_h_beside : C8.Cal P w K mg base 1 "_law_h_beside" (spBeside K C Ω) []) {f_spread : Addr} (m_spread : mg "spread" = some (.ref f_spread)) (c_spread : C8.Cal P w K mg base 6 "spread" (spSpread K C Ω) []) : C8.Cal P w K mg base 7 "_law_spread_right" (spSpreadR K C Ω) [] :=
  calX (n := 12) F hm sc_law_spread_right rfl (fun _ => rfl) (fun _ _ _ _ _ _ us hl => match us, hl with | [_, _, _, _, _], _ => rfl) fun cdv B outer s H E _ hr => ⟨_, (pss_cons (ps_lk (ps_for PassesOwn.never rfl (pi_keys (pv 2)) (pg_name (i := 5) sc_law_spread_right.nd rfl (by first | exact Or.inl rfl | exact Or.inr rfl))
    (pss_cons (ps_asg (C8.pe_c c_spread hr (by decide) rfl (pa_cons (pv 0) (pa_cons (pv 2) (pa_cons (pv 3) (pa_cons (pv 5) pa_nil))))) (zpg_tup K (n := 2) rfl (pgs_cons (pg_name (i := 6) sc_law_spread_right.nd rfl (by first | exact Or.inl rfl | exact Or.inr rfl)) (pgs_cons (pg_name (i := 7) sc_law_spread_right.nd rfl (by first | exact Or.inl rfl | exact Or.inr rfl)) pgs_nil))))
    (pss_cons (ps_set (i := 8) sc_law_spread_right.nd rfl (by first | exact Or.inl rfl | exact Or.inr rfl) (pe_callB (id := "sorted") (zsortI K) (by rfl) T.b_sorted (by decide +kernel) (pa_cons (C8.pe_c c_law_each_once hr (by decide) rfl (pa_cons (pe_lc (own := [("hours", 9)]) (by rfl) sc_law_spread_right.nd (zpi_l K (pv 4)) (blkOk_by (own := [("hours", 9)]) (N := n_law_spread_right) (sc := (defScope s_law_spread_right)) (by first | decide +kernel | rfl)) (fun _ _ _ _ _ => (pg_name (i := 9) sc_law_spread_right.nd rfl (by first | exact Or.inl rfl | exact Or.inr rfl))) (fun _ _ _ _ _ => pts_nil) (fun _ _ _ _ _ => (pe_op op_sub (pe_dget (hu_of hr) (pv 9) (pv 5) (fun _ _ => rfl)) (pe_dget (hu_of hr) (pv 9) (pv 3) (fun _ _ => rfl))))) pa_nil)) pa_nil)))
    (pss_one (ps_if (pt_cmpR (zneD K hr.units) (pv 8) (pe_listRg rfl (by rfl) T.b_list (prg_2 (by rfl) T.b_range (pv 6) (pe_op op_add (pv 7) pe_int))) (nomark _))
      (pss_one (ps_ret pe_bl))
      pss_nil))))))
  (pss_cons (ps_set (i := 10) sc_law_spread_right.nd rfl (by first | exact Or.inl rfl | exact Or.inr rfl) pe_int)
  (pss_cons (ps_lk (ps_for PassesOwn.never rfl (pi_keys (pv 2)) (pg_name (i := 5) sc_law_spread_right.nd rfl (by first | exact Or.inl rfl | exact Or.inr rfl))
    (pss_one (ps_for PassesOwn.never rfl (pi_range1 (by rfl) T.b_range (pa_cons (pe_op op_sub (pe_callB (id := "len") (zlen K) (by rfl) T.b_len PySem.boot_len (pa_cons (C8.pe_c c_law_h_beside hr (by decide) rfl (pa_cons (pv 1) (pa_cons (pv 5) pa_nil))) pa_nil)) (pe_callTy (T := "int") call_int1 (by rfl) T.b_int (by decide +kernel) (pa_cons (pe_cmpR op_ne (pv 5) (pv 3) (nomark _)) pa_nil))) pa_nil)) (pg_name (i := 11) sc_law_spread_right.nd rfl (by first | exact Or.inl rfl | exact Or.inr rfl))
      (pss_one (ps_set (i := 10) sc_law_spread_right.nd rfl (by first | exact Or.inl rfl | exact Or.inr rfl) (pe_op op_mul (pv 10) (pe_dget (hu_of hr) (pv 2) (pv 5) (fun _ _ => rfl)))))))))
  (pss_one (ps_ret (pe_cmpR op_eq (pe_callB (id := "len") (zlen K) (by rfl) T.b_len PySem.boot_len (pa_cons (pv 4) pa_nil)) (pv 10) (nomark _))))))), fun i => run_spreadR i⟩
theorem a_law (T : Tx K mg t_LETTERS t_NAME_SIGNS t_LONGEST_NAME) (hk : HouseK K C) {Pa : Addr} {f : Addr} {fd : FuncData} (F : FnP K "law" "law" s_law f fd) (c_House : C8.Mak P w K mg base 4 "House" C (spInit K C [(Pa, qE)]) []) {f_law_by_doors : Addr} (m_law_by_doors : mg "_law_by_doors" = some (.ref f_law_by_doors)) (c_law_by_doors : C8.Cal P w K mg base 2 "_law_by_doors" (spByDoors K C [(Pa, qE)]) []) {f_law_draw : Addr} (m_law_draw : mg "_law_draw" = some (.ref f_law_draw)) (c_law_draw : C8.Cal P w K mg base 1 "_law_draw" (spDraw K C [(Pa, qE)]) []) {f_law_h_all : Addr} (m_law_h_all : mg "_law_h_all" = some (.ref f_law_h_all)) (c_law_h_all : C8.Cal P w K mg base 3 "_law_h_all" (spAllFires K C [(Pa, qE)]) []) {f_law_h_burns : Addr} (m_law_h_burns : mg "_law_h_burns" = some (.ref f_law_h_burns)) (c_law_h_burns : C8.Cal P w K mg base 2 "_law_h_burns" (spBurns K C [(Pa, qE)]) []) {f_law_h_house : Addr} (m_law_h_house : mg "_law_h_house" = some (.ref f_law_h_house)) (c_law_h_house : C8.Cal P w K mg base 4 "_law_h_house" (spHouse K C [(Pa, qE)]) []) {f_law_h_woods : Addr} (m_law_h_woods : mg "_law_h_woods" = some (.ref f_law_h_woods)) (c_law_h_woods : C8.Cal P w K mg base 2 "_law_h_woods" (spHWoods K C [(Pa, qE)]) []) {f_law_mixed : Addr} (m_law_mixed : mg "_law_mixed" = some (.ref f_law_mixed)) (c_law_mixed : C8.Cal P w K mg base 2 "_law_mixed" (spMix K C [(Pa, qE)]) []) {f_law_pick : Addr} (m_law_pick : mg "_law_pick" = some (.ref f_law_pick)) (c_law_pick : C8.Cal P w K mg base 2 "_law_pick" (spPick K C [(Pa, qE)]) []) {f_law_same : Addr} (m_law_same : mg "_law_same" = some (.ref f_law_same)) (c_law_same : C8.Cal P w K mg base 3 "_law_same" (spSameL K C [(Pa, qE)]) []) {f_law_spread_right : Addr} (m_law_spread_right : mg "_law_spread_right" = some (.ref f_law_spread_right)) (c_law_spread_right : C8.Cal P w K mg base 7 "_law_spread_right" (spSpreadR K C [(Pa, qE)]) []) {f_law_start : Addr} (m_law_start : mg "_law_start" = some (.ref f_law_start)) (c_law_start : C8.Cal P w K mg base 1 "_law_start" (spStart K) []) {f_first_of : Addr} (m_first_of : mg "first_of" = some (.ref f_first_of)) (c_first_of : C8.Cal P w K mg base 9 "first_of" (spFirstOf K C [(Pa, qE)]) []) {f_is_fire : Addr} (m_is_fire : mg "is_fire" = some (.ref f_is_fire)) (c_is_fire : C8.Cal P w K mg base 7 "is_fire" (spIsFire K C [(Pa, qE)]) []) {f_lit_from : Addr} (m_lit_from : mg "lit_from" = some (.ref f_lit_from)) (c_lit_from : C8.Cal P w K mg base 9 "lit_from" (spLitFrom K C [(Pa, qE)]) []) : FnOk P w K mg base CX0 10 f fd ["script"] (spLaw K C Pa qE) :=
  F.ok sc_law (fun vs H Q E z => by obtain ⟨a, ns, rfl, _⟩ := z; rfl) (fun cdv A outer s H vs Q E hr z => ⟨_, PSs.nox (pss_cons (ps_set (i := 1) sc_law.nd rfl (by first | exact Or.inl rfl | exact Or.inr rfl) (C8.pe_c c_law_start hr (by decide) rfl (pa_cons (pv 0) pa_nil)))
  (pss_cons (ps_for PassesOwn.never rfl (pi_range1 (by rfl) T.b_range (pa_cons pe_int pa_nil)) (pg_name (i := 2) sc_law.nd rfl (by first | exact Or.inl rfl | exact Or.inr rfl))
    (pss_cons (ps_asg (C8.pe_c c_law_h_house hr (by decide) rfl (pa_cons (pv 1) (pa_cons pe_int pa_nil))) (zpg_tup K (n := 2) rfl (pgs_cons (pg_name (i := 3) sc_law.nd rfl (by first | exact Or.inl rfl | exact Or.inr rfl)) (pgs_cons (pg_name (i := 4) sc_law.nd rfl (by first | exact Or.inl rfl | exact Or.inr rfl)) pgs_nil))))
    (pss_cons (ps_par (i := 5) (j := 6) (by rfl) sc_law.nd rfl rfl (by decide) rfl rfl (pa_cons (C8.pe_mk c_House hr (by decide) rfl (pa_cons (pv 3) (pa_cons (pv 4) pa_nil))) (pa_cons (C8.pe_c c_law_h_woods hr (by decide) rfl (pa_cons (pv 1) (pa_cons (pv 3) (pa_cons (pe_ix (zix_l K) (pe_lst (pa_cons pe_int (pa_cons pe_int (pa_cons pe_int pa_nil)))) (pv 2) (fun _ _ => rfl)) pa_nil)))) pa_nil)) (by rfl))
    (pss_cons (ps_set (i := 7) sc_law.nd rfl (by first | exact Or.inl rfl | exact Or.inr rfl) (C8.pe_c c_law_pick hr (by decide) rfl (pa_cons (pv 1) (pa_cons (pv 3) pa_nil))))
    (pss_cons (ps_set (i := 8) sc_law.nd rfl (by first | exact Or.inl rfl | exact Or.inr rfl) (C8.pe_c c_law_h_all hr (by decide) rfl (pa_cons (pv 4) (pa_cons (pv 6) (pa_cons (pv 7) (pa_cons (C8.pe_c c_law_pick hr (by decide) rfl (pa_cons (pv 1) (pa_cons (pe_lst (pa_cons pe_int (pa_cons (pe_un un_neg pe_int) (pa_cons pe_int pa_nil)))) pa_nil))) pa_nil))))))
    (pss_cons (ps_if (pt_not (pt_val (C8.pe_c c_law_spread_right hr (by decide) rfl (pa_cons (pv 5) (pa_cons (pv 4) (pa_cons (pv 6) (pa_cons (pv 7) (pa_cons (pv 8) pa_nil))))))))
      (pss_one (ps_ret pe_bl))
      pss_nil)
    (pss_cons (ps_for PassesOwn.never rfl (zpi_l K (pe_slice (zsl_l K) (C8.pe_c c_law_mixed hr (by decide) rfl (pa_cons (pv 1) (pa_cons (pv 8) pa_nil))) po_none (po_some pe_int))) (pg_name (i := 9) sc_law.nd rfl (by first | exact Or.inl rfl | exact Or.inr rfl))
      (pss_cons (ps_if (PW.pt (pw_or (pt_cmpR op_notBl (C8.pe_c c_is_fire hr (by decide) rfl (pa_cons (pv 5) (pa_cons (pv 6) (pa_cons (pv 9) pa_nil)))) pe_bl (nomark _)) (pw_or1 (pt_cmpR op_ne (C8.pe_c c_first_of hr (by decide) rfl (pa_cons (pv 5) (pa_cons (pv 6) (pa_cons (pv 9) pa_nil)))) (pv 7) (nomark _)))))
        (pss_one (ps_ret pe_bl))
        pss_nil)
      (pss_cons (ps_set (i := 10) sc_law.nd rfl (by first | exact Or.inl rfl | exact Or.inr rfl) (C8.pe_c c_lit_from hr (by decide) rfl (pa_cons (pv 5) (pa_cons (pv 6) (pa_cons (pv 9) pa_nil)))))
      (pss_one (ps_if (pt_cmpR (zneD K hr.units) (pe_lk (pe_lc (own := [("room", 11)]) (by rfl) sc_law.nd (pi_keys (pv 10)) (blkOk_by (own := [("room", 11)]) (N := n_law) (sc := (defScope s_law)) (by first | decide +kernel | rfl)) (fun _ _ _ _ _ => (pg_name (i := 11) sc_law.nd rfl (by first | exact Or.inl rfl | exact Or.inr rfl))) (fun _ _ _ _ _ => (pts_one (pt_cmpR op_isN (pe_dget (hu_of hr) (pv 10) (pv 11) (fun _ _ => rfl)) pe_non (nomark _)))) (fun _ _ _ _ _ => (pv 11)))) (pe_lst (pa_cons (pv 7) pa_nil)) (nomark _))
        (pss_one (ps_ret pe_bl))
        pss_nil)))))
    (pss_one (ps_for PassesOwn.never rfl (pi_range1 (by rfl) T.b_range (pa_cons pe_int pa_nil)) (pg_name (i := 12) sc_law.nd rfl (by first | exact Or.inl rfl | exact Or.inr rfl))
      (pss_cons (ps_set (i := 9) sc_law.nd rfl (by first | exact Or.inl rfl | exact Or.inr rfl) (pe_callTy (T := "dict") (zdict K rfl) (by rfl) T.b_dict (by decide +kernel) (pa_cons (pe_lc (own := [("room", 11)]) (by rfl) sc_law.nd (zpi_l K (pe_callB (id := "sorted") (zsortS K) (by rfl) T.b_sorted (by decide +kernel) (pa_cons (pv 3) pa_nil))) (blkOk_by (own := [("room", 11)]) (N := n_law) (sc := (defScope s_law)) (by first | decide +kernel | rfl)) (fun _ _ _ _ _ => (pg_name (i := 11) sc_law.nd rfl (by first | exact Or.inl rfl | exact Or.inr rfl))) (fun _ _ _ _ _ => pts_nil) (fun _ _ _ _ _ => (pe_tup (pa_cons (pv 11) (pa_cons (C8.pe_c c_law_draw hr (by decide) rfl (pa_cons (pv 1) (pa_cons (pe_op op_add (pe_callB (id := "len") (zlen K) (by rfl) T.b_len PySem.boot_len (pa_cons (pv 3) pa_nil)) pe_int) pa_nil))) pa_nil))))) pa_nil)))
      (pss_cons (ps_set (i := 13) sc_law.nd rfl (by first | exact Or.inl rfl | exact Or.inr rfl) (C8.pe_c c_law_by_doors hr (by decide) rfl (pa_cons (pv 4) (pa_cons (pv 6) (pa_cons (pv 9) pa_nil)))))
      (pss_one (ps_if (PW.pt (pw_or (pt_cmpR op_ne (pv 13) (C8.pe_c c_law_h_burns hr (by decide) rfl (pa_cons (pv 4) (pa_cons (pv 6) (pa_cons (pv 9) pa_nil)))) (nomark _)) (pw_or1 (pt_not (pt_val (C8.pe_c c_law_same hr (by decide) rfl (pa_cons (pe_lst (pa_cons (C8.pe_c c_is_fire hr (by decide) rfl (pa_cons (pv 5) (pa_cons (pv 6) (pa_cons (pv 9) pa_nil)))) pa_nil)) (pa_cons (pe_lst (pa_cons (pv 13) pa_nil)) pa_nil))))))))
        (pss_one (ps_ret pe_bl))
        pss_nil)))))))))))))
  (pss_one (ps_ret pe_bl)))), run_law rfl z⟩)
end
end Z
set_option maxHeartbeats 4000000
namespace Z
open PySem PySem.Spec PyProof.Rows L2
def fa0 : List He.Fa := [.glo "is_integer", .glo "is_from_one", .glo "is_name", .glo "is_row", .glo "bad_index", .glo "ascending", .glo "_rooms_near", .glo "_is_pair_of", .glo "join_lots", .glo "rooms_near", .glo "is_room", .glo "need_room", .glo "is_of_all", .glo "ahead_from", .glo "way_back", .glo "way", .glo "is_woods", .glo "need_woods", .glo "spread", .glo "is_fire", .glo "need_fire", .glo "earliest_room", .glo "first_of", .glo "lit_from", .glo "_law_start", .glo "_law_draw", .glo "_law_pick", .glo "_law_mixed", .glo "_law_same", .glo "_law_each_once", .glo "_law_h_names", .glo "_law_h_doors", .glo "_law_h_house", .glo "_law_h_beside", .glo "_law_h_woods", .glo "_law_h_burns", .glo "_law_h_all", .glo "_law_h_from", .glo "_law_by_doors", .glo "_law_spread_right"]
def fa1 : List He.Fa := [.glo "law", .glo "House", .free "all", .free "bool", .free "dict", .free "enumerate", .free "int", .free "isinstance", .free "len", .free "list", .free "max", .free "min", .free "range", .free "sorted", .free "str", .free "sum", .free "tuple", .free "zip", .str "LETTERS" "abcdefghijklmnopqrstuvwxyz", .str "NAME_SIGNS" "abcdefghijklmnopqrstuvwxyz0123456789", .int "LONGEST_NAME" 12, .cls "House", .noat "House" "_rooms", .noat "House" "_near", .noat "House" "_doors", .meth "House" "rooms", .meth "House" "doors", .meth "House" "__len__", .mkr "House"]
def fa : List He.Fa := fa0 ++ fa1
def fn0 : List He.DefD := [⟨("is_integer", none), "is_integer", "is_integer", defArgs s_is_integer, defBody s_is_integer, defScope s_is_integer, [], []⟩, ⟨("is_from_one", none), "is_from_one", "is_from_one", defArgs s_is_from_one, defBody s_is_from_one, defScope s_is_from_one, [], []⟩, ⟨("is_name", none), "is_name", "is_name", defArgs s_is_name, defBody s_is_name, defScope s_is_name, [], []⟩, ⟨("is_row", none), "is_row", "is_row", defArgs s_is_row, defBody s_is_row, defScope s_is_row, [], []⟩, ⟨("bad_index", none), "bad_index", "bad_index", defArgs s_bad_index, defBody s_bad_index, defScope s_bad_index, [], []⟩, ⟨("ascending", none), "ascending", "ascending", defArgs s_ascending, defBody s_ascending, defScope s_ascending, [], []⟩, ⟨("House", some "__init__"), "__init__", "House.__init__", defArgs s_House_init, defBody s_House_init, defScope s_House_init, [], []⟩, ⟨("House", some "rooms"), "rooms", "House.rooms", defArgs s_House_rooms, defBody s_House_rooms, defScope s_House_rooms, [], []⟩, ⟨("House", some "doors"), "doors", "House.doors", defArgs s_House_doors, defBody s_House_doors, defScope s_House_doors, [], []⟩, ⟨("House", some "__len__"), "__len__", "House.__len__", defArgs s_House_len, defBody s_House_len, defScope s_House_len, [], []⟩, ⟨("_rooms_near", none), "_rooms_near", "_rooms_near", defArgs s_u_rooms_near, defBody s_u_rooms_near, defScope s_u_rooms_near, [], []⟩, ⟨("_is_pair_of", none), "_is_pair_of", "_is_pair_of", defArgs s_u_is_pair_of, defBody s_u_is_pair_of, defScope s_u_is_pair_of, [], []⟩, ⟨("join_lots", none), "join_lots", "join_lots", defArgs s_join_lots, defBody s_join_lots, defScope s_join_lots, [], []⟩, ⟨("rooms_near", none), "rooms_near", "rooms_near", defArgs s_rooms_near, defBody s_rooms_near, defScope s_rooms_near, [], []⟩, ⟨("is_room", none), "is_room", "is_room", defArgs s_is_room, defBody s_is_room, defScope s_is_room, [], []⟩, ⟨("need_room", none), "need_room", "need_room", defArgs s_need_room, defBody s_need_room, defScope s_need_room, [], []⟩, ⟨("is_of_all", none), "is_of_all", "is_of_all", defArgs s_is_of_all, defBody s_is_of_all, defScope s_is_of_all, [], []⟩, ⟨("ahead_from", none), "ahead_from", "ahead_from", defArgs s_ahead_from, defBody s_ahead_from, defScope s_ahead_from, [], []⟩, ⟨("way_back", none), "way_back", "way_back", defArgs s_way_back, defBody s_way_back, defScope s_way_back, [], []⟩, ⟨("way", none), "way", "way", defArgs s_way, defBody s_way, defScope s_way, [], []⟩]
def fn1 : List He.DefD := [⟨("is_woods", none), "is_woods", "is_woods", defArgs s_is_woods, defBody s_is_woods, defScope s_is_woods, [], []⟩, ⟨("need_woods", none), "need_woods", "need_woods", defArgs s_need_woods, defBody s_need_woods, defScope s_need_woods, [], []⟩, ⟨("spread", none), "spread", "spread", defArgs s_spread, defBody s_spread, defScope s_spread, [], []⟩, ⟨("is_fire", none), "is_fire", "is_fire", defArgs s_is_fire, defBody s_is_fire, defScope s_is_fire, [], []⟩, ⟨("need_fire", none), "need_fire", "need_fire", defArgs s_need_fire, defBody s_need_fire, defScope s_need_fire, [], []⟩, ⟨("earliest_room", none), "earliest_room", "earliest_room", defArgs s_earliest_room, defBody s_earliest_room, defScope s_earliest_room, [], []⟩, ⟨("first_of", none), "first_of", "first_of", defArgs s_first_of, defBody s_first_of, defScope s_first_of, [], []⟩, ⟨("lit_from", none), "lit_from", "lit_from", defArgs s_lit_from, defBody s_lit_from, defScope s_lit_from, [], []⟩, ⟨("_law_start", none), "_law_start", "_law_start", defArgs s_law_start, defBody s_law_start, defScope s_law_start, [], []⟩, ⟨("_law_draw", none), "_law_draw", "_law_draw", defArgs s_law_draw, defBody s_law_draw, defScope s_law_draw, [], []⟩, ⟨("_law_pick", none), "_law_pick", "_law_pick", defArgs s_law_pick, defBody s_law_pick, defScope s_law_pick, [], []⟩, ⟨("_law_mixed", none), "_law_mixed", "_law_mixed", defArgs s_law_mixed, defBody s_law_mixed, defScope s_law_mixed, [], []⟩, ⟨("_law_same", none), "_law_same", "_law_same", defArgs s_law_same, defBody s_law_same, defScope s_law_same, [], []⟩, ⟨("_law_each_once", none), "_law_each_once", "_law_each_once", defArgs s_law_each_once, defBody s_law_each_once, defScope s_law_each_once, [], []⟩, ⟨("_law_h_names", none), "_law_h_names", "_law_h_names", defArgs s_law_h_names, defBody s_law_h_names, defScope s_law_h_names, [], []⟩, ⟨("_law_h_doors", none), "_law_h_doors", "_law_h_doors", defArgs s_law_h_doors, defBody s_law_h_doors, defScope s_law_h_doors, [], []⟩, ⟨("_law_h_house", none), "_law_h_house", "_law_h_house", defArgs s_law_h_house, defBody s_law_h_house, defScope s_law_h_house, [], []⟩, ⟨("_law_h_beside", none), "_law_h_beside", "_law_h_beside", defArgs s_law_h_beside, defBody s_law_h_beside, defScope s_law_h_beside, [], []⟩, ⟨("_law_h_woods", none), "_law_h_woods", "_law_h_woods", defArgs s_law_h_woods, defBody s_law_h_woods, defScope s_law_h_woods, [], []⟩, ⟨("_law_h_burns", none), "_law_h_burns", "_law_h_burns", defArgs s_law_h_burns, defBody s_law_h_burns, defScope s_law_h_burns, [], []⟩]
def fn2 : List He.DefD := [⟨("_law_h_all", none), "_law_h_all", "_law_h_all", defArgs s_law_h_all, defBody s_law_h_all, defScope s_law_h_all, [], []⟩, ⟨("_law_h_from", none), "_law_h_from", "_law_h_from", defArgs s_law_h_from, defBody s_law_h_from, defScope s_law_h_from, [], []⟩, ⟨("_law_by_doors", none), "_law_by_doors", "_law_by_doors", defArgs s_law_by_doors, defBody s_law_by_doors, defScope s_law_by_doors, [], []⟩, ⟨("_law_spread_right", none), "_law_spread_right", "_law_spread_right", defArgs s_law_spread_right, defBody s_law_spread_right, defScope s_law_spread_right, [], []⟩, ⟨("law", none), "law", "law", defArgs s_law, defBody s_law, defScope s_law, [], []⟩]
def fn : List He.DefD := fn0 ++ fn1 ++ fn2
def loose0 : List PySem.Str := ["HearthError", "BadDoors", "BadFire", "BadRooms", "BadWoods", "NoRoom", "NotJoined", "LETTERS", "NAME_SIGNS", "LONGEST_NAME", "is_integer", "is_from_one", "is_name", "is_row", "bad_index", "ascending"]
def loose1 : List PySem.Str := ["House", "_rooms_near", "_is_pair_of", "join_lots", "rooms_near", "is_room", "need_room", "is_of_all", "ahead_from", "way_back", "way", "is_woods", "need_woods", "spread", "is_fire", "need_fire"]
def loose2 : List PySem.Str := ["earliest_room", "first_of", "lit_from", "_law_start", "_law_draw", "_law_pick", "_law_mixed", "_law_same", "_law_each_once", "_law_h_names", "_law_h_doors", "_law_h_house", "_law_h_beside", "_law_h_woods", "_law_h_burns", "_law_h_all"]
def loose3 : List PySem.Str := ["_law_h_from", "_law_by_doors", "_law_spread_right"]
def loose : List PySem.Str := loose0 ++ loose1 ++ loose2 ++ loose3
def exY : PySem.W.Frag → Bool := fun _ => true
def tfE : List He.Defn := [("earliest_room", none)]
abbrev R : PySem.W.OpenRow := PySem.W.OpenLaw.row PySem.Challenge.rw_hearths_k06_whole_what_holds_of_all
abbrev hk : PySem.W.Hook := He.hookX 4 fa fn [] tfE exY
def ob (s : PySem.W.SharedT) : He.AlX := He.obsX 4 fa fn [] tfE exY (HandSHeadRun.getT s)
theorem ob_eq (s : PySem.W.SharedT) : ob s = hk.obs s.abs := He.obsX_eq (HandSHeadRun.getT_eq s)
theorem run (w : World) : HandSHeadRun.RunEq R (PySem.W.view R.prog [58]) hk ob 4000 loose w := by
  intro os
  kernel_rfl
end Z
set_option maxHeartbeats 4000000
namespace Z
open PySem PySem.Spec PyProof.Rows L2
abbrev pE : He.Defn := ("earliest_room", none)
abbrev ca (K : PySem.W.Frag) : Addr := (He.cT K pE).1
abbrev Pa (K : PySem.W.Frag) : Addr := (He.cT K pE).2
theorem facts {w : World} {K : PySem.W.Frag} {h : Heap} {mg : Str → Option Value} {f : Addr} (X : K.In h) (G : h.Ns mainGlobals mg) (hfa : mg ("law" : Str) = some (.ref f)) (c : He.SaysX fa fn [] tfE exY w h K) :
    LamX.LawAtS PySem.Challenge.rw_hearths_k06_whole_what_holds_of_all w K CX0 10 63 "script" mg f h := by
  have cd := c.t.d
  have m_is_integer := He.glo_ok X G (cd.fact 0 (f := .glo "is_integer") rfl)
  have m_is_from_one := He.glo_ok X G (cd.fact 1 (f := .glo "is_from_one") rfl)
  have m_is_name := He.glo_ok X G (cd.fact 2 (f := .glo "is_name") rfl)
  have m_is_row := He.glo_ok X G (cd.fact 3 (f := .glo "is_row") rfl)
  have m_bad_index := He.glo_ok X G (cd.fact 4 (f := .glo "bad_index") rfl)
  have m_ascending := He.glo_ok X G (cd.fact 5 (f := .glo "ascending") rfl)
  have m_u_rooms_near := He.glo_ok X G (cd.fact 6 (f := .glo "_rooms_near") rfl)
  have m_u_is_pair_of := He.glo_ok X G (cd.fact 7 (f := .glo "_is_pair_of") rfl)
  have m_join_lots := He.glo_ok X G (cd.fact 8 (f := .glo "join_lots") rfl)
  have m_rooms_near := He.glo_ok X G (cd.fact 9 (f := .glo "rooms_near") rfl)
  have m_is_room := He.glo_ok X G (cd.fact 10 (f := .glo "is_room") rfl)
  have m_need_room := He.glo_ok X G (cd.fact 11 (f := .glo "need_room") rfl)
  have m_is_of_all := He.glo_ok X G (cd.fact 12 (f := .glo "is_of_all") rfl)
  have m_ahead_from := He.glo_ok X G (cd.fact 13 (f := .glo "ahead_from") rfl)
  have m_way_back := He.glo_ok X G (cd.fact 14 (f := .glo "way_back") rfl)
  have m_way := He.glo_ok X G (cd.fact 15 (f := .glo "way") rfl)
  have m_is_woods := He.glo_ok X G (cd.fact 16 (f := .glo "is_woods") rfl)
  have m_need_woods := He.glo_ok X G (cd.fact 17 (f := .glo "need_woods") rfl)
  have m_spread := He.glo_ok X G (cd.fact 18 (f := .glo "spread") rfl)
  have m_is_fire := He.glo_ok X G (cd.fact 19 (f := .glo "is_fire") rfl)
  have m_need_fire := He.glo_ok X G (cd.fact 20 (f := .glo "need_fire") rfl)
  have m_earliest_room := He.glo_ok X G (cd.fact 21 (f := .glo "earliest_room") rfl)
  have m_first_of := He.glo_ok X G (cd.fact 22 (f := .glo "first_of") rfl)
  have m_lit_from := He.glo_ok X G (cd.fact 23 (f := .glo "lit_from") rfl)
  have m_law_start := He.glo_ok X G (cd.fact 24 (f := .glo "_law_start") rfl)
  have m_law_draw := He.glo_ok X G (cd.fact 25 (f := .glo "_law_draw") rfl)
  have m_law_pick := He.glo_ok X G (cd.fact 26 (f := .glo "_law_pick") rfl)
  have m_law_mixed := He.glo_ok X G (cd.fact 27 (f := .glo "_law_mixed") rfl)
  have m_law_same := He.glo_ok X G (cd.fact 28 (f := .glo "_law_same") rfl)
  have m_law_each_once := He.glo_ok X G (cd.fact 29 (f := .glo "_law_each_once") rfl)
  have m_law_h_names := He.glo_ok X G (cd.fact 30 (f := .glo "_law_h_names") rfl)
  have m_law_h_doors := He.glo_ok X G (cd.fact 31 (f := .glo "_law_h_doors") rfl)
  have m_law_h_house := He.glo_ok X G (cd.fact 32 (f := .glo "_law_h_house") rfl)
  have m_law_h_beside := He.glo_ok X G (cd.fact 33 (f := .glo "_law_h_beside") rfl)
  have m_law_h_woods := He.glo_ok X G (cd.fact 34 (f := .glo "_law_h_woods") rfl)
  have m_law_h_burns := He.glo_ok X G (cd.fact 35 (f := .glo "_law_h_burns") rfl)
  have m_law_h_all := He.glo_ok X G (cd.fact 36 (f := .glo "_law_h_all") rfl)
  have m_law_h_from := He.glo_ok X G (cd.fact 37 (f := .glo "_law_h_from") rfl)
  have m_law_by_doors := He.glo_ok X G (cd.fact 38 (f := .glo "_law_by_doors") rfl)
  have m_law_spread_right := He.glo_ok X G (cd.fact 39 (f := .glo "_law_spread_right") rfl)
  have m_law := He.glo_ok X G (cd.fact 40 (f := .glo "law") rfl)
  have m_House := He.glo_ok X G (cd.fact 41 (f := .glo "House") rfl)
  have b_all := He.free_ok X G (cd.fact 42 (f := .free "all") rfl)
  have b_bool := He.free_ok X G (cd.fact 43 (f := .free "bool") rfl)
  have b_dict := He.free_ok X G (cd.fact 44 (f := .free "dict") rfl)
  have b_enumerate := He.free_ok X G (cd.fact 45 (f := .free "enumerate") rfl)
  have b_int := He.free_ok X G (cd.fact 46 (f := .free "int") rfl)
  have b_isinstance := He.free_ok X G (cd.fact 47 (f := .free "isinstance") rfl)
  have b_len := He.free_ok X G (cd.fact 48 (f := .free "len") rfl)
  have b_list := He.free_ok X G (cd.fact 49 (f := .free "list") rfl)
  have b_max := He.free_ok X G (cd.fact 50 (f := .free "max") rfl)
  have b_min := He.free_ok X G (cd.fact 51 (f := .free "min") rfl)
  have b_range := He.free_ok X G (cd.fact 52 (f := .free "range") rfl)
  have b_sorted := He.free_ok X G (cd.fact 53 (f := .free "sorted") rfl)
  have b_str := He.free_ok X G (cd.fact 54 (f := .free "str") rfl)
  have b_sum := He.free_ok X G (cd.fact 55 (f := .free "sum") rfl)
  have b_tuple := He.free_ok X G (cd.fact 56 (f := .free "tuple") rfl)
  have b_zip := He.free_ok X G (cd.fact 57 (f := .free "zip") rfl)
  obtain ⟨t_LETTERS, q_LETTERS⟩ := He.str_ok X G (cd.fact 58 (f := .str "LETTERS" "abcdefghijklmnopqrstuvwxyz") rfl)
  obtain ⟨t_NAME_SIGNS, q_NAME_SIGNS⟩ := He.str_ok X G (cd.fact 59 (f := .str "NAME_SIGNS" "abcdefghijklmnopqrstuvwxyz0123456789") rfl)
  obtain ⟨t_LONGEST_NAME, q_LONGEST_NAME⟩ := He.int_ok X G (cd.fact 60 (f := .int "LONGEST_NAME" 12) rfl)
  obtain ⟨fd_is_integer, F_is_integer⟩ := cd.def_ 0 (d := ⟨("is_integer", none), "is_integer", "is_integer", defArgs s_is_integer, defBody s_is_integer, defScope s_is_integer, [], []⟩) rfl
  obtain ⟨fd_is_from_one, F_is_from_one⟩ := cd.def_ 1 (d := ⟨("is_from_one", none), "is_from_one", "is_from_one", defArgs s_is_from_one, defBody s_is_from_one, defScope s_is_from_one, [], []⟩) rfl
  obtain ⟨fd_is_name, F_is_name⟩ := cd.def_ 2 (d := ⟨("is_name", none), "is_name", "is_name", defArgs s_is_name, defBody s_is_name, defScope s_is_name, [], []⟩) rfl
  obtain ⟨fd_is_row, F_is_row⟩ := cd.def_ 3 (d := ⟨("is_row", none), "is_row", "is_row", defArgs s_is_row, defBody s_is_row, defScope s_is_row, [], []⟩) rfl
  obtain ⟨fd_bad_index, F_bad_index⟩ := cd.def_ 4 (d := ⟨("bad_index", none), "bad_index", "bad_index", defArgs s_bad_index, defBody s_bad_index, defScope s_bad_index, [], []⟩) rfl
  obtain ⟨fd_ascending, F_ascending⟩ := cd.def_ 5 (d := ⟨("ascending", none), "ascending", "ascending", defArgs s_ascending, defBody s_ascending, defScope s_ascending, [], []⟩) rfl
  obtain ⟨fd_House_init, F_House_init⟩ := cd.def_ 6 (d := ⟨("House", some "__init__"), "__init__", "House.__init__", defArgs s_House_init, defBody s_House_init, defScope s_House_init, [], []⟩) rfl
  obtain ⟨fd_House_rooms, F_House_rooms⟩ := cd.def_ 7 (d := ⟨("House", some "rooms"), "rooms", "House.rooms", defArgs s_House_rooms, defBody s_House_rooms, defScope s_House_rooms, [], []⟩) rfl
  obtain ⟨fd_House_doors, F_House_doors⟩ := cd.def_ 8 (d := ⟨("House", some "doors"), "doors", "House.doors", defArgs s_House_doors, defBody s_House_doors, defScope s_House_doors, [], []⟩) rfl
  obtain ⟨fd_House_len, F_House_len⟩ := cd.def_ 9 (d := ⟨("House", some "__len__"), "__len__", "House.__len__", defArgs s_House_len, defBody s_House_len, defScope s_House_len, [], []⟩) rfl
  obtain ⟨fd_u_rooms_near, F_u_rooms_near⟩ := cd.def_ 10 (d := ⟨("_rooms_near", none), "_rooms_near", "_rooms_near", defArgs s_u_rooms_near, defBody s_u_rooms_near, defScope s_u_rooms_near, [], []⟩) rfl
  obtain ⟨fd_u_is_pair_of, F_u_is_pair_of⟩ := cd.def_ 11 (d := ⟨("_is_pair_of", none), "_is_pair_of", "_is_pair_of", defArgs s_u_is_pair_of, defBody s_u_is_pair_of, defScope s_u_is_pair_of, [], []⟩) rfl
  obtain ⟨fd_join_lots, F_join_lots⟩ := cd.def_ 12 (d := ⟨("join_lots", none), "join_lots", "join_lots", defArgs s_join_lots, defBody s_join_lots, defScope s_join_lots, [], []⟩) rfl
  obtain ⟨fd_rooms_near, F_rooms_near⟩ := cd.def_ 13 (d := ⟨("rooms_near", none), "rooms_near", "rooms_near", defArgs s_rooms_near, defBody s_rooms_near, defScope s_rooms_near, [], []⟩) rfl
  obtain ⟨fd_is_room, F_is_room⟩ := cd.def_ 14 (d := ⟨("is_room", none), "is_room", "is_room", defArgs s_is_room, defBody s_is_room, defScope s_is_room, [], []⟩) rfl
  obtain ⟨fd_need_room, F_need_room⟩ := cd.def_ 15 (d := ⟨("need_room", none), "need_room", "need_room", defArgs s_need_room, defBody s_need_room, defScope s_need_room, [], []⟩) rfl
  obtain ⟨fd_is_of_all, F_is_of_all⟩ := cd.def_ 16 (d := ⟨("is_of_all", none), "is_of_all", "is_of_all", defArgs s_is_of_all, defBody s_is_of_all, defScope s_is_of_all, [], []⟩) rfl
  obtain ⟨fd_ahead_from, F_ahead_from⟩ := cd.def_ 17 (d := ⟨("ahead_from", none), "ahead_from", "ahead_from", defArgs s_ahead_from, defBody s_ahead_from, defScope s_ahead_from, [], []⟩) rfl
  obtain ⟨fd_way_back, F_way_back⟩ := cd.def_ 18 (d := ⟨("way_back", none), "way_back", "way_back", defArgs s_way_back, defBody s_way_back, defScope s_way_back, [], []⟩) rfl
  obtain ⟨fd_way, F_way⟩ := cd.def_ 19 (d := ⟨("way", none), "way", "way", defArgs s_way, defBody s_way, defScope s_way, [], []⟩) rfl
  obtain ⟨fd_is_woods, F_is_woods⟩ := cd.def_ 20 (d := ⟨("is_woods", none), "is_woods", "is_woods", defArgs s_is_woods, defBody s_is_woods, defScope s_is_woods, [], []⟩) rfl
  obtain ⟨fd_need_woods, F_need_woods⟩ := cd.def_ 21 (d := ⟨("need_woods", none), "need_woods", "need_woods", defArgs s_need_woods, defBody s_need_woods, defScope s_need_woods, [], []⟩) rfl
  obtain ⟨fd_spread, F_spread⟩ := cd.def_ 22 (d := ⟨("spread", none), "spread", "spread", defArgs s_spread, defBody s_spread, defScope s_spread, [], []⟩) rfl
  obtain ⟨fd_is_fire, F_is_fire⟩ := cd.def_ 23 (d := ⟨("is_fire", none), "is_fire", "is_fire", defArgs s_is_fire, defBody s_is_fire, defScope s_is_fire, [], []⟩) rfl
  obtain ⟨fd_need_fire, F_need_fire⟩ := cd.def_ 24 (d := ⟨("need_fire", none), "need_fire", "need_fire", defArgs s_need_fire, defBody s_need_fire, defScope s_need_fire, [], []⟩) rfl
  obtain ⟨fd_earliest_room, F_earliest_room⟩ := cd.def_ 25 (d := ⟨("earliest_room", none), "earliest_room", "earliest_room", defArgs s_earliest_room, defBody s_earliest_room, defScope s_earliest_room, [], []⟩) rfl
  obtain ⟨fd_first_of, F_first_of⟩ := cd.def_ 26 (d := ⟨("first_of", none), "first_of", "first_of", defArgs s_first_of, defBody s_first_of, defScope s_first_of, [], []⟩) rfl
  obtain ⟨fd_lit_from, F_lit_from⟩ := cd.def_ 27 (d := ⟨("lit_from", none), "lit_from", "lit_from", defArgs s_lit_from, defBody s_lit_from, defScope s_lit_from, [], []⟩) rfl
  obtain ⟨fd_law_start, F_law_start⟩ := cd.def_ 28 (d := ⟨("_law_start", none), "_law_start", "_law_start", defArgs s_law_start, defBody s_law_start, defScope s_law_start, [], []⟩) rfl
  obtain ⟨fd_law_draw, F_law_draw⟩ := cd.def_ 29 (d := ⟨("_law_draw", none), "_law_draw", "_law_draw", defArgs s_law_draw, defBody s_law_draw, defScope s_law_draw, [], []⟩) rfl
  obtain ⟨fd_law_pick, F_law_pick⟩ := cd.def_ 30 (d := ⟨("_law_pick", none), "_law_pick", "_law_pick", defArgs s_law_pick, defBody s_law_pick, defScope s_law_pick, [], []⟩) rfl
  obtain ⟨fd_law_mixed, F_law_mixed⟩ := cd.def_ 31 (d := ⟨("_law_mixed", none), "_law_mixed", "_law_mixed", defArgs s_law_mixed, defBody s_law_mixed, defScope s_law_mixed, [], []⟩) rfl
  obtain ⟨fd_law_same, F_law_same⟩ := cd.def_ 32 (d := ⟨("_law_same", none), "_law_same", "_law_same", defArgs s_law_same, defBody s_law_same, defScope s_law_same, [], []⟩) rfl
  obtain ⟨fd_law_each_once, F_law_each_once⟩ := cd.def_ 33 (d := ⟨("_law_each_once", none), "_law_each_once", "_law_each_once", defArgs s_law_each_once, defBody s_law_each_once, defScope s_law_each_once, [], []⟩) rfl
  obtain ⟨fd_law_h_names, F_law_h_names⟩ := cd.def_ 34 (d := ⟨("_law_h_names", none), "_law_h_names", "_law_h_names", defArgs s_law_h_names, defBody s_law_h_names, defScope s_law_h_names, [], []⟩) rfl
  obtain ⟨fd_law_h_doors, F_law_h_doors⟩ := cd.def_ 35 (d := ⟨("_law_h_doors", none), "_law_h_doors", "_law_h_doors", defArgs s_law_h_doors, defBody s_law_h_doors, defScope s_law_h_doors, [], []⟩) rfl
  obtain ⟨fd_law_h_house, F_law_h_house⟩ := cd.def_ 36 (d := ⟨("_law_h_house", none), "_law_h_house", "_law_h_house", defArgs s_law_h_house, defBody s_law_h_house, defScope s_law_h_house, [], []⟩) rfl
  obtain ⟨fd_law_h_beside, F_law_h_beside⟩ := cd.def_ 37 (d := ⟨("_law_h_beside", none), "_law_h_beside", "_law_h_beside", defArgs s_law_h_beside, defBody s_law_h_beside, defScope s_law_h_beside, [], []⟩) rfl
  obtain ⟨fd_law_h_woods, F_law_h_woods⟩ := cd.def_ 38 (d := ⟨("_law_h_woods", none), "_law_h_woods", "_law_h_woods", defArgs s_law_h_woods, defBody s_law_h_woods, defScope s_law_h_woods, [], []⟩) rfl
  obtain ⟨fd_law_h_burns, F_law_h_burns⟩ := cd.def_ 39 (d := ⟨("_law_h_burns", none), "_law_h_burns", "_law_h_burns", defArgs s_law_h_burns, defBody s_law_h_burns, defScope s_law_h_burns, [], []⟩) rfl
  obtain ⟨fd_law_h_all, F_law_h_all⟩ := cd.def_ 40 (d := ⟨("_law_h_all", none), "_law_h_all", "_law_h_all", defArgs s_law_h_all, defBody s_law_h_all, defScope s_law_h_all, [], []⟩) rfl
  obtain ⟨fd_law_h_from, F_law_h_from⟩ := cd.def_ 41 (d := ⟨("_law_h_from", none), "_law_h_from", "_law_h_from", defArgs s_law_h_from, defBody s_law_h_from, defScope s_law_h_from, [], []⟩) rfl
  obtain ⟨fd_law_by_doors, F_law_by_doors⟩ := cd.def_ 42 (d := ⟨("_law_by_doors", none), "_law_by_doors", "_law_by_doors", defArgs s_law_by_doors, defBody s_law_by_doors, defScope s_law_by_doors, [], []⟩) rfl
  obtain ⟨fd_law_spread_right, F_law_spread_right⟩ := cd.def_ 43 (d := ⟨("_law_spread_right", none), "_law_spread_right", "_law_spread_right", defArgs s_law_spread_right, defBody s_law_spread_right, defScope s_law_spread_right, [], []⟩) rfl
  obtain ⟨fd_law, F_law⟩ := cd.def_ 44 (d := ⟨("law", none), "law", "law", defArgs s_law, defBody s_law, defScope s_law, [], []⟩) rfl
  have hk : HouseK K (He.ga K "House") := ⟨He.cls_ok (cd.fact 61 (f := .cls "House") rfl), He.noat_ok (cd.fact 62 (f := .noat "House" "_rooms") rfl), He.noat_ok (cd.fact 63 (f := .noat "House" "_near") rfl), He.noat_ok (cd.fact 64 (f := .noat "House" "_doors") rfl)⟩
  have T : Tx K mg t_LETTERS t_NAME_SIGNS t_LONGEST_NAME := ⟨b_all, b_bool, b_dict, b_enumerate, b_int, b_isinstance, b_len, b_list, b_max, b_min, b_range, b_sorted, b_str, b_sum, b_tuple, b_zip, q_LETTERS, q_NAME_SIGNS, q_LONGEST_NAME⟩
  have e := hfa.symm.trans m_law
  cases e
  have bL := FunD.bindsA (ps := ["script"]) F_law fun _ _ _ _ _ _ us hl => match us, hl with | [_], _ => rfl
  have hca : fd_earliest_room.code = .ref (ca K) := by
    obtain ⟨oc, od, dV, kV, doc, pm, an, cdv, ct, osl, e, lk, hc, _⟩ := F_earliest_room.ex
    obtain ⟨cc, rfl⟩ := He.codeIn_ref hc
    have e2 : fd_earliest_room.code = .ref cc := by rw [e]
    have e3 : ca K = cc := He.codeOf_eq (p := pE) lk e2
    rw [e3]
    exact e2
  have hin : ∀ p ∈ [He.cT K pE], ∃ q ∈ tfE, p = He.cT K q := fun p hp => ⟨pE, List.mem_singleton.mpr rfl, List.mem_singleton.mp hp⟩
  refine ⟨fd_law, [He.cT K pE], spLaw K (He.ga K "House") (Pa K) qE, fun p hp => ?_, fun p hp => ?_, fun p hp => ?_, fun s v => bL s [v] rfl, fun H a ns hl _ hT hS => ⟨a, ns, rfl, hS, hl, hT _ (List.mem_singleton.mpr rfl), fun _ => rfl⟩, fun base XB GB TB => ?_⟩
  · obtain ⟨q, hq, rfl⟩ := hin p hp
    exact c.empty q hq
  · obtain ⟨q, hq, rfl⟩ := hin p hp
    exact c.out q hq
  · obtain ⟨q, hq, rfl⟩ := hin p hp
    exact PySem.W.codeHd_of_K X (c.hd q hq)
  have TBc := TB _ (List.mem_singleton.mpr rfl)
  have hTT : (Pa K, qE) ∈ [(Pa K, qE)] := List.mem_singleton.mpr rfl
  have huT : ∀ t ∈ [(Pa K, qE)], t.1 = Pa K → t.2 = qE := fun t ht _ => by rw [List.mem_singleton.mp ht]
  have c_is_integer := a_is_integer (P := PySem.Challenge.rw_hearths_k06_whole_what_holds_of_all.prog) (w := w) (base := base) (Ω := [(Pa K, qE)]) T hk F_is_integer m_is_integer 
  have c_is_from_one := a_is_from_one (P := PySem.Challenge.rw_hearths_k06_whole_what_holds_of_all.prog) (w := w) (base := base) (Ω := [(Pa K, qE)]) T hk F_is_from_one m_is_from_one m_is_integer c_is_integer
  have c_is_name := a_is_name (P := PySem.Challenge.rw_hearths_k06_whole_what_holds_of_all.prog) (w := w) (base := base) (Ω := [(Pa K, qE)]) T hk F_is_name m_is_name 
  have c_is_row := a_is_row (P := PySem.Challenge.rw_hearths_k06_whole_what_holds_of_all.prog) (w := w) (base := base) (Ω := [(Pa K, qE)]) T hk F_is_row m_is_row 
  have c_is_rowD := a_is_rowD (P := PySem.Challenge.rw_hearths_k06_whole_what_holds_of_all.prog) (w := w) (base := base) (Ω := [(Pa K, qE)]) T hk F_is_row m_is_row 
  have c_bad_index := a_bad_index (P := PySem.Challenge.rw_hearths_k06_whole_what_holds_of_all.prog) (w := w) (base := base) (Ω := [(Pa K, qE)]) T hk m_is_name c_is_name F_bad_index m_bad_index m_is_row c_is_row
  have c_ascending := a_ascending (P := PySem.Challenge.rw_hearths_k06_whole_what_holds_of_all.prog) (w := w) (base := base) (Ω := [(Pa K, qE)]) T hk F_ascending m_ascending 
  have c_u_is_pair_of := a_u_is_pair_of (P := PySem.Challenge.rw_hearths_k06_whole_what_holds_of_all.prog) (w := w) (base := base) (Ω := [(Pa K, qE)]) T hk F_u_is_pair_of m_u_is_pair_of m_is_row c_is_rowD
  have c_join_lots := a_join_lots (P := PySem.Challenge.rw_hearths_k06_whole_what_holds_of_all.prog) (w := w) (base := base)  T hk F_join_lots m_join_lots 
  have c_u_rooms_near := a_u_rooms_near (P := PySem.Challenge.rw_hearths_k06_whole_what_holds_of_all.prog) (w := w) (base := base) (Ω := [(Pa K, qE)]) T hk F_u_rooms_near m_u_rooms_near m_u_is_pair_of c_u_is_pair_of m_is_row c_is_rowD m_join_lots c_join_lots
  have c_House := a_House_init (P := PySem.Challenge.rw_hearths_k06_whole_what_holds_of_all.prog) (w := w) (base := base) (Ω := [(Pa K, qE)]) T hk (He.mkr_ok (cd.fact 68 (f := .mkr "House") rfl)) m_House F_House_init m_is_name c_is_name m_u_rooms_near c_u_rooms_near m_bad_index c_bad_index
  have c_House_rooms := a_House_rooms (P := PySem.Challenge.rw_hearths_k06_whole_what_holds_of_all.prog) (w := w) (base := base) (Ω := [(Pa K, qE)]) T hk (He.meth_ok (cd.fact 65 (f := .meth "House" "rooms") rfl)) F_House_rooms 
  have c_House_len := a_House_len (P := PySem.Challenge.rw_hearths_k06_whole_what_holds_of_all.prog) (w := w) (base := base) (Ω := [(Pa K, qE)]) T hk (He.meth_ok (cd.fact 67 (f := .meth "House" "__len__") rfl)) F_House_len 
  have c_rooms_near := a_rooms_near (P := PySem.Challenge.rw_hearths_k06_whole_what_holds_of_all.prog) (w := w) (base := base) (Ω := [(Pa K, qE)]) T hk F_rooms_near m_rooms_near 
  have c_is_room := a_is_room (P := PySem.Challenge.rw_hearths_k06_whole_what_holds_of_all.prog) (w := w) (base := base) (Ω := [(Pa K, qE)]) T hk F_is_room m_is_room 
  have c_need_room := a_need_room (P := PySem.Challenge.rw_hearths_k06_whole_what_holds_of_all.prog) (w := w) (base := base) (Ω := [(Pa K, qE)]) T hk F_need_room m_need_room m_is_room c_is_room
  have c_is_of_all := a_is_of_all (P := PySem.Challenge.rw_hearths_k06_whole_what_holds_of_all.prog) (w := w) (base := base) (Ω := [(Pa K, qE)]) T hk F_is_of_all m_is_of_all c_House_len
  have c_ahead_from := a_ahead_from (P := PySem.Challenge.rw_hearths_k06_whole_what_holds_of_all.prog) (w := w) (base := base) (Ω := [(Pa K, qE)]) T hk F_ahead_from m_ahead_from m_rooms_near c_rooms_near
  have c_way_back := a_way_back (P := PySem.Challenge.rw_hearths_k06_whole_what_holds_of_all.prog) (w := w) (base := base) (Ω := [(Pa K, qE)]) T hk F_way_back m_way_back 
  have c_way := a_way (P := PySem.Challenge.rw_hearths_k06_whole_what_holds_of_all.prog) (w := w) (base := base) (Ω := [(Pa K, qE)]) T hk F_way m_way m_ahead_from c_ahead_from m_need_room c_need_room m_way_back c_way_back
  have c_is_woods := a_is_woods (P := PySem.Challenge.rw_hearths_k06_whole_what_holds_of_all.prog) (w := w) (base := base) (Ω := [(Pa K, qE)]) T hk F_is_woods m_is_woods c_House_rooms m_is_from_one c_is_from_one m_is_of_all c_is_of_all
  have c_need_woods := a_need_woods (P := PySem.Challenge.rw_hearths_k06_whole_what_holds_of_all.prog) (w := w) (base := base) (Ω := [(Pa K, qE)]) T hk F_need_woods m_need_woods m_is_woods c_is_woods
  have c_spread := a_spread (P := PySem.Challenge.rw_hearths_k06_whole_what_holds_of_all.prog) (w := w) (base := base) (Ω := [(Pa K, qE)]) T hk F_spread m_spread m_need_woods c_need_woods m_way c_way
  have c_earliest_room := a_earliest_room (P := PySem.Challenge.rw_hearths_k06_whole_what_holds_of_all.prog) (w := w) (base := base) (Ω := [(Pa K, qE)]) T hk TBc hTT huT hca F_earliest_room m_earliest_room c_House_rooms
  have c_is_fire := a_is_fire (P := PySem.Challenge.rw_hearths_k06_whole_what_holds_of_all.prog) (w := w) (base := base) (Ω := [(Pa K, qE)]) T hk F_is_fire m_is_fire c_House_rooms m_ahead_from c_ahead_from m_earliest_room c_earliest_room m_is_integer c_is_integer m_is_of_all c_is_of_all m_need_woods c_need_woods
  have c_need_fire := a_need_fire (P := PySem.Challenge.rw_hearths_k06_whole_what_holds_of_all.prog) (w := w) (base := base) (Ω := [(Pa K, qE)]) T hk F_need_fire m_need_fire m_is_fire c_is_fire
  have c_first_of := a_first_of (P := PySem.Challenge.rw_hearths_k06_whole_what_holds_of_all.prog) (w := w) (base := base) (Ω := [(Pa K, qE)]) T hk F_first_of m_first_of m_earliest_room c_earliest_room m_need_fire c_need_fire
  have c_lit_from := a_lit_from (P := PySem.Challenge.rw_hearths_k06_whole_what_holds_of_all.prog) (w := w) (base := base) (Ω := [(Pa K, qE)]) T hk F_lit_from m_lit_from m_ahead_from c_ahead_from m_ascending c_ascending m_earliest_room c_earliest_room m_need_fire c_need_fire
  have c_law_start := a_law_start (P := PySem.Challenge.rw_hearths_k06_whole_what_holds_of_all.prog) (w := w) (base := base)  T hk F_law_start m_law_start 
  have c_law_draw := a_law_draw (P := PySem.Challenge.rw_hearths_k06_whole_what_holds_of_all.prog) (w := w) (base := base) (Ω := [(Pa K, qE)]) T hk F_law_draw m_law_draw 
  have c_law_pick := a_law_pick (P := PySem.Challenge.rw_hearths_k06_whole_what_holds_of_all.prog) (w := w) (base := base) (Ω := [(Pa K, qE)]) T hk F_law_pick m_law_pick m_law_draw c_law_draw
  have c_law_mixed := a_law_mixed (P := PySem.Challenge.rw_hearths_k06_whole_what_holds_of_all.prog) (w := w) (base := base) (Ω := [(Pa K, qE)]) T hk F_law_mixed m_law_mixed m_law_draw c_law_draw
  have v_same := v_law_same (P := PySem.Challenge.rw_hearths_k06_whole_what_holds_of_all.prog) (w := w) (base := base)  T hk F_law_same m_law_same
  have v_sameB := a_law_sameB (P := PySem.Challenge.rw_hearths_k06_whole_what_holds_of_all.prog) (w := w) (base := base) (Ω := [(Pa K, qE)]) T hk F_law_same m_law_same m_law_same v_same
  have c_law_same := a_law_same (P := PySem.Challenge.rw_hearths_k06_whole_what_holds_of_all.prog) (w := w) (base := base) (Ω := [(Pa K, qE)]) T hk F_law_same m_law_same m_law_same v_sameB
  have c_law_each_once := a_law_each_once (P := PySem.Challenge.rw_hearths_k06_whole_what_holds_of_all.prog) (w := w) (base := base) (Ω := [(Pa K, qE)]) T hk F_law_each_once m_law_each_once 
  have c_law_h_names := a_law_h_names (P := PySem.Challenge.rw_hearths_k06_whole_what_holds_of_all.prog) (w := w) (base := base) (Ω := [(Pa K, qE)]) T hk F_law_h_names m_law_h_names m_law_mixed c_law_mixed
  have c_law_h_doors := a_law_h_doors (P := PySem.Challenge.rw_hearths_k06_whole_what_holds_of_all.prog) (w := w) (base := base) (Ω := [(Pa K, qE)]) T hk F_law_h_doors m_law_h_doors m_law_draw c_law_draw m_law_mixed c_law_mixed
  have c_law_h_house := a_law_h_house (P := PySem.Challenge.rw_hearths_k06_whole_what_holds_of_all.prog) (w := w) (base := base) (Ω := [(Pa K, qE)]) T hk F_law_h_house m_law_h_house m_law_draw c_law_draw m_law_h_doors c_law_h_doors m_law_h_names c_law_h_names m_law_mixed c_law_mixed
  have c_law_h_beside := a_law_h_beside (P := PySem.Challenge.rw_hearths_k06_whole_what_holds_of_all.prog) (w := w) (base := base) (Ω := [(Pa K, qE)]) T hk F_law_h_beside m_law_h_beside 
  have c_law_h_woods := a_law_h_woods (P := PySem.Challenge.rw_hearths_k06_whole_what_holds_of_all.prog) (w := w) (base := base) (Ω := [(Pa K, qE)]) T hk F_law_h_woods m_law_h_woods m_law_draw c_law_draw
  have c_law_h_burns := a_law_h_burns (P := PySem.Challenge.rw_hearths_k06_whole_what_holds_of_all.prog) (w := w) (base := base) (Ω := [(Pa K, qE)]) T hk F_law_h_burns m_law_h_burns m_law_h_beside c_law_h_beside
  have c_law_h_from := a_law_h_from (P := PySem.Challenge.rw_hearths_k06_whole_what_holds_of_all.prog) (w := w) (base := base) (Ω := [(Pa K, qE)]) T hk F_law_h_from m_law_h_from m_law_h_beside c_law_h_beside
  have c_law_h_all := a_law_h_all (P := PySem.Challenge.rw_hearths_k06_whole_what_holds_of_all.prog) (w := w) (base := base) (Ω := [(Pa K, qE)]) T hk F_law_h_all m_law_h_all m_law_h_from c_law_h_from
  have c_law_by_doors := a_law_by_doors (P := PySem.Challenge.rw_hearths_k06_whole_what_holds_of_all.prog) (w := w) (base := base) (Ω := [(Pa K, qE)]) T hk F_law_by_doors m_law_by_doors m_law_h_beside c_law_h_beside
  have c_law_spread_right := a_law_spread_right (P := PySem.Challenge.rw_hearths_k06_whole_what_holds_of_all.prog) (w := w) (base := base) (Ω := [(Pa K, qE)]) T hk F_law_spread_right m_law_spread_right m_law_each_once c_law_each_once m_law_h_beside c_law_h_beside m_spread c_spread
  exact a_law (P := PySem.Challenge.rw_hearths_k06_whole_what_holds_of_all.prog) (w := w) (base := base) (C := He.ga K "House") T hk F_law c_House m_law_by_doors c_law_by_doors m_law_draw c_law_draw m_law_h_all c_law_h_all m_law_h_burns c_law_h_burns m_law_h_house c_law_h_house m_law_h_woods c_law_h_woods m_law_mixed c_law_mixed m_law_pick c_law_pick m_law_same c_law_same m_law_spread_right c_law_spread_right m_law_start c_law_start m_first_of c_first_of m_is_fire c_is_fire m_lit_from c_lit_from
end Z
open PySem PySem.W PySem.Calls PyProof.Rows
theorem PySem.Challenge.cw_hearths_k06_whole_what_holds_of_all_holds : PySem.Challenge.rw_hearths_k06_whole_what_holds_of_all.Holds := by
  w_on; o_law
  refine HandSHeadRun.head_any (r := OpenLaw.row PySem.Challenge.rw_hearths_k06_whole_what_holds_of_all) (q := view (OpenLaw.row PySem.Challenge.rw_hearths_k06_whole_what_holds_of_all).prog [58]) (H := Z.hk) (ob := Z.ob) (M := 4000) (loose := Z.loose) (d := HandSHeadRun.topDef (OpenLaw.row PySem.Challenge.rw_hearths_k06_whole_what_holds_of_all).prog 58) (kwd := []) Z.ob_eq
    (by kernel_rfl) (fun s => by kernel_rfl) Z.run (by kernel_rfl) (by kernel_rfl) (by kernel_rfl) (by rfl) (by first | assumption | decide +kernel) (by decide +kernel) ⟨rfl, rfl, rfl, rfl, rfl, by decide +kernel⟩ ?hw ?hc
  case hw => w_witness2
  case hc =>
    refine LamX.walk_ofTsE (l := PySem.Challenge.rw_hearths_k06_whole_what_holds_of_all) (n := 63) (k := 10) (x := "script") (CX := fun _ => L2.CX0) rfl (by decide) (by kernel_rfl) ⟨rfl, by decide, by decide⟩ ?F (fun _ _ _ _ _ z => z)
    intro w mg fa h Y G hmg0
    obtain ⟨K, KX, c⟩ := Y
    have hmg : mg ("law" : PySem.Str) = some (.ref fa) := by
      have e : (HandSHeadRun.topDef (OpenLaw.row PySem.Challenge.rw_hearths_k06_whole_what_holds_of_all).prog 58).name = ("law" : PySem.Str) := by kernel_rfl
      rw [← e]
      exact hmg0
    exact ⟨K, KX, Z.facts KX G hmg c⟩
