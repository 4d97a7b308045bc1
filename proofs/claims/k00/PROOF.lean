import PyProof.Rows.All
import Wide.All
import OpenK.AllK
import Wide.FinOn
import HandS.ForMost
import HandS.IsInst
import HandS.Flow
import HandS.TupAny
import HandS.Zip
import HandS.ExcInit
import HandS.ExcIs
import HandS.ExcField
import HandS.ExcOwn
import KE.KExcIs
import KE.KExcInit
import KE.KExcLine
import HandS.ExcValue
import HandS.HeadEnd
import PySem.Challenge.RW_crossnest_k00_errors_made_by_hand
set_option Elab.async false
set_option linter.all false
set_option maxRecDepth 100000
set_option maxHeartbeats 4000000
namespace DL
open PySem L2

/-- plain data -/
inductive D where
  | non | bl (b : Bool) | int (i : Int) | str (s : Str)
  | lst (xs : List D) | tup (xs : List D) | fz (xs : List D)
  | ex0 (k : Nat) | ex1 (k : Nat) (f : Str) (d : D)
/-- what a context knows: the written part, classes by numbers -/
structure Cn where
  K : PySem.W.Frag
  ct : Nat → Addr
mutual
def Rp (c : Cn) (H : Hp) : D → V → Prop
  | .non, v => v = .non
  | .bl b, v => v = .bl b
  | .int i, v => v = .int i
  | .str s, v => v = .str s
  | .lst ds, v => ∃ a vs, v = .ref a ∧ H a = some (.lst vs) ∧ RpL c H ds vs
  | .tup ds, v => ∃ a vs, v = .ref a ∧ H a = some (.tup vs) ∧ RpL c H ds vs
  | .fz ds, v => ∃ a vs, v = .ref a ∧ SqL c.K H a vs ∧ RpL c H ds vs
  | .ex0 k, v => ∃ a, v = .ref a ∧ H a = some (exo a (c.ct k) none)
  | .ex1 k f d, v => ∃ a dx y, v = .ref a ∧ H a = some (exo a (c.ct k) (some dx)) ∧ H dx = some (exd dx [(f, y)]) ∧ Rp c H d y
def RpL (c : Cn) (H : Hp) : List D → List V → Prop
  | [], vs => vs = []
  | d :: ds, vs => ∃ v ws, vs = v :: ws ∧ Rp c H d v ∧ RpL c H ds ws
end
theorem Same.t {K : PySem.W.Frag} {H H' : Hp} (e : Same H H') {a : Addr} {xs : List V} (h : SqT K H a xs) : SqT K H' a xs := by
  rcases h with (h | ⟨o, h⟩) | h
  · exact .inl (.inl (e _ _ h))
  · exact .inl (.inr ⟨o, e _ _ h⟩)
  · exact .inr h
mutual
theorem Rp.mono {c : Cn} {H H' : Hp} (e : Same H H') : ∀ (d : D) (v : V), Rp c H d v → Rp c H' d v
  | .non, _, h => h
  | .bl _, _, h => h
  | .int _, _, h => h
  | .str _, _, h => h
  | .lst ds, _, ⟨a, vs, h1, h2, h3⟩ => ⟨a, vs, h1, e _ _ h2, RpL.mono e ds vs h3⟩
  | .tup ds, _, ⟨a, vs, h1, h2, h3⟩ => ⟨a, vs, h1, e _ _ h2, RpL.mono e ds vs h3⟩
  | .fz ds, _, ⟨a, vs, h1, h2, h3⟩ => ⟨a, vs, h1, e.seq h2, RpL.mono e ds vs h3⟩
  | .ex0 _, _, ⟨a, h1, h2⟩ => ⟨a, h1, e _ _ h2⟩
  | .ex1 _ _ d, _, ⟨a, dx, y, h1, h2, h3, h4⟩ => ⟨a, dx, y, h1, e _ _ h2, e _ _ h3, Rp.mono e d y h4⟩
theorem RpL.mono {c : Cn} {H H' : Hp} (e : Same H H') : ∀ (ds : List D) (vs : List V), RpL c H ds vs → RpL c H' ds vs
  | [], _, h => h
  | d :: ds, _, ⟨v, ws, h1, h2, h3⟩ => ⟨v, ws, h1, Rp.mono e d v h2, RpL.mono e ds ws h3⟩
end
section
variable {c : Cn} {H : Hp}
theorem RpL.len : ∀ {ds : List D} {vs : List V}, RpL c H ds vs → vs.length = ds.length
  | [], _, h => by rw [show _ = _ from h]; rfl
  | d :: ds, _, ⟨v, ws, h1, _, h3⟩ => by rw [h1, List.length_cons, List.length_cons, RpL.len h3]
theorem RpL.get : ∀ {ds : List D} {vs : List V} {i : Nat} {d : D}, RpL c H ds vs → ds[i]? = some d → ∃ v, vs[i]? = some v ∧ Rp c H d v
  | [], _, _, _, _, h => by simp at h
  | d :: ds, _, 0, d', ⟨v, ws, h1, h2, h3⟩, h => by
    subst h1
    cases (show some d = some d' from h)
    exact ⟨v, rfl, h2⟩
  | d :: ds, _, i + 1, d', ⟨v, ws, h1, h2, h3⟩, h => by
    subst h1
    obtain ⟨w, e, r⟩ := RpL.get (i := i) h3 (by simpa using h)
    exact ⟨w, by simpa using e, r⟩
theorem RpL.get' : ∀ {ds : List D} {vs : List V} {i : Nat} {v : V}, RpL c H ds vs → vs[i]? = some v → ∃ d, ds[i]? = some d ∧ Rp c H d v := fun {ds vs i v} h e => by
  have hl := h.len
  have hi := (List.getElem?_eq_some_iff.mp e).1
  have hi' : i < ds.length := by omega
  obtain ⟨w, e2, r⟩ := RpL.get h (List.getElem?_eq_getElem hi')
  rw [e] at e2
  cases e2
  exact ⟨_, List.getElem?_eq_getElem hi', r⟩
theorem RpL.nil : RpL c H [] [] := rfl
theorem RpL.cons {d : D} {ds : List D} {v : V} {vs : List V} (h : Rp c H d v) (t : RpL c H ds vs) : RpL c H (d :: ds) (v :: vs) := ⟨v, vs, rfl, h, t⟩
theorem RpL.append : ∀ {ds es : List D} {vs ws : List V}, RpL c H ds vs → RpL c H es ws → RpL c H (ds ++ es) (vs ++ ws)
  | [], _, _, _, h, k => by
    rw [show _ = _ from h]
    exact k
  | d :: ds, _, _, _, ⟨v, ws, h1, h2, h3⟩, k => by
    subst h1
    exact ⟨v, _, rfl, h2, RpL.append h3 k⟩
theorem RpL.one {d : D} {v : V} (h : Rp c H d v) : RpL c H [d] [v] := .cons h .nil
theorem RpL.set : ∀ {ds : List D} {vs : List V} (i : Nat) {d : D} {v : V}, RpL c H ds vs → Rp c H d v → RpL c H (ds.set i d) (vs.set i v)
  | [], _, _, _, _, h, _ => by
    rw [show _ = _ from h]
    exact RpL.nil
  | d :: ds, _, 0, _, _, ⟨v, ws, h1, h2, h3⟩, k => by
    subst h1
    exact ⟨_, _, rfl, k, h3⟩
  | d :: ds, _, i + 1, _, _, ⟨v, ws, h1, h2, h3⟩, k => by
    subst h1
    exact ⟨_, _, rfl, h2, RpL.set i h3 k⟩
theorem RpL.take : ∀ {ds : List D} {vs : List V} (n : Nat), RpL c H ds vs → RpL c H (ds.take n) (vs.take n)
  | _, _, 0, _ => rfl
  | [], _, _ + 1, h => by
    rw [show _ = _ from h]
    exact RpL.nil
  | d :: ds, _, n + 1, ⟨v, ws, h1, h2, h3⟩ => by
    subst h1
    exact ⟨_, _, rfl, h2, RpL.take n h3⟩
theorem RpL.drop : ∀ {ds : List D} {vs : List V} (n : Nat), RpL c H ds vs → RpL c H (ds.drop n) (vs.drop n)
  | _, _, 0, h => h
  | [], _, _ + 1, h => by
    rw [show _ = _ from h]
    exact RpL.nil
  | d :: ds, _, n + 1, ⟨v, ws, h1, h2, h3⟩ => by
    subst h1
    exact RpL.drop n h3
theorem RpL.rep {d : D} {v : V} (h : Rp c H d v) : ∀ n : Nat, RpL c H (List.replicate n d) (List.replicate n v)
  | 0 => rfl
  | n + 1 => ⟨_, _, rfl, h, RpL.rep h n⟩
theorem RpL.eraseIdx : ∀ {ds : List D} {vs : List V} (i : Nat), RpL c H ds vs → RpL c H (ds.eraseIdx i) (vs.eraseIdx i)
  | [], _, _, h => by
    rw [show _ = _ from h]
    exact RpL.nil
  | d :: ds, _, 0, ⟨v, ws, h1, h2, h3⟩ => by
    subst h1
    exact h3
  | d :: ds, _, i + 1, ⟨v, ws, h1, h2, h3⟩ => by
    subst h1
    exact ⟨_, _, rfl, h2, RpL.eraseIdx i h3⟩
theorem RpL.dropLast {ds : List D} {vs : List V} (h : RpL c H ds vs) : RpL c H ds.dropLast vs.dropLast := by
  rw [List.dropLast_eq_take, List.dropLast_eq_take, h.len]
  exact h.take _
end

inductive O where
  | lst (ds : List D)
  | dic (kvs : List (Key × D))
inductive C where
  | val (d : D)
  | own (o : O)
  | par (k : Nat) (o : O)
abbrev Env := List (Option C)
def RpKV (c : Cn) (H : Hp) : List (Key × D) → List (Key × V) → Prop := fun ks ws => ∃ vs : List V, ws = (ks.map (·.1)).zip vs ∧ RpL c H (ks.map (·.2)) vs
/-- the three heaps: frozen, owned, all -/
structure G where
  f : Hp
  o : Hp
  h : Hp
def OkO (c : Cn) (f : Hp) (x : Option HO) : O → Prop
  | .lst ds => ∃ vs, x = some (.lst vs) ∧ RpL c f ds vs
  | .dic kvs => ∃ ws, x = some (.dK ws) ∧ RpKV c f kvs ws
theorem OkO.mono {c : Cn} {f f' : Hp} {x : Option HO} (e : Same f f') : ∀ {o : O}, OkO c f x o → OkO c f' x o
  | .lst ds, ⟨vs, h1, h2⟩ => ⟨vs, h1, RpL.mono e _ _ h2⟩
  | .dic kvs, ⟨ws, h1, vs, h2, h3⟩ => ⟨ws, h1, vs, h2, RpL.mono e _ _ h3⟩
theorem OkO.some {c : Cn} {f : Hp} {x : Option HO} : ∀ {o : O}, OkO c f x o → ∃ y, x = Option.some y
  | .lst ds, ⟨vs, h1, h2⟩ => ⟨_, h1⟩
  | .dic kvs, ⟨ws, h1, _⟩ => ⟨_, h1⟩
structure GOk (g : G) : Prop where
  f : Same g.f g.h
  o : Same g.o g.h
  d : ∀ b x, g.o b = some x → g.f b = none
/-- what a step keeps -/
structure Fr (g g' : G) : Prop where
  f : Same g.f g'.f
  u : ∀ b x, g.h b = some x → g.f b = none → g.o b = none → g'.h b = some x ∧ g'.f b = none ∧ g'.o b = none
theorem Fr.refl (g : G) : Fr g g := ⟨Same.refl _, fun _ _ h1 h2 h3 => ⟨h1, h2, h3⟩⟩
theorem Fr.trans {a b d : G} (x : Fr a b) (y : Fr b d) : Fr a d := ⟨x.f.trans y.f, fun p o h1 h2 h3 => by
  obtain ⟨k1, k2, k3⟩ := x.u p o h1 h2 h3
  exact y.u p o k1 k2 k3⟩
def SlotOk (c : Cn) (β : List Addr) (g : G) (s : Option (Option V)) : Option C → Prop
  | none => True
  | some (.val d) => ∃ v, s = some (some v) ∧ Rp c g.f d v
  | some (.own o) => ∃ p, s = some (some (.ref p)) ∧ OkO c g.f (g.o p) o
  | some (.par k o) => ∃ p, s = some (some (.ref p)) ∧ β[k]? = some p ∧ OkO c g.f (g.o p) o
def isOwn : Option C → Bool
  | some (.own _) => true
  | some (.par _ _) => true
  | _ => false
/-- slot i of the environment -/
def Env.at (e : Env) (i : Nat) : Option C := (e[i]?).join
def Owns (env : Env) (σ : St) (i : Nat) (p : Addr) : Prop := isOwn (Env.at env i) = true ∧ σ[i]? = some (some (.ref p))
structure Ok (c : Cn) (β : List Addr) (g : G) (env : Env) (σ : St) : Prop where
  ok : GOk g
  len : σ.length = env.length
  sl : ∀ i, SlotOk c β g σ[i]? (Env.at env i)
  ap : ∀ i j p, Owns env σ i p → Owns env σ j p → i = j
theorem SlotOk.grow {c : Cn} {β : List Addr} {g g' : G} {s : Option (Option V)} (e : Same g.f g'.f) : ∀ {x : Option C}, (∀ p, s = some (some (.ref p)) → isOwn x = true → ∀ y, g.o p = some y → g'.o p = some y) → SlotOk c β g s x → SlotOk c β g' s x
  | none, _, h => h
  | some (.val d), _, ⟨v, h1, h2⟩ => ⟨v, h1, Rp.mono e _ _ h2⟩
  | some (.own o), k, ⟨p, h1, h2⟩ => ⟨p, h1, by
    obtain ⟨y, hy⟩ := h2.some
    rw [k p h1 rfl y hy, ← hy]
    exact h2.mono e⟩
  | some (.par _ o), k, ⟨p, h1, h0, h2⟩ => ⟨p, h1, h0, by
    obtain ⟨y, hy⟩ := h2.some
    rw [k p h1 rfl y hy, ← hy]
    exact h2.mono e⟩
/-- the owned cells of the environment stand as they stood -/
theorem Ok.grow {c : Cn} {β : List Addr} {g g' : G} {env : Env} {σ : St} (h : Ok c β g env σ) (k : GOk g') (e : Same g.f g'.f) (ho : ∀ i p, Owns env σ i p → ∀ y, g.o p = some y → g'.o p = some y) : Ok c β g' env σ :=
  ⟨k, h.len, fun i => (h.sl i).grow e fun p h1 h2 => ho i p ⟨h2, h1⟩, h.ap⟩
theorem Ok.own {c : Cn} {β : List Addr} {g : G} {env : Env} {σ : St} (h : Ok c β g env σ) {i : Nat} {p : Addr} (o : Owns env σ i p) : ∃ y, g.o p = some y := by
  have s := h.sl i
  obtain ⟨o1, o2⟩ := o
  cases e : Env.at env i with
  | none => rw [e] at o1; cases o1
  | some x =>
    rw [e] at o1 s
    cases x with
    | val d => cases o1
    | own o =>
      obtain ⟨q, h1, h2⟩ := s
      rw [o2] at h1
      cases h1
      exact h2.some
    | par k o =>
      obtain ⟨q, h1, h0, h2⟩ := s
      rw [o2] at h1
      cases h1
      exact h2.some
/-- a new object, frozen -/
theorem fr_new {g : G} (h : GOk g) {p : Addr} {o : HO} (hp : g.h p = none) : GOk ⟨upd g.f p o, g.o, upd g.h p o⟩ ∧ Fr g ⟨upd g.f p o, g.o, upd g.h p o⟩ := by
  have hf : g.f p = none := by
    cases e : g.f p with
    | none => rfl
    | some y =>
      rw [h.f _ _ e] at hp
      cases hp
  have ho : g.o p = none := by
    cases e : g.o p with
    | none => rfl
    | some y =>
      rw [h.o _ _ e] at hp
      cases hp
  refine ⟨⟨fun b x e => ?_, fun b x e => ?_, fun b x e => ?_⟩, ⟨fun b x e => ?_, fun b x h1 h2 h3 => ?_⟩⟩
  · show upd g.h p o b = some x
    by_cases q : b = p
    · subst q
      have e : upd g.f b o b = some x := e
      rw [upd_same] at e ⊢
      exact e
    · have e : upd g.f p o b = some x := e
      rw [upd_ne q] at e ⊢
      exact h.f _ _ e
  · show upd g.h p o b = some x
    rw [upd_ne (fun z => by
      have e : g.o b = some x := e
      rw [z, ho] at e
      cases e)]
    exact h.o _ _ e
  · show upd g.f p o b = none
    rw [upd_ne (fun z => by
      have e : g.o b = some x := e
      rw [z, ho] at e
      cases e)]
    exact h.d _ _ e
  · show upd g.f p o b = some x
    rw [upd_ne (ne_of_none e hf)]
    exact e
  · refine ⟨?_, ?_, h3⟩
    · show upd g.h p o b = some x
      rw [upd_ne (ne_of_none h1 hp)]
      exact h1
    · show upd g.f p o b = none
      rw [upd_ne (ne_of_none h1 hp)]
      exact h2
/-- a new object, owned -/
theorem fr_newO {g : G} (h : GOk g) {p : Addr} {o : HO} (hp : g.h p = none) : GOk ⟨g.f, upd g.o p o, upd g.h p o⟩ ∧ Fr g ⟨g.f, upd g.o p o, upd g.h p o⟩ := by
  have hf : g.f p = none := by
    cases e : g.f p with
    | none => rfl
    | some y =>
      rw [h.f _ _ e] at hp
      cases hp
  refine ⟨⟨fun b x e => ?_, fun b x e => ?_, fun b x e => ?_⟩, ⟨Same.refl _, fun b x h1 h2 h3 => ?_⟩⟩
  · show upd g.h p o b = some x
    rw [upd_ne (fun z => by
      have e : g.f b = some x := e
      rw [z, hf] at e
      cases e)]
    exact h.f _ _ e
  · show upd g.h p o b = some x
    by_cases q : b = p
    · subst q
      have e : upd g.o b o b = some x := e
      rw [upd_same] at e ⊢
      exact e
    · have e : upd g.o p o b = some x := e
      rw [upd_ne q] at e ⊢
      exact h.o _ _ e
  · by_cases q : b = p
    · rw [q]
      exact hf
    · have e : upd g.o p o b = some x := e
      rw [upd_ne q] at e
      exact h.d _ _ e
  · refine ⟨?_, h2, ?_⟩
    · show upd g.h p o b = some x
      rw [upd_ne (ne_of_none h1 hp)]
      exact h1
    · show upd g.o p o b = none
      rw [upd_ne (ne_of_none h1 hp)]
      exact h3
/-- an owned object changes -/
theorem fr_mut {g : G} (h : GOk g) {p : Addr} {o y : HO} (hp : g.o p = some y) : GOk ⟨g.f, upd g.o p o, upd g.h p o⟩ ∧ Fr g ⟨g.f, upd g.o p o, upd g.h p o⟩ := by
  have hf : g.f p = none := h.d _ _ hp
  refine ⟨⟨fun b x e => ?_, fun b x e => ?_, fun b x e => ?_⟩, ⟨Same.refl _, fun b x h1 h2 h3 => ?_⟩⟩
  · show upd g.h p o b = some x
    rw [upd_ne (fun z => by
      have e : g.f b = some x := e
      rw [z, hf] at e
      cases e)]
    exact h.f _ _ e
  · show upd g.h p o b = some x
    by_cases q : b = p
    · subst q
      have e : upd g.o b o b = some x := e
      rw [upd_same] at e ⊢
      exact e
    · have e : upd g.o p o b = some x := e
      rw [upd_ne q] at e ⊢
      exact h.o _ _ e
  · by_cases q : b = p
    · rw [q]
      exact hf
    · have e : upd g.o p o b = some x := e
      rw [upd_ne q] at e
      exact h.d _ _ e
  · have q : b ≠ p := fun z => by
      rw [z, hp] at h3
      cases h3
    refine ⟨?_, h2, ?_⟩
    · show upd g.h p o b = some x
      rw [upd_ne q]
      exact h1
    · show upd g.o p o b = none
      rw [upd_ne q]
      exact h3
/-- the owned heap without p -/
def cut (o : Hp) (p : Addr) : Hp := fun b => if b = p then none else o b
theorem cut_same {o : Hp} {p : Addr} : cut o p p = none := if_pos rfl
theorem cut_ne {o : Hp} {p b : Addr} (h : b ≠ p) : cut o p b = o b := if_neg h
/-- an owned object is frozen -/
theorem fr_frz {g : G} (h : GOk g) {p : Addr} {y : HO} (hp : g.o p = some y) : GOk ⟨upd g.f p y, cut g.o p, g.h⟩ ∧ Fr g ⟨upd g.f p y, cut g.o p, g.h⟩ := by
  have hf : g.f p = none := h.d _ _ hp
  refine ⟨⟨fun b x e => ?_, fun b x e => ?_, fun b x e => ?_⟩, ⟨fun b x e => ?_, fun b x h1 h2 h3 => ?_⟩⟩
  · by_cases q : b = p
    · subst q
      have e : upd g.f b y b = some x := e
      rw [upd_same] at e
      cases e
      exact h.o _ _ hp
    · have e : upd g.f p y b = some x := e
      rw [upd_ne q] at e
      exact h.f _ _ e
  · by_cases q : b = p
    · subst q
      have e : cut g.o b b = some x := e
      rw [cut_same] at e
      cases e
    · have e : cut g.o p b = some x := e
      rw [cut_ne q] at e
      exact h.o _ _ e
  · by_cases q : b = p
    · subst q
      have e : cut g.o b b = some x := e
      rw [cut_same] at e
      cases e
    · have e : cut g.o p b = some x := e
      rw [cut_ne q] at e
      show upd g.f p y b = none
      rw [upd_ne q]
      exact h.d _ _ e
  · show upd g.f p y b = some x
    rw [upd_ne (ne_of_none e hf)]
    exact e
  · have q : b ≠ p := fun z => by
      rw [z, hp] at h3
      cases h3
    refine ⟨h1, ?_, ?_⟩
    · show upd g.f p y b = none
      rw [upd_ne q]
      exact h2
    · show cut g.o p b = none
      rw [cut_ne q]
      exact h3
end DL

namespace DL
open PySem L2

abbrev M (α : Type) := Env → Option (α × Env)
def M.ret {α : Type} (a : α) : M α := fun e => some (a, e)
def M.fail {α : Type} : M α := fun _ => none
def M.bnd {α β : Type} (m : M α) (f : α → M β) : M β := fun e => match m e with
  | none => none
  | some (a, e1) => f a e1
/-- a partial function of the value -/
def M.opt {α β : Type} (m : M α) (f : α → Option β) : M β := fun e => match m e with
  | none => none
  | some (a, e1) => (f a).map fun b => (b, e1)
theorem M.bnd_some {α β : Type} {m : M α} {f : α → M β} {e e' : Env} {b : β} (h : M.bnd m f e = some (b, e')) : ∃ a e1, m e = some (a, e1) ∧ f a e1 = some (b, e') := by
  unfold M.bnd at h
  split at h
  · cases h
  · exact ⟨_, _, by assumption, h⟩
theorem M.opt_some {α β : Type} {m : M α} {f : α → Option β} {e e' : Env} {b : β} (h : M.opt m f e = some (b, e')) : ∃ a, m e = some (a, e') ∧ f a = some b := by
  unfold M.opt at h
  split at h
  · cases h
  · rename_i a e1 hm
    cases hf : f a with
    | none =>
      rw [hf] at h
      cases h
    | some b' =>
      rw [hf] at h
      cases h
      exact ⟨a, hm, hf⟩
/-- a value, or a fresh object of one's own -/
inductive Ar where
  | v (d : D)
  | o (x : O)
abbrev Rel (α ν : Type) := G → Env → L2.St → α → ν → Prop
/-- the judgement: a reading against its mirror -/
def J (c : Cn) {α ν : Type} (R : Rel α ν) (t : L2.St → Hp → (ν → Hp → Prop) → Prop) (m : M α) : Prop :=
  ∀ (β : List Addr) (g : G) (env : Env) (σ : L2.St) (a : α) (env' : Env) (Q : ν → Hp → Prop), Ok c β g env σ → m env = some (a, env') → (∀ g' v, Fr g g' → Ok c β g' env' σ → R g' env' σ a v → Q v g'.h) → t σ g.h Q
def RV (c : Cn) : Rel D V := fun g _ _ d v => Rp c g.f d v
/-- readable now: the list itself stands in the heap, its items are frozen -/
def RpT (c : Cn) (g : G) : D → V → Prop
  | .lst ds, v => ∃ a vs, v = .ref a ∧ g.h a = some (.lst vs) ∧ RpL c g.f ds vs
  | d, v => Rp c g.f d v
def RT (c : Cn) : Rel D V := fun g _ _ d v => RpT c g d v
def RA (c : Cn) : Rel Ar V := fun g env σ x v => match x with
  | .v d => Rp c g.f d v
  | .o o => ∃ p, v = .ref p ∧ OkO c g.f (g.o p) o ∧ ∀ i q, Owns env σ i q → q ≠ p
def RB : Rel Bool Bool := fun _ _ _ a b => a = b
def RL (c : Cn) : Rel (List D) (List V) := fun g _ _ ds vs => RpL c g.f ds vs
theorem RpT.of {c : Cn} {g : G} (k : GOk g) : ∀ {d : D} {v : V}, Rp c g.f d v → RpT c g d v
  | .lst ds, _, ⟨a, vs, h1, h2, h3⟩ => ⟨a, vs, h1, k.f _ _ h2, h3⟩
  | .non, _, h => h
  | .bl _, _, h => h
  | .int _, _, h => h
  | .str _, _, h => h
  | .tup _, _, h => h
  | .fz _, _, h => h
  | .ex0 _, _, h => h
  | .ex1 _ _ _, _, h => h
structure EX (ct : Nat → Addr) (X : Cx) (e : Expr) (t : TE) (m : M D) : Prop where
  pe : PE X e t
  ev : J ⟨X.K, ct⟩ (RV ⟨X.K, ct⟩) t m
structure ET (ct : Nat → Addr) (X : Cx) (e : Expr) (t : TE) (m : M D) : Prop where
  pe : PE X e t
  ev : J ⟨X.K, ct⟩ (RT ⟨X.K, ct⟩) t m
structure EA (ct : Nat → Addr) (X : Cx) (e : Expr) (t : TE) (m : M Ar) : Prop where
  pe : PE X e t
  ev : J ⟨X.K, ct⟩ (RA ⟨X.K, ct⟩) t m
structure TX (ct : Nat → Addr) (X : Cx) (e : Expr) (t : TT) (m : M Bool) : Prop where
  pe : PT X e t
  ev : J ⟨X.K, ct⟩ RB t m
structure TW (ct : Nat → Addr) (X : Cx) (e : Expr) (t : TT) (m : M Bool) : Prop where
  pe : PW X e t
  ev : J ⟨X.K, ct⟩ RB t m
structure AX (ct : Nat → Addr) (X : Cx) (es : List Expr) (t : TA) (m : M (List D)) : Prop where
  pe : PA X es t
  ev : J ⟨X.K, ct⟩ (RL ⟨X.K, ct⟩) t m
def frzA : Ar → Option D
  | .v d => some d
  | .o (.lst ds) => some (.lst ds)
  | .o (.dic _) => none
section
variable {ct : Nat → Addr} {X : Cx} {e : Expr} {t : TE}
theorem EX.et {m : M D} (h : EX ct X e t m) : ET ct X e t m := ⟨h.pe, fun β g env σ a env' Q ok hm k => h.ev β g env σ a env' Q ok hm fun g' v f o r => k g' v f o (RpT.of o.ok r)⟩
theorem EX.up {m : M D} (h : EX ct X e t m) : EA ct X e t (M.opt m fun d => some (.v d)) := ⟨h.pe, fun β g env σ a env' Q ok hm k => by
  obtain ⟨d, h1, h2⟩ := M.opt_some hm
  cases h2
  exact h.ev β g env σ d env' Q ok h1 fun g' v f o r => k g' v f o r⟩
theorem EA.fz {m : M Ar} (h : EA ct X e t m) : EX ct X e t (M.opt m frzA) := ⟨h.pe, fun β g env σ a env' Q ok hm k => by
  obtain ⟨x, h1, h2⟩ := M.opt_some hm
  refine h.ev β g env σ x env' Q ok h1 fun g' v f o r => ?_
  cases x with
  | v d =>
    cases h2
    exact k g' v f o r
  | o x =>
    cases x with
    | dic kvs => cases h2
    | lst ds =>
      cases h2
      obtain ⟨p, rfl, ⟨vs, e1, e2⟩, e3⟩ := r
      obtain ⟨k1, k2⟩ := fr_frz o.ok e1
      refine k ⟨upd g'.f p (.lst vs), cut g'.o p, g'.h⟩ _ (f.trans k2) (o.grow k1 k2.f fun i q hq y hy => ?_) ⟨p, vs, rfl, upd_same, RpL.mono k2.f _ _ e2⟩
      show cut g'.o p q = some y
      rw [cut_ne (e3 i q hq)]
      exact hy⟩
end
def mVar (i : Nat) : M D := fun e => match Env.at e i with
  | some (.val d) => some (d, e)
  | _ => none
def mVarT (i : Nat) : M D := fun e => match Env.at e i with
  | some (.val d) => some (d, e)
  | some (.own (.lst ds)) => some (.lst ds, e)
  | some (.par _ (.lst ds)) => some (.lst ds, e)
  | _ => none
section
variable {ct : Nat → Addr} {X : Cx} {pos : Pos}
theorem ex_var (i : Nat) {x : Str} (hN : X.N[i]? = some x := by rfl) (hv : Vis X.env.scope x := by first | exact Or.inl rfl | exact Or.inr (Or.inl rfl) | exact Or.inr (Or.inr rfl)) (hd : (x == ("__debug__" : Str)) = false := by decide)
    (hcd : (x == ("__classdict__" : Str)) = false := by decide) : EX ct X (.Name x pos) (tVar i) (mVar i) := ⟨pe_var hN hv hd hcd, fun β g env σ a env' Q ok hm k => by
  unfold mVar at hm
  have s := ok.sl i
  split at hm
  · rename_i d hd
    cases hm
    rw [hd] at s
    obtain ⟨v, h1, h2⟩ := s
    exact ⟨v, h1, k g v (Fr.refl g) ok h2⟩
  · cases hm⟩
theorem et_var (i : Nat) {x : Str} (hN : X.N[i]? = some x := by rfl) (hv : Vis X.env.scope x := by first | exact Or.inl rfl | exact Or.inr (Or.inl rfl) | exact Or.inr (Or.inr rfl)) (hd : (x == ("__debug__" : Str)) = false := by decide)
    (hcd : (x == ("__classdict__" : Str)) = false := by decide) : ET ct X (.Name x pos) (tVar i) (mVarT i) := ⟨pe_var hN hv hd hcd, fun β g env σ a env' Q ok hm k => by
  unfold mVarT at hm
  have s := ok.sl i
  split at hm
  · rename_i d hd
    cases hm
    rw [hd] at s
    obtain ⟨v, h1, h2⟩ := s
    exact ⟨v, h1, k g v (Fr.refl g) ok (RpT.of ok.ok h2)⟩
  · rename_i d hd
    cases hm
    rw [hd] at s
    obtain ⟨p, h1, vs, h2, h3⟩ := s
    exact ⟨_, h1, k g _ (Fr.refl g) ok ⟨p, vs, rfl, ok.ok.o _ _ h2, h3⟩⟩
  · rename_i d hd
    cases hm
    rw [hd] at s
    obtain ⟨p, h1, h0, vs, h2, h3⟩ := s
    exact ⟨_, h1, k g _ (Fr.refl g) ok ⟨p, vs, rfl, ok.ok.o _ _ h2, h3⟩⟩
  · cases hm⟩
theorem ex_c {e : Expr} {v : V} {d : D} (h : PE X e (tC v)) (r : ∀ H, Rp ⟨X.K, ct⟩ H d v) : EX ct X e (tC v) (M.ret d) := ⟨h, fun β g env σ a env' Q ok hm k => by
  cases hm
  exact k g v (Fr.refl g) ok (r _)⟩
theorem ex_int {i : Int} {j} : EX ct X (.Constant (.int i) j pos) (tC (.int i)) (M.ret (.int i)) := ex_c pe_int fun _ => rfl
theorem ex_bl {b : Bool} {j} : EX ct X (.Constant (.bool b) j pos) (tC (.bl b)) (M.ret (.bl b)) := ex_c pe_bl fun _ => rfl
theorem ex_non {j} : EX ct X (.Constant .none j pos) (tC .non) (M.ret .non) := ex_c pe_non fun _ => rfl
theorem ex_str {x : Str} {j} : EX ct X (.Constant (.str x) j pos) (tC (.str x)) (M.ret (.str x)) := ex_c pe_str fun _ => rfl
end
def ResOk (c : Cn) (g g' : G) : Ar → V → Prop
  | .v d, z => Rp c g'.f d z
  | .o o, z => ∃ p, z = .ref p ∧ OkO c g'.f (g'.o p) o ∧ g.o p = none
/-- what is wanted behind an operation that gives x: it changes nothing that stood, it may make new objects -/
def Out (c : Cn) (g : G) (x : Ar) (Q : VK) : Prop := ∀ g' z, Fr g g' → GOk g' → (∀ b y, g.o b = some y → g'.o b = some y) → ResOk c g g' x z → Q z g'.h
theorem Out.of {c : Cn} {β : List Addr} {g : G} {env : Env} {σ : L2.St} {x : Ar} {Q : VK} (ok : Ok c β g env σ) (k : ∀ g' v, Fr g g' → Ok c β g' env σ → RA c g' env σ x v → Q v g'.h) : Out c g x Q := fun g' z f o kp r => by
  refine k g' z f (ok.grow o f.f fun i q _ y hy => kp q y hy) ?_
  cases x with
  | v d => exact r
  | o x =>
    obtain ⟨p, e, r, hn⟩ := r
    refine ⟨p, e, r, fun i q hq z => ?_⟩
    obtain ⟨y, hy⟩ := ok.own hq
    rw [z, hn] at hy
    cases hy
theorem Out.ofV {c : Cn} {β : List Addr} {g : G} {env : Env} {σ : L2.St} {d : D} {Q : VK} (ok : Ok c β g env σ) (k : ∀ g' v, Fr g g' → Ok c β g' env σ → RV c g' env σ d v → Q v g'.h) : Out c g (.v d) Q :=
  Out.of ok fun g' v f o r => k g' v f o r
theorem Out.val {c : Cn} {g : G} {d : D} {Q : VK} (k : GOk g) (h : Out c g (.v d) Q) {z : V} (r : Rp c g.f d z) : Q z g.h := h g z (Fr.refl g) k (fun _ _ e => e) r
theorem GOk.fresh {g : G} (k : GOk g) {p : Addr} (h : g.h p = none) : g.f p = none ∧ g.o p = none := by
  refine ⟨?_, ?_⟩
  · cases e : g.f p with
    | none => rfl
    | some y =>
      rw [k.f _ _ e] at h
      cases h
  · cases e : g.o p with
    | none => rfl
    | some y =>
      rw [k.o _ _ e] at h
      cases h
theorem Out.newO {c : Cn} {g : G} {o : O} {Q : VK} {y : HO} (k : GOk g) (h : Out c g (.o o) Q) {p : Addr} (hp : g.h p = none) (r : OkO c g.f (some y) o) : Q (.ref p) (upd g.h p y) := by
  obtain ⟨k1, k2⟩ := fr_newO (o := y) k hp
  have hn := (k.fresh hp).2
  refine h ⟨g.f, upd g.o p y, upd g.h p y⟩ (.ref p) k2 k1 (fun b x e => ?_) ⟨p, rfl, ?_, hn⟩
  · show upd g.o p y b = some x
    rw [upd_ne (ne_of_none e hn)]
    exact e
  · show OkO c g.f (upd g.o p y p) o
    rw [upd_same]
    exact r
theorem Out.newL {c : Cn} {g : G} {ds : List D} {vs : List V} {Q : VK} (k : GOk g) (h : Out c g (.o (.lst ds)) Q) {p : Addr} (hp : g.h p = none) (r : RpL c g.f ds vs) : Q (.ref p) (upd g.h p (.lst vs)) := Out.newO k h hp ⟨vs, rfl, r⟩
theorem Out.newV {c : Cn} {g : G} {d : D} {Q : VK} {y : HO} (k : GOk g) (h : Out c g (.v d) Q) {p : Addr} (hp : g.h p = none) (r : Rp c (upd g.f p y) d (.ref p)) : Q (.ref p) (upd g.h p y) := by
  obtain ⟨k1, k2⟩ := fr_new (o := y) k hp
  exact h ⟨upd g.f p y, g.o, upd g.h p y⟩ (.ref p) k2 k1 (fun b x e => e) r
theorem same_new {f : Hp} {p : Addr} {y : HO} (h : f p = none) : Same f (upd f p y) := fun b x e => by
  rw [upd_ne (ne_of_none e h)]
  exact e
theorem Out.newT {c : Cn} {g : G} {ds : List D} {vs : List V} {Q : VK} (k : GOk g) (h : Out c g (.v (.tup ds)) Q) {p : Addr} (hp : g.h p = none) (r : RpL c g.f ds vs) : Q (.ref p) (upd g.h p (.tup vs)) :=
  Out.newV k h hp ⟨p, vs, rfl, upd_same, RpL.mono (same_new (k.fresh hp).1) _ _ r⟩
/-- an operation on two values -/
def SR (K : PySem.W.Frag) (ct : Nat → Addr) (r : R2) (f : D → D → Option Ar) : Prop := ∀ (g : G) (a b : D) (x : Ar) (v w : V) (Q : VK), GOk g → Rp ⟨K, ct⟩ g.f a v → Rp ⟨K, ct⟩ g.f b w → f a b = some x → Out ⟨K, ct⟩ g x Q → r v w g.h Q
def SU (K : PySem.W.Frag) (ct : Nat → Addr) (r : V → Hp → VK → Prop) (f : D → Option Ar) : Prop := ∀ (g : G) (a : D) (x : Ar) (v : V) (Q : VK), GOk g → Rp ⟨K, ct⟩ g.f a v → f a = some x → Out ⟨K, ct⟩ g x Q → r v g.h Q
/-- .. on the arguments of a call -/
def SC (K : PySem.W.Frag) (ct : Nat → Addr) (r : List V → Hp → VK → Prop) (f : List D → Option Ar) : Prop := ∀ (g : G) (a : List D) (x : Ar) (vs : List V) (Q : VK), GOk g → RpL ⟨K, ct⟩ g.f a vs → f a = some x → Out ⟨K, ct⟩ g x Q → r vs g.h Q
/-- .. the last operand only read now -/
def SRT (K : PySem.W.Frag) (ct : Nat → Addr) (r : R2) (f : D → D → Option Ar) : Prop := ∀ (g : G) (a b : D) (x : Ar) (v w : V) (Q : VK), GOk g → Rp ⟨K, ct⟩ g.f a v → RpT ⟨K, ct⟩ g b w → f a b = some x → Out ⟨K, ct⟩ g x Q → r v w g.h Q
def SUT (K : PySem.W.Frag) (ct : Nat → Addr) (r : V → Hp → VK → Prop) (f : D → Option Ar) : Prop := ∀ (g : G) (a : D) (x : Ar) (v : V) (Q : VK), GOk g → RpT ⟨K, ct⟩ g a v → f a = some x → Out ⟨K, ct⟩ g x Q → r v g.h Q
theorem orOp {X : Cx} {f : Value → Value → Sem Value} {r1 r2 : R2} (h1 : OpR X f r1) (h2 : OpR X f r2) : OpR X f (fun x y H Q => r1 x y H Q ∨ r2 x y H Q) := by
  intro pins s σ H x y v u Q I rx ry h
  rcases h with h | h
  · exact h1 pins s σ H x y v u Q I rx ry h
  · exact h2 pins s σ H x y v u Q I rx ry h
theorem orCall {X : Cx} {f : Value} {r1 r2 : List V → Hp → VK → Prop} (h1 : CallR X f r1) (h2 : CallR X f r2) : CallR X f (fun xs H Q => r1 xs H Q ∨ r2 xs H Q) := by
  intro pins s σ H xs us Q I r h
  rcases h with h | h
  · exact h1 pins s σ H xs us Q I r h
  · exact h2 pins s σ H xs us Q I r h
def mBin (f : D → D → Option Ar) (ma mb : M D) : M Ar := M.bnd ma fun a => M.opt mb fun b => f a b
def mUn (f : D → Option Ar) (ma : M D) : M Ar := M.opt ma f
def mCall (f : List D → Option Ar) (ma : M (List D)) : M Ar := M.opt ma f
def mNil : M (List D) := M.ret []
def mCons (ma : M D) (mr : M (List D)) : M (List D) := M.bnd ma fun a => M.opt mr fun r => some (a :: r)
section
variable {ct : Nat → Addr} {X : Cx} {pos : Pos} {a b : Expr} {es : List Expr} {ta tb : TE} {t : TA} {ma mb : M D} {m : M (List D)} {r : R2} {f : D → D → Option Ar}
theorem j_bin {c : Cn} (ha : J c (RV c) ta ma) (hb : J c (RV c) tb mb) (hs : SR c.K c.ct r f) : J c (RA c) (tOp r ta tb) (mBin f ma mb) := fun β g env σ x env' Q ok hm k => by
  obtain ⟨d1, e1, h1, hm⟩ := M.bnd_some hm
  obtain ⟨d2, h2, h3⟩ := M.opt_some hm
  refine ha β g env σ d1 e1 _ ok h1 fun g1 v f1 o1 r1 => hb β g1 e1 σ d2 env' _ o1 h2 fun g2 w f2 o2 r2 => ?_
  exact hs g2 d1 d2 x v w Q o2.ok (Rp.mono f2.f _ _ r1) r2 h3 (Out.of o2 fun g' v f o r => k g' v ((f1.trans f2).trans f) o r)
theorem j_binT {c : Cn} (ha : J c (RV c) ta ma) (hb : J c (RT c) tb mb) (hs : SRT c.K c.ct r f) : J c (RA c) (tOp r ta tb) (mBin f ma mb) := fun β g env σ x env' Q ok hm k => by
  obtain ⟨d1, e1, h1, hm⟩ := M.bnd_some hm
  obtain ⟨d2, h2, h3⟩ := M.opt_some hm
  refine ha β g env σ d1 e1 _ ok h1 fun g1 v f1 o1 r1 => hb β g1 e1 σ d2 env' _ o1 h2 fun g2 w f2 o2 r2 => ?_
  exact hs g2 d1 d2 x v w Q o2.ok (Rp.mono f2.f _ _ r1) r2 h3 (Out.of o2 fun g' v f o r => k g' v ((f1.trans f2).trans f) o r)
theorem j_un {c : Cn} {r : V → Hp → VK → Prop} {f : D → Option Ar} (ha : J c (RV c) ta ma) (hs : SU c.K c.ct r f) : J c (RA c) (tUn r ta) (mUn f ma) := fun β g env σ x env' Q ok hm k => by
  obtain ⟨d1, h1, h3⟩ := M.opt_some hm
  refine ha β g env σ d1 env' _ ok h1 fun g1 v f1 o1 r1 => ?_
  exact hs g1 d1 x v Q o1.ok r1 h3 (Out.of o1 fun g' v f o r => k g' v (f1.trans f) o r)
theorem j_unT {c : Cn} {r : V → Hp → VK → Prop} {f : D → Option Ar} (ha : J c (RT c) ta ma) (hs : SUT c.K c.ct r f) : J c (RA c) (tUn r ta) (mUn f ma) := fun β g env σ x env' Q ok hm k => by
  obtain ⟨d1, h1, h3⟩ := M.opt_some hm
  refine ha β g env σ d1 env' _ ok h1 fun g1 v f1 o1 r1 => ?_
  exact hs g1 d1 x v Q o1.ok r1 h3 (Out.of o1 fun g' v f o r => k g' v (f1.trans f) o r)
theorem j_cb {c : Cn} {r : List V → Hp → VK → Prop} {f : List D → Option Ar} (ha : J c (RL c) t m) (hs : SC c.K c.ct r f) : J c (RA c) (tCB r t) (mCall f m) := fun β g env σ x env' Q ok hm k => by
  obtain ⟨d1, h1, h3⟩ := M.opt_some hm
  refine ha β g env σ d1 env' _ ok h1 fun g1 v f1 o1 r1 => ?_
  exact hs g1 d1 x v Q o1.ok r1 h3 (Out.of o1 fun g' v f o r => k g' v (f1.trans f) o r)
theorem ax_nil : AX ct X [] tNil mNil := ⟨pa_nil, fun β g env σ a env' Q ok hm k => by
  cases hm
  exact k g [] (Fr.refl g) ok rfl⟩
theorem ax_cons (ha : EX ct X a ta ma) (hr : AX ct X es t m) (hs : starEach (a :: es) X.env = (false, eval a X.env) :: starEach es X.env := by rfl) : AX ct X (a :: es) (tCons ta t) (mCons ma m) := ⟨pa_cons ha.pe hr.pe hs, fun β g env σ x env' Q ok hm k => by
  obtain ⟨d1, e1, h1, hm⟩ := M.bnd_some hm
  obtain ⟨d2, h2, h3⟩ := M.opt_some hm
  cases h3
  refine ha.ev β g env σ d1 e1 _ ok h1 fun g1 v f1 o1 r1 => hr.ev β g1 e1 σ d2 env' _ o1 h2 fun g2 w f2 o2 r2 => ?_
  exact k g2 (v :: w) (f1.trans f2) o2 ⟨v, w, rfl, Rp.mono f2.f _ _ r1, r2⟩⟩
/-- displays -/
def mLst (m : M (List D)) : M Ar := M.opt m fun ds => if ds.length ≤ 100000 then some (.o (.lst ds)) else none
def mTup (m : M (List D)) : M D := M.opt m fun ds => if ds.length ≤ 100000 then some (.tup ds) else none
theorem sz_of {n : Nat} (h : n ≤ 100000) : n ≤ sizeLine := Nat.le_trans h (by decide)
theorem ea_lst (h : AX ct X es t m) : EA ct X (.List es pos) (tLst t) (mLst m) := ⟨pe_lst h.pe, fun β g env σ x env' Q ok hm k => by
  obtain ⟨ds, h1, h2⟩ := M.opt_some hm
  split at h2
  · rename_i hz
    cases h2
    refine h.ev β g env σ ds env' _ ok h1 fun g1 vs f1 o1 r1 => ⟨sz_of (by rw [RpL.len r1]; exact hz), fun p hp => ?_⟩
    exact Out.newL o1.ok (Out.of o1 fun g' v f o r => k g' v (f1.trans f) o r) hp r1
  · cases h2⟩
theorem ex_tup (h : AX ct X es t m) {x1} : EX ct X (.Tuple es x1 pos) (tTup t) (mTup m) := ⟨pe_tup h.pe, fun β g env σ x env' Q ok hm k => by
  obtain ⟨ds, h1, h2⟩ := M.opt_some hm
  split at h2
  · rename_i hz
    cases h2
    refine h.ev β g env σ ds env' _ ok h1 fun g1 vs f1 o1 r1 => ⟨sz_of (by rw [RpL.len r1]; exact hz), fun p hp => ?_⟩
    exact Out.newT o1.ok (Out.ofV o1 fun g' v f o r => k g' v (f1.trans f) o r) hp r1
  · cases h2⟩
end
end DL

namespace DL
open PySem L2

def fAdd : D → D → Option Ar
  | .int i, .int j => some (.v (.int (i + j)))
  | .int i, .bl k => some (.v (.int (i + PyProof.Rows.b2i k)))
  | .str x, .str y => if x.length + y.length ≤ 100000 then some (.v (.str (x ++ y))) else none
  | .lst xs, .lst ys => if xs.length + ys.length ≤ 100000 then some (.o (.lst (xs ++ ys))) else none
  | .tup xs, .tup ys => if xs.length + ys.length ≤ 100000 then some (.v (.tup (xs ++ ys))) else none
  | _, _ => none
def fSub : D → D → Option Ar
  | .int i, .int j => some (.v (.int (i - j)))
  | _, _ => none
def fMul : D → D → Option Ar
  | .int i, .int j => if (-(2 ^ 64) < i ∧ i < 2 ^ 64) ∨ (-(2 ^ 64) < j ∧ j < 2 ^ 64) then some (.v (.int (i * j))) else none
  | .lst xs, .int k => if -100000 ≤ k ∧ k ≤ 100000 ∧ xs.length * k.toNat ≤ 100000 then some (.o (.lst (List.replicate k.toNat xs).flatten)) else none
  | _, _ => none
def fMod : D → D → Option Ar
  | .int i, .int j => if j ≠ 0 then some (.v (.int (i.fmod j))) else none
  | _, _ => none
def fDiv : D → D → Option Ar
  | .int i, .int j => if j ≠ 0 ∧ j.natAbs < 1073741824 then some (.v (.int (i.fdiv j))) else none
  | _, _ => none
def fPow : D → D → Option Ar
  | .int i, .int j => if 0 ≤ j ∧ j ≤ 1000000 ∧ i.natAbs < 2 ^ 64 then some (.v (.int (i ^ j.toNat))) else none
  | _, _ => none
def fLt : D → D → Option Ar
  | .int i, .int j => some (.v (.bl (decide (i < j))))
  | _, _ => none
def fLe : D → D → Option Ar
  | .int i, .int j => some (.v (.bl (decide (i ≤ j))))
  | _, _ => none
def fGt : D → D → Option Ar
  | .int i, .int j => some (.v (.bl (decide (j < i))))
  | _, _ => none
def fGe : D → D → Option Ar
  | .int i, .int j => some (.v (.bl (decide (j ≤ i))))
  | _, _ => none
/-- equality of plain values (not of lists, tuples) -/
def scD : D → D → Option Bool
  | .non, .non => some true
  | .non, .int _ => some false | .int _, .non => some false
  | .non, .bl _ => some false | .bl _, .non => some false
  | .non, .str _ => some false | .str _, .non => some false
  | .int i, .int j => some (decide (i = j))
  | .bl i, .bl j => some (decide (i = j))
  | .str x, .str y => some (decide (x = y))
  | .int _, .str _ => some false | .str _, .int _ => some false
  | .bl _, .str _ => some false | .str _, .bl _ => some false
  | _, _ => none
def fEq (a b : D) : Option Ar := (scD a b).map fun k => .v (.bl k)
def fNe (a b : D) : Option Ar := (scD a b).map fun k => .v (.bl (!k))
def isNonD : D → Bool
  | .non => true
  | _ => false
def fIsN (a b : D) : Option Ar := match b with
  | .non => some (.v (.bl (isNonD a)))
  | _ => none
def fNotN (a b : D) : Option Ar := match b with
  | .non => some (.v (.bl (!isNonD a)))
  | _ => none
abbrev rAddAll (K : PySem.W.Frag) : R2 := (fun x y H Q => rI0 (fun i j => .int (i + j)) x y H Q ∨ (fun x y H Q => (fun x y H Q => ∃ i k, x = .int i ∧ y = .bl k ∧ Q (.int (i + PyProof.Rows.b2i k)) H) x y H Q ∨ (fun x y H Q => (fun x y H Q => ∃ i j, x = .str i ∧ y = .str j ∧ i.length + j.length ≤ sizeLine ∧ Q (.str (i ++ j)) H) x y H Q ∨ (fun x y H Q => rCat x y H Q ∨ rCatA K x y H Q) x y H Q) x y H Q) x y H Q)
abbrev rMulAll : R2 := (fun x y H Q => rI CMul (fun i j => .int (i * j)) x y H Q ∨ rRep x y H Q)
section
variable {K : PySem.W.Frag} {ct : Nat → Addr}
theorem sr_add : SR K ct (rAddAll K) fAdd := by
  intro g a b x v w Q k ra rb h q
  unfold fAdd at h
  split at h
  · cases h
    cases ra
    cases rb
    exact .inl ⟨_, _, rfl, rfl, q.val k rfl⟩
  · cases h
    cases ra
    cases rb
    exact .inr (.inl ⟨_, _, rfl, rfl, q.val k rfl⟩)
  · split at h
    · rename_i hz
      cases h
      cases ra
      cases rb
      exact .inr (.inr (.inl ⟨_, _, rfl, rfl, sz_of hz, q.val k rfl⟩))
    · cases h
  · split at h
    · rename_i hz
      cases h
      obtain ⟨p, xs, rfl, h1, h2⟩ := ra
      obtain ⟨p', ys, rfl, h3, h4⟩ := rb
      exact .inr (.inr (.inr (.inl ⟨p, p', xs, ys, rfl, rfl, k.f _ _ h1, k.f _ _ h3, sz_of (by rw [h2.len, h4.len]; exact hz), fun r hr => q.newL k hr (h2.append h4)⟩)))
    · cases h
  · split at h
    · rename_i hz
      cases h
      obtain ⟨p, xs, rfl, h1, h2⟩ := ra
      obtain ⟨p', ys, rfl, h3, h4⟩ := rb
      refine .inr (.inr (.inr (.inr ⟨p, p', xs, ys, rfl, rfl, .inl (.inl (k.f _ _ h1)), .inl (.inl (k.f _ _ h3)), sz_of (by rw [h2.len, h4.len]; exact hz), fun e => ?_, fun _ e => ?_, fun _ _ r hr => q.newT k hr (h2.append h4)⟩)))
      · have hn := h2.len
        rw [e] at hn
        have e2 := List.length_eq_zero_iff.mp hn.symm
        subst e2
        exact q.val k ⟨p', ys, rfl, h3, h4⟩
      · have hn := h4.len
        rw [e] at hn
        have e2 := List.length_eq_zero_iff.mp hn.symm
        subst e2
        rw [List.append_nil] at q
        exact q.val k ⟨p, xs, rfl, h1, h2⟩
    · cases h
  · cases h
theorem sr_I0 {f : D → D → Option Ar} {g0 : Int → Int → V} (hf : ∀ a b x, f a b = some x → ∃ i j d, a = .int i ∧ b = .int j ∧ x = .v d ∧ ∀ H, Rp ⟨K, ct⟩ H d (g0 i j)) : SR K ct (rI0 g0) f := by
  intro g a b x v w Q k ra rb h q
  obtain ⟨i, j, d, rfl, rfl, rfl, hd⟩ := hf a b x h
  cases ra
  cases rb
  exact ⟨i, j, rfl, rfl, q.val k (hd _)⟩
theorem sr_I {C : Int → Int → Prop} {f : D → D → Option Ar} {g0 : Int → Int → V} (hf : ∀ a b x, f a b = some x → ∃ i j d, a = .int i ∧ b = .int j ∧ C i j ∧ x = .v d ∧ ∀ H, Rp ⟨K, ct⟩ H d (g0 i j)) : SR K ct (rI C g0) f := by
  intro g a b x v w Q k ra rb h q
  obtain ⟨i, j, d, rfl, rfl, hc, rfl, hd⟩ := hf a b x h
  cases ra
  cases rb
  exact ⟨i, j, rfl, rfl, hc, q.val k (hd _)⟩
theorem sr_sub : SR K ct (rI0 fun i j => .int (i - j)) fSub := sr_I0 fun a b x h => by
  unfold fSub at h
  split at h
  · cases h
    exact ⟨_, _, _, rfl, rfl, rfl, fun _ => rfl⟩
  · cases h
theorem sr_lt : SR K ct (rI0 fun i j => .bl (decide (i < j))) fLt := sr_I0 fun a b x h => by
  unfold fLt at h
  split at h
  · cases h
    exact ⟨_, _, _, rfl, rfl, rfl, fun _ => rfl⟩
  · cases h
theorem sr_le : SR K ct (rI0 fun i j => .bl (decide (i ≤ j))) fLe := sr_I0 fun a b x h => by
  unfold fLe at h
  split at h
  · cases h
    exact ⟨_, _, _, rfl, rfl, rfl, fun _ => rfl⟩
  · cases h
theorem sr_gt : SR K ct (rI0 fun i j => .bl (decide (j < i))) fGt := sr_I0 fun a b x h => by
  unfold fGt at h
  split at h
  · cases h
    exact ⟨_, _, _, rfl, rfl, rfl, fun _ => rfl⟩
  · cases h
theorem sr_ge : SR K ct (rI0 fun i j => .bl (decide (j ≤ i))) fGe := sr_I0 fun a b x h => by
  unfold fGe at h
  split at h
  · cases h
    exact ⟨_, _, _, rfl, rfl, rfl, fun _ => rfl⟩
  · cases h
theorem sr_mul : SR K ct rMulAll fMul := by
  intro g a b x v w Q k ra rb h q
  unfold fMul at h
  split at h
  · split at h
    · rename_i hc
      cases h
      cases ra
      cases rb
      exact .inl ⟨_, _, rfl, rfl, hc, q.val k rfl⟩
    · cases h
  · split at h
    · rename_i xs j hc
      cases h
      obtain ⟨p, vs, rfl, h1, h2⟩ := ra
      cases rb
      obtain ⟨c1, c2, c3⟩ := hc
      refine .inr ⟨p, j, vs, rfl, rfl, k.f _ _ h1, by omega, by omega, sz_of (by rw [h2.len]; exact c3), fun r hr => q.newL k hr ?_⟩
      have rep : ∀ n : Nat, RpL ⟨K, ct⟩ g.f (List.replicate n xs).flatten (List.replicate n vs).flatten := by
        intro n
        induction n with
        | zero => exact RpL.nil
        | succ n ih =>
          rw [List.replicate_succ, List.replicate_succ, List.flatten_cons, List.flatten_cons]
          exact h2.append ih
      exact rep _
    · cases h
  · cases h
theorem sr_mod : SR K ct (rI (fun _ j => j ≠ 0) fun i j => .int (i.fmod j)) fMod := sr_I fun a b x h => by
  unfold fMod at h
  split at h
  · split at h
    · cases h
      exact ⟨_, _, _, rfl, rfl, by assumption, rfl, fun _ => rfl⟩
    · cases h
  · cases h
theorem sr_div : SR K ct (rI CDivN fun i j => .int (i.fdiv j)) fDiv := sr_I fun a b x h => by
  unfold fDiv at h
  split at h
  · split at h
    · cases h
      exact ⟨_, _, _, rfl, rfl, by assumption, rfl, fun _ => rfl⟩
    · cases h
  · cases h
theorem sr_pow : SR K ct (rI CPow fun i j => .int (i ^ j.toNat)) fPow := sr_I fun a b x h => by
  unfold fPow at h
  split at h
  · split at h
    · cases h
      exact ⟨_, _, _, rfl, rfl, by assumption, rfl, fun _ => rfl⟩
    · cases h
  · cases h
theorem scD_ok {c : Cn} {H : Hp} {a b : D} {v w : V} {k : Bool} (ra : Rp c H a v) (rb : Rp c H b w) (h : scD a b = some k) : scal v w = true ∧ decide (v = w) = k := by
  unfold scD at h
  split at h <;> first | (cases h; done) | (cases h; cases ra; cases rb; refine ⟨rfl, ?_⟩; first | rfl | simp)
theorem sr_eq : SR K ct rEq fEq := by
  intro g a b x v w Q k ra rb h q
  unfold fEq at h
  cases e : scD a b with
  | none =>
    rw [e] at h
    cases h
  | some t =>
    rw [e] at h
    cases h
    obtain ⟨h1, h2⟩ := scD_ok ra rb e
    refine ⟨h1, ?_⟩
    rw [h2]
    exact q.val k rfl
theorem sr_ne : SR K ct rNe fNe := by
  intro g a b x v w Q k ra rb h q
  unfold fNe at h
  cases e : scD a b with
  | none =>
    rw [e] at h
    cases h
  | some t =>
    rw [e] at h
    cases h
    obtain ⟨h1, h2⟩ := scD_ok ra rb e
    refine ⟨h1, ?_⟩
    rw [h2]
    exact q.val k rfl
theorem isN_of {c : Cn} {H : Hp} : ∀ {a : D} {v : V}, Rp c H a v → isNonD a = decide (v = .non)
  | .non, _, h => by
    cases h
    rfl
  | .bl _, _, h => by
    cases h
    rfl
  | .int _, _, h => by
    cases h
    rfl
  | .str _, _, h => by
    cases h
    rfl
  | .lst _, _, ⟨_, _, h, _⟩ => by
    rw [h]
    rfl
  | .tup _, _, ⟨_, _, h, _⟩ => by
    rw [h]
    rfl
  | .fz _, _, ⟨_, _, h, _⟩ => by
    rw [h]
    rfl
  | .ex0 _, _, ⟨_, h, _⟩ => by
    rw [h]
    rfl
  | .ex1 _ _ _, _, ⟨_, _, _, h, _⟩ => by
    rw [h]
    rfl
theorem sr_isN : SR K ct (fun x y H Q => y = .non ∧ Q (.bl (decide (x = .non))) H) fIsN := by
  intro g a b x v w Q k ra rb h q
  unfold fIsN at h
  split at h
  · cases h
    cases rb
    refine ⟨rfl, ?_⟩
    rw [← isN_of ra]
    exact q.val k rfl
  · cases h
theorem sr_notN : SR K ct (fun x y H Q => y = .non ∧ Q (.bl (!decide (x = .non))) H) fNotN := by
  intro g a b x v w Q k ra rb h q
  unfold fNotN at h
  split at h
  · cases h
    cases rb
    refine ⟨rfl, ?_⟩
    rw [← isN_of ra]
    exact q.val k rfl
  · cases h
end
section
variable {ct : Nat → Addr} {X : Cx} {pos : Pos} {a b : Expr} {ta tb : TE} {ma mb : M D}
theorem ea_add {K : PySem.W.Frag} (ha : EX ct X a ta ma) (hb : EX ct X b tb mb) (hK : X.K = K := by rfl) : EA ct X (.BinOp a .Add b pos) (tOp (rAddAll K) ta tb) (mBin fAdd ma mb) := by
  subst hK
  exact ⟨pe_op (orOp op_add (orOp op_add_ib (orOp op_add_str (orOp op_cat op_catA)))) ha.pe hb.pe, j_bin ha.ev hb.ev sr_add⟩
theorem ea_sub (ha : EX ct X a ta ma) (hb : EX ct X b tb mb) : EA ct X (.BinOp a .Sub b pos) (tOp (rI0 fun i j => .int (i - j)) ta tb) (mBin fSub ma mb) := ⟨pe_op op_sub ha.pe hb.pe, j_bin ha.ev hb.ev sr_sub⟩
theorem ea_mul (ha : EX ct X a ta ma) (hb : EX ct X b tb mb) : EA ct X (.BinOp a .Mult b pos) (tOp (rMulAll) ta tb) (mBin fMul ma mb) := ⟨pe_op (orOp op_mul op_rep) ha.pe hb.pe, j_bin ha.ev hb.ev sr_mul⟩
theorem ea_mod (ha : EX ct X a ta ma) (hb : EX ct X b tb mb) : EA ct X (.BinOp a .Mod b pos) (tOp (rI (fun _ j => j ≠ 0) fun i j => .int (i.fmod j)) ta tb) (mBin fMod ma mb) := ⟨pe_op op_modN ha.pe hb.pe, j_bin ha.ev hb.ev sr_mod⟩
theorem ea_div (ha : EX ct X a ta ma) (hb : EX ct X b tb mb) : EA ct X (.BinOp a .FloorDiv b pos) (tOp (rI CDivN fun i j => .int (i.fdiv j)) ta tb) (mBin fDiv ma mb) := ⟨pe_op op_fdivN ha.pe hb.pe, j_bin ha.ev hb.ev sr_div⟩
theorem ea_pow (ha : EX ct X a ta ma) (hb : EX ct X b tb mb) : EA ct X (.BinOp a .Pow b pos) (tOp (rI CPow fun i j => .int (i ^ j.toNat)) ta tb) (mBin fPow ma mb) := ⟨pe_op op_pow ha.pe hb.pe, j_bin ha.ev hb.ev sr_pow⟩
theorem ea_eq (ha : EX ct X a ta ma) (hb : EX ct X b tb mb) : EA ct X (.Compare a [.Eq] [b] pos) (tOp (rEq) ta tb) (mBin fEq ma mb) := ⟨pe_cmpR op_eq ha.pe hb.pe (nomark _), j_bin ha.ev hb.ev sr_eq⟩
theorem ea_ne (ha : EX ct X a ta ma) (hb : EX ct X b tb mb) : EA ct X (.Compare a [.NotEq] [b] pos) (tOp (rNe) ta tb) (mBin fNe ma mb) := ⟨pe_cmpR op_ne ha.pe hb.pe (nomark _), j_bin ha.ev hb.ev sr_ne⟩
theorem ea_lt (ha : EX ct X a ta ma) (hb : EX ct X b tb mb) : EA ct X (.Compare a [.Lt] [b] pos) (tOp (rI0 fun i j => .bl (decide (i < j))) ta tb) (mBin fLt ma mb) := ⟨pe_cmpR op_lt ha.pe hb.pe (nomark _), j_bin ha.ev hb.ev sr_lt⟩
theorem ea_le (ha : EX ct X a ta ma) (hb : EX ct X b tb mb) : EA ct X (.Compare a [.LtE] [b] pos) (tOp (rI0 fun i j => .bl (decide (i ≤ j))) ta tb) (mBin fLe ma mb) := ⟨pe_cmpR op_le ha.pe hb.pe (nomark _), j_bin ha.ev hb.ev sr_le⟩
theorem ea_gt (ha : EX ct X a ta ma) (hb : EX ct X b tb mb) : EA ct X (.Compare a [.Gt] [b] pos) (tOp (rI0 fun i j => .bl (decide (j < i))) ta tb) (mBin fGt ma mb) := ⟨pe_cmpR op_gt ha.pe hb.pe (nomark _), j_bin ha.ev hb.ev sr_gt⟩
theorem ea_ge (ha : EX ct X a ta ma) (hb : EX ct X b tb mb) : EA ct X (.Compare a [.GtE] [b] pos) (tOp (rI0 fun i j => .bl (decide (j ≤ i))) ta tb) (mBin fGe ma mb) := ⟨pe_cmpR op_ge ha.pe hb.pe (nomark _), j_bin ha.ev hb.ev sr_ge⟩
theorem ea_isN (ha : EX ct X a ta ma) (hb : EX ct X b tb mb) : EA ct X (.Compare a [.Is] [b] pos) (tOp (fun x y H Q => y = .non ∧ Q (.bl (decide (x = .non))) H) ta tb) (mBin fIsN ma mb) := ⟨pe_cmpR op_isN ha.pe hb.pe (nomark _), j_bin ha.ev hb.ev sr_isN⟩
theorem ea_notN (ha : EX ct X a ta ma) (hb : EX ct X b tb mb) : EA ct X (.Compare a [.IsNot] [b] pos) (tOp (fun x y H Q => y = .non ∧ Q (.bl (!decide (x = .non))) H) ta tb) (mBin fNotN ma mb) := ⟨pe_cmpR op_notN ha.pe hb.pe (nomark _), j_bin ha.ev hb.ev sr_notN⟩
end
end DL

namespace DL
open PySem L2

def truD : D → Option Bool
  | .non => some false
  | .bl b => some b
  | .int i => some (i != 0)
  | .str x => if x.length ≤ 100000 then some ((x.length : Int) != 0) else none
  | .lst ds => some (!ds.isEmpty)
  | .tup ds => some (!ds.isEmpty)
  | .fz ds => some (!ds.isEmpty)
  | _ => none
theorem isEmpty_rpl {c : Cn} {H : Hp} {ds : List D} {vs : List V} (h : RpL c H ds vs) : (!ds.isEmpty) = !vs.isEmpty := by
  cases ds with
  | nil =>
    rw [show vs = [] from h]
    rfl
  | cons d ds =>
    obtain ⟨v, ws, rfl, _⟩ := h
    rfl
theorem truD_ok {c : Cn} {g : G} (k : GOk g) {d : D} {v : V} {b : Bool} (r : RpT c g d v) (h : truD d = some b) : TruV c.K v g.h b := by
  cases d with
  | non =>
    cases h
    cases r
    rfl
  | bl x =>
    cases h
    cases r
    rfl
  | int i =>
    cases h
    cases r
    rfl
  | str x =>
    simp only [truD] at h
    split at h
    · cases h
      cases r
      exact ⟨sz_of (by assumption), rfl⟩
    · cases h
  | lst ds =>
    cases h
    obtain ⟨a, vs, rfl, h1, h2⟩ := r
    exact .inl ⟨vs, .inl (.inl h1), isEmpty_rpl h2⟩
  | tup ds =>
    cases h
    obtain ⟨a, vs, rfl, h1, h2⟩ := r
    exact .inr (.inl ⟨vs, .inl (.inl (k.f _ _ h1)), isEmpty_rpl h2⟩)
  | fz ds =>
    cases h
    obtain ⟨a, vs, rfl, h1, h2⟩ := r
    exact .inl ⟨vs, (show Same g.f g.h from k.f).seq h1, isEmpty_rpl h2⟩
  | ex0 _ => cases h
  | ex1 _ _ _ => cases h
def blA : Ar → Option Bool
  | .v (.bl b) => some b
  | _ => none
def mTestA (m : M Ar) : M Bool := M.opt m blA
def mTru (m : M D) : M Bool := M.opt m truD
def mAndB (ma mb : M Bool) : M Bool := M.bnd ma fun a => if a then mb else M.ret false
def mOrB (ma mb : M Bool) : M Bool := M.bnd ma fun a => if a then M.ret true else mb
def mNotB (ma : M Bool) : M Bool := M.opt ma fun a => some (!a)
section
variable {ct : Nat → Addr} {X : Cx} {pos : Pos} {a b c : Expr} {ta tb tc : TE} {ua ub : TT} {ma mb mc : M D} {na nb : M Bool} {r r' : R2} {f f' : D → D → Option Ar} {op op' : CmpOp} {rest : List Expr}
theorem j_test {c : Cn} {t : TE} {m : M Ar} (h : J c (RA c) t m) : J c RB (tTest t) (mTestA m) := fun β g env σ x env' Q ok hm k => by
  obtain ⟨y, h1, h2⟩ := M.opt_some hm
  refine h β g env σ y env' _ ok h1 fun g1 v f1 o1 r1 => ?_
  unfold blA at h2
  split at h2
  · cases h2
    cases r1
    exact ⟨_, rfl, k g1 _ f1 o1 rfl⟩
  · cases h2
theorem tx_cmp (ho : OpR X (compareOp op) r) (hs : SR X.K ct r f) (ha : EX ct X a ta ma) (hb : EX ct X b tb mb) (hm : behindInMarks op b = false) : TX ct X (.Compare a [op] [b] pos) (tTest (tOp r ta tb)) (mTestA (mBin f ma mb)) :=
  ⟨pt_cmpR ho ha.pe hb.pe hm, j_test (j_bin ha.ev hb.ev hs)⟩
theorem tx_cmpT (ho : OpR X (compareOp op) r) (hs : SRT X.K ct r f) (ha : EX ct X a ta ma) (hb : ET ct X b tb mb) (hm : behindInMarks op b = false) : TX ct X (.Compare a [op] [b] pos) (tTest (tOp r ta tb)) (mTestA (mBin f ma mb)) :=
  ⟨pt_cmpR ho ha.pe hb.pe hm, j_test (j_binT ha.ev hb.ev hs)⟩
theorem tx_tru {K : PySem.W.Frag} (ha : ET ct X a ta ma) (he : ∀ whole, isTrue a X.env whole = (do let v ← whole; standAt a.pos; holding [v] (truthy v)) := by exact fun _ => rfl) (hK : X.K = K := by rfl) :
    TX ct X a (fun σ H Q => ta σ H fun x H' => ∃ k, TruV K x H' k ∧ Q k H') (mTru ma) := by
  subst hK
  exact ⟨pt_truth ha.pe he, fun β g env σ x env' Q ok hm k => by
    obtain ⟨y, h1, h2⟩ := M.opt_some hm
    exact ha.ev β g env σ y env' _ ok h1 fun g1 v f1 o1 r1 => ⟨x, truD_ok o1.ok r1 h2, k g1 x f1 o1 rfl⟩⟩
theorem j_andB {c : Cn} (ha : J c RB ua na) (hb : J c RB ub nb) : J c RB (tAnd ua ub) (mAndB na nb) := fun β g env σ x env' Q ok hm k => by
  obtain ⟨d1, e1, h1, hm⟩ := M.bnd_some hm
  refine ha β g env σ d1 e1 _ ok h1 fun g1 v f1 o1 r1 => ?_
  have r1 : d1 = v := r1
  subst r1
  cases d1 with
  | true => exact iteT (hb β g1 e1 σ x env' Q o1 hm fun g2 w f2 o2 r2 => k g2 w (f1.trans f2) o2 r2)
  | false =>
    cases hm
    exact iteF (k g1 false f1 o1 rfl)
theorem j_orB {c : Cn} (ha : J c RB ua na) (hb : J c RB ub nb) : J c RB (tOr ua ub) (mOrB na nb) := fun β g env σ x env' Q ok hm k => by
  obtain ⟨d1, e1, h1, hm⟩ := M.bnd_some hm
  refine ha β g env σ d1 e1 _ ok h1 fun g1 v f1 o1 r1 => ?_
  have r1 : d1 = v := r1
  subst r1
  cases d1 with
  | true =>
    cases hm
    exact iteT (k g1 true f1 o1 rfl)
  | false => exact iteF (hb β g1 e1 σ x env' Q o1 hm fun g2 w f2 o2 r2 => k g2 w (f1.trans f2) o2 r2)
theorem tw_and (ha : TX ct X a ua na) (hb : TW ct X (.BoolOp .And (b :: rest) pos) ub nb) : TW ct X (.BoolOp .And (a :: b :: rest) pos) (tAnd ua ub) (mAndB na nb) := ⟨pw_and ha.pe hb.pe, j_andB ha.ev hb.ev⟩
theorem tw_and1 (ha : TX ct X a ua na) : TW ct X (.BoolOp .And [a] pos) ua na := ⟨pw_and1 ha.pe, ha.ev⟩
theorem tw_or (ha : TX ct X a ua na) (hb : TW ct X (.BoolOp .Or (b :: rest) pos) ub nb) : TW ct X (.BoolOp .Or (a :: b :: rest) pos) (tOr ua ub) (mOrB na nb) := ⟨pw_or ha.pe hb.pe, j_orB ha.ev hb.ev⟩
theorem tw_or1 (ha : TX ct X a ua na) : TW ct X (.BoolOp .Or [a] pos) ua na := ⟨pw_or1 ha.pe, ha.ev⟩
theorem TW.tx (h : TW ct X a ua na) : TX ct X a ua na := ⟨h.pe.pt, h.ev⟩
theorem tx_not (ha : TX ct X a ua na) : TX ct X (.UnaryOp .Not a pos) (tNot ua) (mNotB na) := ⟨pt_not ha.pe, fun β g env σ x env' Q ok hm k => by
  obtain ⟨y, h1, h2⟩ := M.opt_some hm
  cases h2
  exact ha.ev β g env σ y env' _ ok h1 fun g1 v f1 o1 r1 => k g1 (!v) f1 o1 (by rw [show y = v from r1]; rfl)⟩
def mChain (f f' : D → D → Option Ar) (ma mb mc : M D) : M Ar := M.bnd ma fun x => M.bnd mb fun y => match f x y with
  | some (.v (.bl true)) => M.opt mc fun z => match f' y z with
    | some (.v (.bl k)) => some (.v (.bl k))
    | _ => none
  | some (.v (.bl false)) => M.ret (.v (.bl false))
  | _ => M.fail
theorem j_chain {c : Cn} (ha : J c (RV c) ta ma) (hb : J c (RV c) tb mb) (hc : J c (RV c) tc mc) (hs : SR c.K c.ct r f) (hs' : SR c.K c.ct r' f') : J c (RA c) (tChain r r' ta tb tc) (mChain f f' ma mb mc) := fun β g env σ x env' Q ok hm k => by
  obtain ⟨d1, e1, h1, hm⟩ := M.bnd_some hm
  obtain ⟨d2, e2, h2, hm⟩ := M.bnd_some hm
  refine ha β g env σ d1 e1 _ ok h1 fun g1 v f1 o1 r1 => hb β g1 e1 σ d2 e2 _ o1 h2 fun g2 w f2 o2 r2 => ?_
  have r1' := Rp.mono f2.f _ _ r1
  cases hf : f d1 d2 with
  | none =>
    simp only [hf] at hm
    cases hm
  | some y =>
    refine hs g2 d1 d2 y v w _ o2.ok r1' r2 hf (Out.of o2 fun g3 z f3 o3 r3 => ?_)
    have r2' := Rp.mono f3.f _ _ r2
    have F3 := (f1.trans f2).trans f3
    rw [hf] at hm
    rcases y with (_ | (_ | _) | _ | _ | _ | _ | _ | _ | _) | _ <;> first | (cases hm; done) | skip
    · -- false
      cases hm
      cases r3
      exact ⟨false, rfl, iteF (k g3 _ F3 o3 rfl)⟩
    · cases r3
      obtain ⟨d3, h3, h4⟩ := M.opt_some hm
      refine ⟨true, rfl, iteT (hc β g3 e2 σ d3 env' _ o3 h3 fun g4 u f4 o4 r4 => ?_)⟩
      split at h4
      · rename_i kk hk
        cases h4
        exact hs' g4 d2 d3 _ w u _ o4.ok (Rp.mono f4.f _ _ r2') r4 hk (Out.of o4 fun g5 z f5 o5 r5 => k g5 z ((F3.trans f4).trans f5) o5 r5)
      · cases h4
theorem ea_chain (ho : OpR X (compareOp op) r) (ho' : OpR X (compareOp op') r') (hs : SR X.K ct r f) (hs' : SR X.K ct r' f') (ha : EX ct X a ta ma) (hb : EX ct X b tb mb) (hc : EX ct X c tc mc)
    (hm : lastMarks [op, op'] [b, c] = false := by with_unfolding_all rfl) : EA ct X (.Compare a [op, op'] [b, c] pos) (tChain r r' ta tb tc) (mChain f f' ma mb mc) := ⟨pe_chain ho ho' ha.pe hb.pe hc.pe hm, j_chain ha.ev hb.ev hc.ev hs hs'⟩
theorem tx_chain (ho : OpR X (compareOp op) r) (ho' : OpR X (compareOp op') r') (hs : SR X.K ct r f) (hs' : SR X.K ct r' f') (ha : EX ct X a ta ma) (hb : EX ct X b tb mb) (hc : EX ct X c tc mc)
    (hm : lastMarks [op, op'] [b, c] = false := by with_unfolding_all rfl) : TX ct X (.Compare a [op, op'] [b, c] pos) (tTest (tChain r r' ta tb tc)) (mTestA (mChain f f' ma mb mc)) := ⟨pt_chain ho ho' ha.pe hb.pe hc.pe hm, j_test (j_chain ha.ev hb.ev hc.ev hs hs')⟩
def mIf (n : M Bool) {α : Type} (ma mb : M α) : M α := M.bnd n fun k => if k then ma else mb
theorem j_if {c : Cn} {α : Type} {R : Rel α V} {ma mb : M α} (hn : J c RB ua na) (ha : J c R ta ma) (hb : J c R tb mb) : J c R (tIf ua ta tb) (mIf na ma mb) := fun β g env σ x env' Q ok hm k => by
  obtain ⟨d1, e1, h1, hm⟩ := M.bnd_some hm
  refine hn β g env σ d1 e1 _ ok h1 fun g1 v f1 o1 r1 => ?_
  have r1 : d1 = v := r1
  subst r1
  cases d1 with
  | true => exact iteT (ha β g1 e1 σ x env' Q o1 hm fun g2 w f2 o2 r2 => k g2 w (f1.trans f2) o2 r2)
  | false => exact iteF (hb β g1 e1 σ x env' Q o1 hm fun g2 w f2 o2 r2 => k g2 w (f1.trans f2) o2 r2)
theorem ex_if (hn : TX ct X c ua na) (ha : EX ct X a ta ma) (hb : EX ct X b tb mb) : EX ct X (.IfExp c a b pos) (tIf ua ta tb) (mIf na ma mb) := ⟨pe_ifExp hn.pe ha.pe hb.pe, j_if hn.ev ha.ev hb.ev⟩
theorem ea_if {ma mb : M Ar} (hn : TX ct X c ua na) (ha : EA ct X a ta ma) (hb : EA ct X b tb mb) : EA ct X (.IfExp c a b pos) (tIf ua ta tb) (mIf na ma mb) := ⟨pe_ifExp hn.pe ha.pe hb.pe, j_if hn.ev ha.ev hb.ev⟩
def truA : Ar → Option Bool
  | .v d => truD d
  | .o (.lst ds) => some (!ds.isEmpty)
  | .o (.dic _) => none
def mAndV (ma mb : M Ar) : M Ar := M.bnd ma fun a => match truA a with
  | some true => mb
  | some false => M.ret a
  | none => M.fail
def mOrV (ma mb : M Ar) : M Ar := M.bnd ma fun a => match truA a with
  | some true => M.ret a
  | some false => mb
  | none => M.fail
theorem truA_ok {c : Cn} {g : G} {env : Env} {σ : L2.St} (k : GOk g) {x : Ar} {v : V} {b : Bool} (r : RA c g env σ x v) (h : truA x = some b) : TruV c.K v g.h b := by
  cases x with
  | v d => exact truD_ok k (RpT.of k r) h
  | o x =>
    cases x with
    | dic _ => cases h
    | lst ds =>
      cases h
      obtain ⟨p, rfl, ⟨vs, h1, h2⟩, _⟩ := r
      exact .inl ⟨vs, .inl (.inl (k.o _ _ h1)), isEmpty_rpl h2⟩
theorem j_andV {c : Cn} {ma mb : M Ar} (ha : J c (RA c) ta ma) (hb : J c (RA c) tb mb) : J c (RA c) (tAndT c.K ta tb) (mAndV ma mb) := fun β g env σ x env' Q ok hm k => by
  obtain ⟨d1, e1, h1, hm⟩ := M.bnd_some hm
  refine ha β g env σ d1 e1 _ ok h1 fun g1 v f1 o1 r1 => ?_
  cases ht : truA d1 with
  | none =>
    simp only [ht] at hm
    cases hm
  | some t =>
    refine ⟨t, truA_ok o1.ok r1 ht, ?_⟩
    simp only [ht] at hm
    cases t with
    | true => exact iteT (hb β g1 e1 σ x env' Q o1 hm fun g2 w f2 o2 r2 => k g2 w (f1.trans f2) o2 r2)
    | false =>
      cases hm
      exact iteF (k g1 v f1 o1 r1)
theorem j_orV {c : Cn} {ma mb : M Ar} (ha : J c (RA c) ta ma) (hb : J c (RA c) tb mb) : J c (RA c) (tOrT c.K ta tb) (mOrV ma mb) := fun β g env σ x env' Q ok hm k => by
  obtain ⟨d1, e1, h1, hm⟩ := M.bnd_some hm
  refine ha β g env σ d1 e1 _ ok h1 fun g1 v f1 o1 r1 => ?_
  cases ht : truA d1 with
  | none =>
    simp only [ht] at hm
    cases hm
  | some t =>
    refine ⟨t, truA_ok o1.ok r1 ht, ?_⟩
    simp only [ht] at hm
    cases t with
    | true =>
      cases hm
      exact iteT (k g1 v f1 o1 r1)
    | false => exact iteF (hb β g1 e1 σ x env' Q o1 hm fun g2 w f2 o2 r2 => k g2 w (f1.trans f2) o2 r2)
theorem ea_and {K : PySem.W.Frag} {ma mb : M Ar} (ha : EA ct X a ta ma) (hb : EA ct X (.BoolOp .And (b :: rest) pos) tb mb) (hK : X.K = K := by rfl) : EA ct X (.BoolOp .And (a :: b :: rest) pos) (tAndT K ta tb) (mAndV ma mb) := by
  subst hK
  exact ⟨pe_andT ha.pe hb.pe, j_andV ha.ev hb.ev⟩
theorem ea_or {K : PySem.W.Frag} {ma mb : M Ar} (ha : EA ct X a ta ma) (hb : EA ct X (.BoolOp .Or (b :: rest) pos) tb mb) (hK : X.K = K := by rfl) : EA ct X (.BoolOp .Or (a :: b :: rest) pos) (tOrT K ta tb) (mOrV ma mb) := by
  subst hK
  exact ⟨pe_orT ha.pe hb.pe, j_orV ha.ev hb.ev⟩
theorem ea_one {op} {ma : M Ar} (ha : EA ct X a ta ma) : EA ct X (.BoolOp op [a] pos) ta ma := ⟨pe_one ha.pe, ha.ev⟩
def mNotV (ma : M D) : M D := M.opt ma fun a => (truD a).map fun k => .bl (!k)
theorem ex_not {K : PySem.W.Frag} (ha : ET ct X a ta ma) (hK : X.K = K := by rfl) : EX ct X (.UnaryOp .Not a pos) (tNotT K ta) (mNotV ma) := by
  subst hK
  exact ⟨pe_notT ha.pe, fun β g env σ x env' Q ok hm k => by
    obtain ⟨y, h1, h2⟩ := M.opt_some hm
    refine ha.ev β g env σ y env' _ ok h1 fun g1 v f1 o1 r1 => ?_
    cases ht : truD y with
    | none =>
      rw [ht] at h2
      cases h2
    | some t =>
      rw [ht] at h2
      cases h2
      exact ⟨t, truD_ok o1.ok r1 ht, k g1 _ f1 o1 rfl⟩⟩
def fNeg : D → Option Ar
  | .int i => some (.v (.int (-i)))
  | _ => none
theorem ex_neg (ha : EX ct X a ta ma) : EA ct X (.UnaryOp .USub a pos) (tUn (rU fun i => .int (-i)) ta) (mUn fNeg ma) := ⟨pe_un un_neg ha.pe, j_un ha.ev fun g d x v Q k r h q => by
  cases d <;> first | (cases h; done) | skip
  cases h
  cases r
  exact ⟨_, rfl, q.val k rfl⟩⟩
def fIx : D → D → Option Ar
  | .lst ds, .int i => (atI ds i).map .v
  | .tup ds, .int i => (atI ds i).map .v
  | .fz ds, .int i => (atI ds i).map .v
  | .str z, .int i => if z.length ≤ 100000 then (atI z.cps.toList i).map fun c => .v (.str ⟨#[c]⟩) else none
  | _, _ => none
theorem RpL.atI {c : Cn} {H : Hp} {ds : List D} {vs : List V} {i : Int} {d : D} (h : RpL c H ds vs) (e : atI ds i = some d) : ∃ v, atI vs i = some v ∧ Rp c H d v := by
  unfold L2.atI at e ⊢
  rw [h.len]
  cases hx : ixN ds.length i with
  | none =>
    rw [hx] at e
    cases e
  | some j =>
    rw [hx] at e
    obtain ⟨v, h1, h2⟩ := RpL.get h e
    exact ⟨v, h1, h2⟩
theorem sr_ix {K : PySem.W.Frag} : SR K ct (rIx K) fIx := by
  intro g d i x v w Q k ra rb h q
  unfold fIx at h
  split at h
  · rename_i ds j
    cases rb
    obtain ⟨a, vs, rfl, h1, h2⟩ := ra
    obtain ⟨d, e1, e2⟩ := Option.map_eq_some_iff.mp h
    subst e2
    obtain ⟨z, h3, h4⟩ := h2.atI e1
    exact .inl ⟨a, vs, j, z, rfl, rfl, .inl (.inl (k.f _ _ h1)), h3, q.val k h4⟩
  · rename_i ds j
    cases rb
    obtain ⟨a, vs, rfl, h1, h2⟩ := ra
    obtain ⟨d, e1, e2⟩ := Option.map_eq_some_iff.mp h
    subst e2
    obtain ⟨z, h3, h4⟩ := h2.atI e1
    exact .inr (.inl ⟨a, vs, j, z, rfl, rfl, .inl (.inl (k.f _ _ h1)), h3, q.val k h4⟩)
  · rename_i ds j
    cases rb
    obtain ⟨a, vs, rfl, h1, h2⟩ := ra
    obtain ⟨d, e1, e2⟩ := Option.map_eq_some_iff.mp h
    subst e2
    obtain ⟨z, h3, h4⟩ := h2.atI e1
    exact .inl ⟨a, vs, j, z, rfl, rfl, (show Same g.f g.h from k.f).seq h1, h3, q.val k h4⟩
  · rename_i z j
    cases rb
    cases ra
    split at h
    · obtain ⟨cc, e1, e2⟩ := Option.map_eq_some_iff.mp h
      subst e2
      exact .inr (.inr ⟨z, j, cc, rfl, rfl, sz_of (by assumption), e1, q.val k rfl⟩)
    · cases h
  · cases h
theorem ea_ix {K : PySem.W.Frag} (ha : EX ct X a ta ma) (hb : EX ct X b tb mb) (hs : PlainIx b := by exact fun _ _ => rfl) (hK : X.K = K := by rfl) : EA ct X (.Subscript a b pos) (tOp (rIx K) ta tb) (mBin fIx ma mb) := by
  subst hK
  exact ⟨pe_ix ix_seq ha.pe hb.pe hs, j_bin ha.ev hb.ev sr_ix⟩
/-- the list that one owns there -/
def ownL : Option C → Option (List D)
  | some (.own (.lst ds)) => some ds
  | some (.par _ (.lst ds)) => some ds
  | _ => none
theorem Ok.ownL {c : Cn} {β : List Addr} {g : G} {env : Env} {σ : L2.St} (ok : Ok c β g env σ) {j : Nat} {ds : List D} (h : ownL (Env.at env j) = some ds) : ∃ p vs, σ[j]? = some (some (.ref p)) ∧ g.o p = some (.lst vs) ∧ RpL c g.f ds vs ∧ Owns env σ j p := by
  have s := ok.sl j
  unfold DL.ownL at h
  split at h
  · rename_i d hd
    cases h
    rw [hd] at s
    obtain ⟨p, h1, vs, h2, h3⟩ := s
    exact ⟨p, vs, h1, h2, h3, by rw [hd]; rfl, h1⟩
  · rename_i d hd
    cases h
    rw [hd] at s
    obtain ⟨p, h1, h0, vs, h2, h3⟩ := s
    exact ⟨p, vs, h1, h2, h3, by rw [hd]; rfl, h1⟩
  · cases h
/-- of a list of one's own -/
def mIxO (j : Nat) (mb : M D) : M D := fun e => match ownL (Env.at e j) with
  | none => none
  | some _ => M.bnd mb (fun i => fun e1 => match ownL (Env.at e1 j), i with
    | some ds, .int i => (atI ds i).map fun d => (d, e1)
    | _, _ => none) e
theorem ex_ixO {K : PySem.W.Frag} (j : Nat) {x : Str} {px : Pos} (hb : EX ct X b tb mb) (hN : X.N[j]? = some x := by rfl) (hv : Vis X.env.scope x := by first | exact Or.inl rfl | exact Or.inr (Or.inl rfl) | exact Or.inr (Or.inr rfl)) (hd : (x == ("__debug__" : Str)) = false := by decide)
    (hcd : (x == ("__classdict__" : Str)) = false := by decide) (hs : PlainIx b := by exact fun _ _ => rfl) (hK : X.K = K := by rfl) : EX ct X (.Subscript (.Name x px) b pos) (tOp (rIxL K) (tVar j) tb) (mIxO j mb) := by
  subst hK
  exact ⟨pe_ix ix_list (pe_var hN hv hd hcd) hb.pe hs, fun β g env σ d env' Q ok hm k => by
    unfold mIxO at hm
    split at hm
    · cases hm
    · rename_i ds0 hds
      obtain ⟨p, vs0, hp, _⟩ := ok.ownL hds
      obtain ⟨i, e1, h1, hm⟩ := M.bnd_some hm
      refine ⟨.ref p, hp, hb.ev β g env σ i e1 _ ok h1 fun g1 w f1 o1 r1 => ?_⟩
      split at hm
      · rename_i ds z hds1
        obtain ⟨d', q1, q2⟩ := Option.map_eq_some_iff.mp hm
        cases q2
        obtain ⟨p', vs, hp', hx, hr, _⟩ := o1.ownL hds1
        rw [hp] at hp'
        cases hp'
        cases r1
        obtain ⟨v, h3, h4⟩ := hr.atI q1
        exact ⟨p, vs, z, v, rfl, rfl, .inl (.inl (o1.ok.o _ _ hx)), h3, k g1 v f1 o1 h4⟩
      · cases hm⟩
end
end DL

namespace DL
open PySem L2

structure OX (ct : Nat → Addr) (X : Cx) (e : Option Expr) (t : TO) (m : M (Option Int)) : Prop where
  pe : PO X e t
  ev : J ⟨X.K, ct⟩ (fun _ _ _ a b => a = b) t m
def cutD (xs : List D) (lo hi : Option Int) : List D := (xs.drop (HT.sIx xs.length 0 lo)).take (HT.sIx xs.length xs.length hi - HT.sIx xs.length 0 lo)
theorem RpL.cut {c : Cn} {H : Hp} {ds : List D} {vs : List V} (h : RpL c H ds vs) (lo hi : Option Int) : RpL c H (cutD ds lo hi) (cutV vs lo hi) := by
  unfold cutD cutV
  rw [h.len]
  exact (h.drop _).take _
def fSl : D → Option Int → Option Int → Option Ar
  | .lst ds, lo, hi => some (.o (.lst (cutD ds lo hi)))
  | .fz ds, lo, hi => some (.o (.lst (cutD ds lo hi)))
  | .tup ds, lo, hi => some (.v (.tup (cutD ds lo hi)))
  | _, _, _ => none
def mSl (ma : M D) (ml mh : M (Option Int)) : M Ar := M.bnd ma fun a => M.bnd ml fun l => M.opt mh fun h => fSl a l h
def mInt? (m : M D) : M (Option Int) := M.opt m fun d => match d with
  | .int i => some (some i)
  | _ => none
section
variable {ct : Nat → Addr} {X : Cx} {pos p2 : Pos} {a b : Expr} {ta tb : TE} {ma mb : M D} {lo hi : Option Expr} {tl th : TO} {ml mh : M (Option Int)}
theorem ox_none : OX ct X none tNoPart (M.ret none) := ⟨po_none, fun β g env σ x env' Q ok hm k => by
  cases hm
  exact k g none (Fr.refl g) ok rfl⟩
theorem ox_some (ha : EX ct X a ta ma) : OX ct X (some a) (tPart ta) (mInt? ma) := ⟨po_some ha.pe, fun β g env σ x env' Q ok hm k => by
  obtain ⟨y, h1, h2⟩ := M.opt_some hm
  refine ha.ev β g env σ y env' _ ok h1 fun g1 v f1 o1 r1 => ?_
  cases y <;> first | (cases h2; done) | skip
  cases h2
  cases r1
  exact ⟨_, rfl, k g1 _ f1 o1 rfl⟩⟩
theorem ea_sl {K : PySem.W.Frag} (ha : EX ct X a ta ma) (hl : OX ct X lo tl ml) (hh : OX ct X hi th mh) (hK : X.K = K := by rfl) : EA ct X (.Subscript a (.Slice lo hi none p2) pos) (tSl (fun x lo hi H Q => rSlL K x lo hi H Q ∨ rSlA K x lo hi H Q) ta tl th) (mSl ma ml mh) := by
  subst hK
  exact ⟨pe_slice (SlR.or sl_list sl_tupA) ha.pe hl.pe hh.pe, fun β g env σ x env' Q ok hm k => by
    obtain ⟨d1, e1, h1, hm⟩ := M.bnd_some hm
    obtain ⟨d2, e2, h2, hm⟩ := M.bnd_some hm
    obtain ⟨d3, h3, h4⟩ := M.opt_some hm
    refine ha.ev β g env σ d1 e1 _ ok h1 fun g1 v f1 o1 r1 => hl.ev β g1 e1 σ d2 e2 _ o1 h2 fun g2 l f2 o2 q2 => hh.ev β g2 e2 σ d3 env' _ o2 h3 fun g3 u f3 o3 q3 => ?_
    have q2 : d2 = l := q2
    have q3 : d3 = u := q3
    subst q2 q3
    have q := Out.of (x := x) o3 (Q := Q) fun g' v f o r => k g' v (((f1.trans f2).trans f3).trans f) o r
    have r1' := Rp.mono (f2.trans f3).f _ _ r1
    have kk := o3.ok
    cases d1 with
    | lst ds =>
      cases h4
      obtain ⟨p, vs, rfl, e, r⟩ := r1'
      exact .inl ⟨p, vs, rfl, .inl (.inl (kk.f _ _ e)), fun r' hr' => q.newL kk hr' (r.cut _ _)⟩
    | tup ds =>
      cases h4
      obtain ⟨p, vs, rfl, e, r⟩ := r1'
      refine .inr ⟨p, vs, rfl, .inl (.inl (kk.f _ _ e)), fun hw => ?_, fun _ r' hr' => q.newT kk hr' (r.cut _ _)⟩
      have ew : cutD ds d2 d3 = ds := by
        rw [r.len] at hw
        unfold cutD
        rw [hw.1, hw.2, List.drop_zero, Nat.sub_zero, List.take_length]
      rw [ew] at q
      exact q.val kk ⟨p, vs, rfl, e, r⟩
    | fz ds =>
      cases h4
      obtain ⟨p, vs, rfl, e, r⟩ := r1'
      exact .inl ⟨p, vs, rfl, (show Same g3.f g3.h from kk.f).seq e, fun r' hr' => q.newL kk hr' (r.cut _ _)⟩
    | _ => cases h4⟩
end
abbrev rLenA (K : PySem.W.Frag) : List V → Hp → VK → Prop := fun xs H Q => (∃ p ys, xs = [.ref p] ∧ (SqL K H p ys ∨ SqT K H p ys) ∧ Q (.int ys.length) H) ∨ ∃ z, xs = [.str z] ∧ z.length ≤ sizeLine ∧ Q (.int z.length) H
abbrev rTupA (K : PySem.W.Frag) : List V → Hp → VK → Prop := fun xs H Q => ∃ p ys, xs = [.ref p] ∧ ((SqL K H p ys ∧ ∀ l, H l = none → Q (.ref l) (upd H l (.tup ys))) ∨ (SqT K H p ys ∧ Q (.ref p) H))
abbrev rLstA (K : PySem.W.Frag) : List V → Hp → VK → Prop := fun xs H Q => ∃ p ys, xs = [.ref p] ∧ (SqL K H p ys ∨ SqT K H p ys) ∧ ∀ l, H l = none → Q (.ref l) (upd H l (.lst ys))
def fLen : List D → Option Ar
  | [.lst ds] => some (.v (.int ds.length))
  | [.tup ds] => some (.v (.int ds.length))
  | [.fz ds] => some (.v (.int ds.length))
  | [.str x] => if x.length ≤ 100000 then some (.v (.int x.length)) else none
  | _ => none
def fAbs : List D → Option Ar
  | [.int i] => some (.v (.int (if i < 0 then -i else i)))
  | _ => none
def fInt : List D → Option Ar
  | [.int i] => some (.v (.int i))
  | [.bl k] => some (.v (.int (if k then 1 else 0)))
  | _ => none
def fMax : List D → Option Ar
  | [.int i, .int j] => some (.v (.int (if j > i then j else i)))
  | _ => none
def fMin : List D → Option Ar
  | [.int i, .int j] => some (.v (.int (if j < i then j else i)))
  | _ => none
def blD : D → Option Bool
  | .bl b => some b
  | _ => none
def fAll : List D → Option Ar
  | [.lst ds] => (ds.mapM blD).map fun bs => .v (.bl (bs.all id))
  | _ => none
def fAny : List D → Option Ar
  | [.lst ds] => (ds.mapM blD).map fun bs => .v (.bl (bs.any id))
  | _ => none
def fTuple : List D → Option Ar
  | [.lst ds] => some (.v (.tup ds))
  | [.fz ds] => some (.v (.tup ds))
  | [.tup ds] => some (.v (.tup ds))
  | _ => none
def fList : List D → Option Ar
  | [.lst ds] => some (.o (.lst ds))
  | [.fz ds] => some (.o (.lst ds))
  | [.tup ds] => some (.o (.lst ds))
  | _ => none
theorem RpL.one' {c : Cn} {H : Hp} {d : D} {vs : List V} (h : RpL c H [d] vs) : ∃ v, vs = [v] ∧ Rp c H d v := by
  obtain ⟨v, ws, rfl, h1, h2⟩ := h
  rw [show ws = [] from h2]
  exact ⟨v, rfl, h1⟩
theorem RpL.two' {c : Cn} {H : Hp} {d e : D} {vs : List V} (h : RpL c H [d, e] vs) : ∃ v w, vs = [v, w] ∧ Rp c H d v ∧ Rp c H e w := by
  obtain ⟨v, ws, rfl, h1, h2⟩ := h
  obtain ⟨w, rfl, h3⟩ := h2.one'
  exact ⟨v, w, rfl, h1, h3⟩
theorem mapM_bl {c : Cn} {H : Hp} : ∀ {ds : List D} {vs : List V} {bs : List Bool}, RpL c H ds vs → ds.mapM blD = some bs → vs = bs.map V.bl
  | [], vs, bs, h, e => by
    rw [show vs = [] from h]
    simp at e
    rw [e]
    rfl
  | d :: ds, vs, bs, ⟨v, ws, h1, h2, h3⟩, e => by
    rw [List.mapM_cons] at e
    cases hd : blD d with
    | none =>
      rw [hd] at e
      cases e
    | some b =>
      rw [hd] at e
      cases hr : ds.mapM blD with
      | none =>
        rw [hr] at e
        cases e
      | some bs' =>
        rw [hr] at e
        cases e
        cases d <;> first | (cases hd; done) | skip
        cases hd
        rw [h1, show v = _ from h2, mapM_bl h3 hr]
        rfl
section
variable {K : PySem.W.Frag} {ct : Nat → Addr}
theorem sc_len : SC K ct (rLenA K) fLen := by
  intro g a x vs Q k r h q
  unfold fLen at h
  split at h
  · cases h
    obtain ⟨v, rfl, p, ys, rfl, h1, h2⟩ := r.one'
    refine .inl ⟨p, ys, rfl, .inl (.inl (.inl (k.f _ _ h1))), ?_⟩
    rw [h2.len]
    exact q.val k rfl
  · cases h
    obtain ⟨v, rfl, p, ys, rfl, h1, h2⟩ := r.one'
    refine .inl ⟨p, ys, rfl, .inr (.inl (.inl (k.f _ _ h1))), ?_⟩
    rw [h2.len]
    exact q.val k rfl
  · cases h
    obtain ⟨v, rfl, p, ys, rfl, h1, h2⟩ := r.one'
    refine .inl ⟨p, ys, rfl, .inl ((show Same g.f g.h from k.f).seq h1), ?_⟩
    rw [h2.len]
    exact q.val k rfl
  · split at h
    · cases h
      obtain ⟨v, rfl, rfl⟩ := r.one'
      exact .inr ⟨_, rfl, sz_of (by assumption), q.val k rfl⟩
    · cases h
  · cases h
theorem sc_abs : SC K ct (fun xs H Q => ∃ i, xs = [.int i] ∧ Q (.int (if i < 0 then -i else i)) H) fAbs := by
  intro g a x vs Q k r h q
  unfold fAbs at h
  split at h
  · cases h
    obtain ⟨v, rfl, rfl⟩ := r.one'
    exact ⟨_, rfl, q.val k rfl⟩
  · cases h
theorem sc_int : SC K ct (fun xs H Q => (∃ i, xs = [.int i] ∧ Q (.int i) H) ∨ ∃ k, xs = [.bl k] ∧ Q (.int (if k then 1 else 0)) H) fInt := by
  intro g a x vs Q k r h q
  unfold fInt at h
  split at h
  · cases h
    obtain ⟨v, rfl, rfl⟩ := r.one'
    exact .inl ⟨_, rfl, q.val k rfl⟩
  · cases h
    obtain ⟨v, rfl, rfl⟩ := r.one'
    exact .inr ⟨_, rfl, q.val k rfl⟩
  · cases h
theorem sc_max : SC K ct (fun xs H Q => ∃ i j, xs = [.int i, .int j] ∧ Q (.int (if j > i then j else i)) H) fMax := by
  intro g a x vs Q k r h q
  unfold fMax at h
  split at h
  · cases h
    obtain ⟨v, w, rfl, rfl, rfl⟩ := r.two'
    exact ⟨_, _, rfl, q.val k rfl⟩
  · cases h
theorem sc_min : SC K ct (fun xs H Q => ∃ i j, xs = [.int i, .int j] ∧ Q (.int (if j < i then j else i)) H) fMin := by
  intro g a x vs Q k r h q
  unfold fMin at h
  split at h
  · cases h
    obtain ⟨v, w, rfl, rfl, rfl⟩ := r.two'
    exact ⟨_, _, rfl, q.val k rfl⟩
  · cases h
theorem sc_all : SC K ct (rAll K) fAll := by
  intro g a x vs Q k r h q
  unfold fAll at h
  split at h
  · obtain ⟨bs, h1, h2⟩ := Option.map_eq_some_iff.mp h
    subst h2
    obtain ⟨v, rfl, p, ys, rfl, h3, h4⟩ := r.one'
    have e := mapM_bl h4 h1
    subst e
    exact ⟨p, bs, rfl, .inl (.inl (k.f _ _ h3)), q.val k rfl⟩
  · cases h
theorem sc_any : SC K ct (rAny K) fAny := by
  intro g a x vs Q k r h q
  unfold fAny at h
  split at h
  · obtain ⟨bs, h1, h2⟩ := Option.map_eq_some_iff.mp h
    subst h2
    obtain ⟨v, rfl, p, ys, rfl, h3, h4⟩ := r.one'
    have e := mapM_bl h4 h1
    subst e
    exact ⟨p, bs, rfl, .inl (.inl (k.f _ _ h3)), q.val k rfl⟩
  · cases h
theorem sc_tuple : SC K ct (rTupA K) fTuple := by
  intro g a x vs Q k r h q
  unfold fTuple at h
  split at h
  · cases h
    obtain ⟨v, rfl, p, ys, rfl, h1, h2⟩ := r.one'
    exact ⟨p, ys, rfl, .inl ⟨.inl (.inl (k.f _ _ h1)), fun l hl => q.newT k hl h2⟩⟩
  · cases h
    obtain ⟨v, rfl, p, ys, rfl, h1, h2⟩ := r.one'
    exact ⟨p, ys, rfl, .inl ⟨(show Same g.f g.h from k.f).seq h1, fun l hl => q.newT k hl h2⟩⟩
  · cases h
    obtain ⟨v, rfl, p, ys, rfl, h1, h2⟩ := r.one'
    exact ⟨p, ys, rfl, .inr ⟨.inl (.inl (k.f _ _ h1)), q.val k ⟨p, ys, rfl, h1, h2⟩⟩⟩
  · cases h
theorem sc_list : SC K ct (rLstA K) fList := by
  intro g a x vs Q k r h q
  unfold fList at h
  split at h
  · cases h
    obtain ⟨v, rfl, p, ys, rfl, h1, h2⟩ := r.one'
    exact ⟨p, ys, rfl, .inl (.inl (.inl (k.f _ _ h1))), fun l hl => q.newL k hl h2⟩
  · cases h
    obtain ⟨v, rfl, p, ys, rfl, h1, h2⟩ := r.one'
    exact ⟨p, ys, rfl, .inl ((show Same g.f g.h from k.f).seq h1), fun l hl => q.newL k hl h2⟩
  · cases h
    obtain ⟨v, rfl, p, ys, rfl, h1, h2⟩ := r.one'
    exact ⟨p, ys, rfl, .inr (.inl (.inl (k.f _ _ h1))), fun l hl => q.newL k hl h2⟩
  · cases h
end
section
variable {ct : Nat → Addr} {X : Cx} {pos p : Pos} {e : Expr} {es : List Expr} {x : Str} {t : TA} {m : M (List D)} {r : List V → Hp → VK → Prop} {f : List D → Option Ar} {id T : String}
theorem ea_cb (hc : CallR X (.builtin id) r) (hs : SC X.K ct r f) (hm : X.mg x = none) (ha : AX ct X (e :: es) t m) (hv : bootBuiltins x = some (.builtin id) := by decide +kernel) (hg : Gl X x := by rfl) (hn : x ≠ "__name__" := by decide) (hdb : (x == ("__debug__" : Str)) = false := by decide)
    (he : starEach (e :: es) X.env = (false, eval e X.env) :: starEach es X.env := by rfl) (hpl : (backTo pos (starEach es X.env)).any (·.1) = false := by rfl) : EA ct X (.Call (.Name x p) (e :: es) [] pos) (tCB r t) (mCall f m) := ⟨pe_callB hc hg hm hv ha.pe hn hdb he hpl, j_cb ha.ev hs⟩
theorem ea_cty (hc : CallR X (.type T) r) (hs : SC X.K ct r f) (hm : X.mg x = none) (ha : AX ct X (e :: es) t m) (hv : bootBuiltins x = some (.type T) := by decide +kernel) (hg : Gl X x := by rfl) (hn : x ≠ "__name__" := by decide) (hdb : (x == ("__debug__" : Str)) = false := by decide)
    (he : starEach (e :: es) X.env = (false, eval e X.env) :: starEach es X.env := by rfl) (hpl : (backTo pos (starEach es X.env)).any (·.1) = false := by rfl) : EA ct X (.Call (.Name x p) (e :: es) [] pos) (tCB r t) (mCall f m) := ⟨pe_callTy hc hg hm hv ha.pe hn hdb he hpl, j_cb ha.ev hs⟩
def mLenO (j : Nat) : M D := fun e => (ownL (Env.at e j)).map fun ds => (.int ds.length, e)
/-- len of a list of one's own -/
theorem ex_lenO {K : PySem.W.Frag} (j : Nat) {px : Pos} {y : Str} (hm : X.mg "len" = none) (hN : X.N[j]? = some y := by rfl) (hv : Vis X.env.scope y := by first | exact Or.inl rfl | exact Or.inr (Or.inl rfl) | exact Or.inr (Or.inr rfl)) (hd : (y == ("__debug__" : Str)) = false := by decide)
    (hcd : (y == ("__classdict__" : Str)) = false := by decide) (hg : Gl X "len" := by rfl)
    (he : starEach [.Name y px] X.env = (false, eval (.Name y px) X.env) :: starEach [] X.env := by rfl) (hK : X.K = K := by rfl) : EX ct X (.Call (.Name "len" p) [.Name y px] [] pos) (tCB (fun xs H Q => ∃ p ys, xs = [.ref p] ∧ (SqL K H p ys ∨ SqT K H p ys) ∧ Q (.int ys.length) H) (tCons (tVar j) tNil)) (mLenO j) := by
  subst hK
  exact ⟨pe_callB call_len_seq hg hm PySem.boot_len (pa_cons (pe_var hN hv hd hcd) pa_nil) (by decide) (by decide) he (by rfl), fun β g env σ d env' Q ok hm k => by
    unfold mLenO at hm
    obtain ⟨ds, h1, h2⟩ := Option.map_eq_some_iff.mp hm
    cases h2
    obtain ⟨p, vs, hp, hx, hr, _⟩ := ok.ownL h1
    refine ⟨.ref p, hp, p, vs, rfl, .inl (.inl (.inl (ok.ok.o _ _ hx))), ?_⟩
    rw [hr.len]
    exact k g _ (Fr.refl g) ok rfl⟩
end
def tyD : D → Option String
  | .non => some "NoneType"
  | .bl _ => some "bool"
  | .int _ => some "int"
  | .str _ => some "str"
  | .lst _ => some "list"
  | .tup _ => some "tuple"
  | _ => none
theorem tyD_ok {c : Cn} {g : G} (k : GOk g) {d : D} {v : V} {T : String} (r : Rp c g.f d v) (h : tyD d = some T) : TyX c.K g.h v (.type T) := by
  cases d with
  | non =>
    cases h
    cases r
    exact .base .non
  | bl b =>
    cases h
    cases r
    exact .base (.bl b)
  | int b =>
    cases h
    cases r
    exact .base (.int b)
  | str b =>
    cases h
    cases r
    exact .base (.str b)
  | lst ds =>
    cases h
    obtain ⟨a, vs, rfl, h1, _⟩ := r
    exact .base (.lst (k.f _ _ h1))
  | tup ds =>
    cases h
    obtain ⟨a, vs, rfl, h1, _⟩ := r
    exact .base (.tup (k.f _ _ h1))
  | fz _ => cases h
  | ex0 _ => cases h
  | ex1 _ _ _ => cases h
/-- the answers among the plain types -/
def isTy (a b : String) : Bool := a == b || (a == "bool" && b == "int") || b == "object"
def tyOK (b : String) : Bool := ["list", "tuple", "bool", "int", "str", "dict"].contains b
theorem isTy_ok {K : PySem.W.Frag} {d : D} {a b : String} (ha : tyD d = some a) (hb : tyOK b = true) : PySem.W.kitOne K (.type a) (.type b) = some (isTy a b) := by
  have hb' : b = "list" ∨ b = "tuple" ∨ b = "bool" ∨ b = "int" ∨ b = "str" ∨ b = "dict" := by
    have := hb
    unfold tyOK at this
    simpa using this
  have ha' : a = "NoneType" ∨ a = "bool" ∨ a = "int" ∨ a = "str" ∨ a = "list" ∨ a = "tuple" := by
    cases d <;> first | (cases ha; done) | (cases ha; simp)
  refine kit_ty ?_
  rcases ha' with rfl | rfl | rfl | rfl | rfl | rfl <;> rcases hb' with rfl | rfl | rfl | rfl | rfl | rfl <;> decide +kernel
section
variable {ct : Nat → Addr} {X : Cx} {pos p p1 p2 pt : Pos} {a : Expr} {ta : TE} {ma : M D} {T : String} {x : Str}
/-- a built-in class by its name -/
theorem pe_ty (hm : X.mg x = none) (hv : bootBuiltins x = some (.type T)) (hg : Gl X x) (hn : x ≠ "__name__" := by decide) (hdb : (x == ("__debug__" : Str)) = false := by decide) (hcd : (x == ("__classdict__" : Str)) = false := by decide) : PE X (.Name x p) (tC (.ty T)) := pe_bltn (v := .ty T) hg hm hv rfl hn hdb
def fIsi (Ts : List String) (d : D) : Option Ar := match tyD d with
  | some a => if Ts.all tyOK then some (.v (.bl (Ts.any (isTy a)))) else none
  | none => none
theorem ea_isi {K : PySem.W.Frag} (hi : X.mg "isinstance" = none) (ha : EX ct X a ta ma) (hm : X.mg x = none) (T : String) (hv : bootBuiltins x = some (.type T) := by decide +kernel) (hg : Gl X x := by rfl) (hgi : Gl X "isinstance" := by rfl)
    (he : starEach [a, .Name x p1] X.env = (false, eval a X.env) :: starEach [.Name x p1] X.env := by rfl) (he2 : starEach [.Name x p1] X.env = (false, eval (.Name x p1) X.env) :: starEach [] X.env := by rfl)
    (hpl : (backTo pos (starEach [.Name x p1] X.env)).any (·.1) = false := by rfl) (hn : x ≠ "__name__" := by decide) (hdb : (x == ("__debug__" : Str)) = false := by decide) (hcd : (x == ("__classdict__" : Str)) = false := by decide) (hK : X.K = K := by rfl) :
    EA ct X (.Call (.Name "isinstance" p) [a, .Name x p1] [] pos) (tCB (rIsi K) (tCons ta (tCons (tC (.ty T)) tNil))) (M.opt ma (fIsi [T])) := by
  subst hK
  exact ⟨pe_callB call_isi hgi hi PyProof.Rows.boot_isinstance (pa_cons ha.pe (pa_cons (pe_ty hm hv hg hn hdb hcd) pa_nil he2) he) (by decide) (by decide) he hpl, fun β g env σ y env' Q ok hm k => by
    obtain ⟨d, h1, h2⟩ := M.opt_some hm
    refine ha.ev β g env σ d env' _ ok h1 fun g1 v f1 o1 r1 => ?_
    unfold fIsi at h2
    split at h2
    · rename_i s hs
      split at h2
      · rename_i hT
        cases h2
        have hT' : tyOK T = true := by simpa using hT
        refine ⟨v, .ty T, .type s, .type T, isTy s T, rfl, .ty T, tyD_ok o1.ok r1 hs, isTy_ok hs hT', ?_⟩
        have e : [T].any (isTy s) = isTy s T := by simp
        rw [← e]
        exact k g1 _ f1 o1 rfl
      · cases h2
    · cases h2⟩
theorem kitAny2 {K : PySem.W.Frag} {d : D} {a b1 b2 : String} (ha : tyD d = some a) (h1 : tyOK b1 = true) (h2 : tyOK b2 = true) : PySem.W.kitAny K (.type a) [.type b1, .type b2] = some ([b1, b2].any (isTy a)) := by
  unfold PySem.W.kitAny PySem.W.kitAny PySem.W.kitAny
  rw [isTy_ok ha h1, isTy_ok ha h2]
  show (match some (isTy a b1) with | some true => some true | some false => (match some (isTy a b2) with | some true => some true | some false => some false | none => none) | none => none) = some (isTy a b1 || (isTy a b2 || false))
  cases isTy a b1 <;> cases isTy a b2 <;> rfl
theorem ea_isi2 {K : PySem.W.Frag} {x1 x2 : Str} (hi : X.mg "isinstance" = none) (ha : EX ct X a ta ma) (hm1 : X.mg x1 = none) (hm2 : X.mg x2 = none) (T1 T2 : String) {kk} (hv1 : bootBuiltins x1 = some (.type T1) := by decide +kernel) (hv2 : bootBuiltins x2 = some (.type T2) := by decide +kernel) (hg1 : Gl X x1 := by rfl) (hg2 : Gl X x2 := by rfl) (hgi : Gl X "isinstance" := by rfl)
    (he : starEach [a, .Tuple [.Name x1 p1, .Name x2 p2] kk pt] X.env = (false, eval a X.env) :: starEach [.Tuple [.Name x1 p1, .Name x2 p2] kk pt] X.env := by rfl)
    (he0 : starEach [.Tuple [.Name x1 p1, .Name x2 p2] kk pt] X.env = (false, eval (.Tuple [.Name x1 p1, .Name x2 p2] kk pt) X.env) :: starEach [] X.env := by rfl)
    (he1 : starEach [.Name x1 p1, .Name x2 p2] X.env = (false, eval (.Name x1 p1) X.env) :: starEach [.Name x2 p2] X.env := by rfl) (he2 : starEach [.Name x2 p2] X.env = (false, eval (.Name x2 p2) X.env) :: starEach [] X.env := by rfl)
    (hpl : (backTo pos (starEach [.Tuple [.Name x1 p1, .Name x2 p2] kk pt] X.env)).any (·.1) = false := by rfl) (hn1 : x1 ≠ "__name__" := by decide) (hdb1 : (x1 == ("__debug__" : Str)) = false := by decide) (hcd1 : (x1 == ("__classdict__" : Str)) = false := by decide)
    (hn2 : x2 ≠ "__name__" := by decide) (hdb2 : (x2 == ("__debug__" : Str)) = false := by decide) (hcd2 : (x2 == ("__classdict__" : Str)) = false := by decide) (hK : X.K = K := by rfl) :
    EA ct X (.Call (.Name "isinstance" p) [a, .Tuple [.Name x1 p1, .Name x2 p2] kk pt] [] pos) (tCB (rIsiT K) (tCons ta (tCons (tTup (tCons (tC (.ty T1)) (tCons (tC (.ty T2)) tNil))) tNil))) (M.opt ma (fIsi [T1, T2])) := by
  subst hK
  exact ⟨pe_callB call_isiT hgi hi PyProof.Rows.boot_isinstance (pa_cons ha.pe (pa_cons (pe_tup (pa_cons (pe_ty hm1 hv1 hg1 hn1 hdb1 hcd1) (pa_cons (pe_ty hm2 hv2 hg2 hn2 hdb2 hcd2) pa_nil he2) he1)) pa_nil he0) he) (by decide) (by decide) he hpl, fun β g env σ y env' Q ok hm k => by
    obtain ⟨d, h1, h2⟩ := M.opt_some hm
    refine ha.ev β g env σ d env' _ ok h1 fun g1 v f1 o1 r1 => ?_
    unfold fIsi at h2
    split at h2
    · rename_i s hs
      split at h2
      · rename_i hT
        cases h2
        have hT' : tyOK T1 = true ∧ tyOK T2 = true := by simpa using hT
        refine ⟨by show 2 ≤ sizeLine; decide, fun tp htp => ?_⟩
        obtain ⟨k1, k2⟩ := fr_new (o := .tup [.ty T1, .ty T2]) o1.ok htp
        have r1' := Rp.mono k2.f _ _ r1
        refine ⟨v, tp, [.ty T1, .ty T2], .type s, [.type T1, .type T2], [T1, T2].any (isTy s), rfl, upd_same, .cons (.ty T1) (.cons (.ty T2) .nil), tyD_ok (g := ⟨upd g1.f tp _, g1.o, upd g1.h tp _⟩) k1 r1' hs, kitAny2 hs hT'.1 hT'.2, ?_⟩
        exact k ⟨upd g1.f tp _, g1.o, upd g1.h tp _⟩ _ (f1.trans k2) (o1.grow k1 k2.f fun i p _ y e => e) rfl
      · cases h2
    · cases h2⟩
end
end DL

namespace DL
open PySem L2 RZ

def Wk (c : Cn) (I : It) (f : Hp) (ds : List D) : Prop := ∀ (g : G) (i : Nat), GOk g → Same f g.f →
  (∀ d, ds[i]? = some d → I.go i g.h ∧ ∀ x H', I.yld i g.h x H' → ∃ g' : G, Fr g g' ∧ GOk g' ∧ g'.h = H' ∧ g'.o = g.o ∧ Rp c g'.f d x) ∧ (ds.length ≤ i → I.stop i g.h)
def RI (c : Cn) : Rel (List D) It := fun g _ _ ds I => Wk c I g.f ds
structure IX (ct : Nat → Addr) (X : Cx) (tg iter : Expr) (wi : TI) (m : M (List D)) : Prop where
  pe : PI X tg iter wi
  ev : J ⟨X.K, ct⟩ (RI ⟨X.K, ct⟩) wi m
def iSeq (K : PySem.W.Frag) (tl : TE) : TI := fun σ H R => tl σ H fun x H1 => ∃ a, x = .ref a ∧ (((∃ xs, SqL K H1 a xs) ∧ R (Itl K a) H1) ∨ ((∃ xs, SqT K H1 a xs) ∧ R (Itt K a) H1))
theorem pi_seq {X : Cx} {tg l : Expr} {tl : TE} (hl : PE X l tl) : PI X tg l (iSeq X.K tl) := by
  refine ⟨fun pins s σ H R I h => ?_⟩
  refine thn (hl.run pins s σ H _ I h) fun v s1 ⟨x, H1, I1, r1, q1⟩ => ?_
  obtain ⟨a, e, q | q⟩ := q1
  · obtain ⟨⟨xs, hq⟩, q⟩ := q
    subst e
    cases r1
    obtain ⟨its, rv, p, hz⟩ := I1.list hq
    refine wpAny_pyIter_list p.isList ?_
    refine ⟨s1.heap.objs.size, [s1.heap.objs.size], _, _, H1, rfl, I1.kept (t' := s1.toks) fun b o e => Heap.get?_push_of_some _ e, turn_list a _, ⟨_, Heap.get?_push_size _ rfl, rfl, rfl⟩, fun b hb => ?_, q⟩
    have e : b = s1.heap.objs.size := by simpa using hb
    subst e
    exact I1.fpOk (Nat.le_refl _) (I1.hok.fresh (Nat.le_refl _))
  · obtain ⟨⟨xs, hq⟩, q⟩ := q
    subst e
    cases r1
    obtain ⟨its, rv, p, hz⟩ := I1.tuple hq
    refine PySem.wpAny_pyIter_tuple (show s1.heap.IsTuple a its.toArray from p) ?_
    refine ⟨s1.heap.objs.size, [s1.heap.objs.size], _, _, H1, rfl, I1.kept (t' := s1.toks) fun b o e => Heap.get?_push_of_some _ e, turn_tuple a _, ⟨_, Heap.get?_push_size _ rfl, rfl, rfl⟩, fun b hb => ?_, q⟩
    have e : b = s1.heap.objs.size := by simpa using hb
    subst e
    exact I1.fpOk (Nat.le_refl _) (I1.hok.fresh (Nat.le_refl _))
def seqD : D → Option (List D)
  | .lst ds => some ds
  | .tup ds => some ds
  | .fz ds => some ds
  | _ => none
theorem wk_l {c : Cn} {f : Hp} {a : Addr} {vs : List V} {ds : List D} (h : SqL c.K f a vs) (r : RpL c f ds vs) : Wk c (Itl c.K a) f ds := fun g i k e => by
  have h' : SqL c.K g.h a vs := k.f.seq (e.seq h)
  refine ⟨fun d hd => ?_, fun hi => ⟨vs, h', by rw [r.len]; exact hi⟩⟩
  obtain ⟨v, h1, h2⟩ := r.get hd
  refine ⟨⟨vs, v, h', h1⟩, fun x H' hy => ?_⟩
  obtain ⟨e1, e2⟩ := hy
  have e3 := (e2 vs h').symm.trans h1
  cases e3
  exact ⟨g, Fr.refl g, k, e1.symm, rfl, Rp.mono e _ _ h2⟩
theorem wk_t {c : Cn} {f : Hp} {a : Addr} {vs : List V} {ds : List D} (h : f a = some (.tup vs)) (r : RpL c f ds vs) : Wk c (Itt c.K a) f ds := fun g i k e => by
  have h' : SqT c.K g.h a vs := .inl (.inl (k.f _ _ (e _ _ h)))
  refine ⟨fun d hd => ?_, fun hi => ⟨vs, h', by rw [r.len]; exact hi⟩⟩
  obtain ⟨v, h1, h2⟩ := r.get hd
  refine ⟨⟨vs, v, h', h1⟩, fun x H' hy => ?_⟩
  obtain ⟨e1, e2⟩ := hy
  have e3 := (e2 vs h').symm.trans h1
  cases e3
  exact ⟨g, Fr.refl g, k, e1.symm, rfl, Rp.mono e _ _ h2⟩
/-- lo, lo + 1, .. -/
def rngD (lo : Int) (n : Nat) : List D := (List.range n).map fun i => .int (lo + (i : Nat))
theorem wk_r {c : Cn} {f : Hp} {lo : Int} {n : Nat} : Wk c (Itr lo n) f (rngD lo n) := fun g i k e => by
  refine ⟨fun d hd => ?_, fun hi => ?_⟩
  · unfold rngD at hd
    rw [List.getElem?_map] at hd
    obtain ⟨j, h1, h2⟩ := Option.map_eq_some_iff.mp hd
    obtain ⟨hl, h3⟩ := List.getElem?_eq_some_iff.mp h1
    rw [List.length_range] at hl
    rw [List.getElem_range] at h3
    subst h3
    subst h2
    refine ⟨hl, fun x H' hy => ?_⟩
    obtain ⟨e1, e2⟩ := hy
    exact ⟨g, Fr.refl g, k, e1.symm, rfl, e2⟩
  · show n ≤ i
    unfold rngD at hi
    rw [List.length_map, List.length_range] at hi
    exact hi
def enumD (ds : List D) : List D := ds.mapIdx fun i d => .tup [.int (i : Nat), d]
theorem wk_e {c : Cn} {f : Hp} {a : Addr} {vs : List V} {ds : List D} (h : SqL c.K f a vs) (r : RpL c f ds vs) : Wk c (Ite c.K a) f (enumD ds) := fun g i k e => by
  have h' : SqL c.K g.h a vs := k.f.seq (e.seq h)
  refine ⟨fun d hd => ?_, fun hi => ⟨vs, h', ?_⟩⟩
  · unfold enumD at hd
    rw [List.getElem?_mapIdx] at hd
    obtain ⟨d0, h0, rfl⟩ := Option.map_eq_some_iff.mp hd
    obtain ⟨v, h1, h2⟩ := r.get h0
    refine ⟨⟨vs, v, h', h1⟩, fun x H' hy => ?_⟩
    obtain ⟨T, y, rfl, hT, rfl, e2⟩ := hy
    have e3 := (e2 vs h').symm.trans h1
    cases e3
    obtain ⟨k1, k2⟩ := fr_new (o := .tup [.int (i : Nat), v]) k hT
    exact ⟨⟨upd g.f T _, g.o, upd g.h T _⟩, k2, k1, rfl, rfl, ⟨T, _, rfl, upd_same, .cons rfl (.cons (Rp.mono (e.trans k2.f) _ _ h2) .nil)⟩⟩
  · unfold enumD at hi
    rw [List.length_mapIdx] at hi
    rw [r.len]
    exact hi
def zipD (xs ys : List D) : List D := (xs.zip ys).map fun p => .tup [p.1, p.2]
theorem zipD_get {xs ys : List D} {i : Nat} {d : D} (h : (zipD xs ys)[i]? = some d) : ∃ x y, xs[i]? = some x ∧ ys[i]? = some y ∧ d = .tup [x, y] := by
  unfold zipD at h
  rw [List.getElem?_map] at h
  obtain ⟨⟨x, y⟩, h1, h2⟩ := Option.map_eq_some_iff.mp h
  obtain ⟨h3, h4⟩ := List.getElem?_zip_eq_some.mp h1
  exact ⟨x, y, h3, h4, h2.symm⟩
theorem zipD_len {xs ys : List D} {i : Nat} (h : (zipD xs ys).length ≤ i) : xs.length ≤ i ∨ ys.length ≤ i := by
  unfold zipD at h
  rw [List.length_map, List.length_zip] at h
  omega
theorem wk_zl {c : Cn} {f : Hp} {a b : Addr} {vs ws : List V} {ds es : List D} (h : SqL c.K f a vs) (r : RpL c f ds vs) (h2 : SqL c.K f b ws) (r2 : RpL c f es ws) : Wk c (Itz c.K a b) f (zipD ds es) := fun g i k e => by
  have h' : SqL c.K g.h a vs := k.f.seq (e.seq h)
  have h2' : SqL c.K g.h b ws := k.f.seq (e.seq h2)
  refine ⟨fun d hd => ?_, fun hi => ⟨vs, ws, h', h2', by rw [r.len, r2.len]; exact zipD_len hi⟩⟩
  obtain ⟨d1, d2, q1, q2, rfl⟩ := zipD_get hd
  obtain ⟨v, h3, h4⟩ := r.get q1
  obtain ⟨w, h5, h6⟩ := r2.get q2
  refine ⟨⟨vs, ws, v, w, h', h2', h3, h5⟩, fun x H' hy => ?_⟩
  obtain ⟨T, y, z, rfl, hT, rfl, e2, e3⟩ := hy
  have e4 := (e2 vs h').symm.trans h3
  have e5 := (e3 ws h2').symm.trans h5
  cases e4
  cases e5
  obtain ⟨k1, k2⟩ := fr_new (o := .tup [v, w]) k hT
  exact ⟨⟨upd g.f T _, g.o, upd g.h T _⟩, k2, k1, rfl, rfl, ⟨T, _, rfl, upd_same, .cons (Rp.mono (e.trans k2.f) _ _ h4) (.cons (Rp.mono (e.trans k2.f) _ _ h6) .nil)⟩⟩
theorem wk_zt {c : Cn} {f : Hp} {a b : Addr} {vs ws : List V} {ds es : List D} (h : f a = some (.tup vs)) (r : RpL c f ds vs) (h2 : f b = some (.tup ws)) (r2 : RpL c f es ws) : Wk c (ItzT c.K a b) f (zipD ds es) := fun g i k e => by
  have h' : SqT c.K g.h a vs := .inl (.inl (k.f _ _ (e _ _ h)))
  have h2' : SqT c.K g.h b ws := .inl (.inl (k.f _ _ (e _ _ h2)))
  refine ⟨fun d hd => ?_, fun hi => ⟨vs, ws, h', h2', by rw [r.len, r2.len]; exact zipD_len hi⟩⟩
  obtain ⟨d1, d2, q1, q2, rfl⟩ := zipD_get hd
  obtain ⟨v, h3, h4⟩ := r.get q1
  obtain ⟨w, h5, h6⟩ := r2.get q2
  refine ⟨⟨vs, ws, v, w, h', h2', h3, h5⟩, fun x H' hy => ?_⟩
  obtain ⟨T, y, z, rfl, hT, rfl, e2, e3⟩ := hy
  have e4 := (e2 vs h').symm.trans h3
  have e5 := (e3 ws h2').symm.trans h5
  cases e4
  cases e5
  obtain ⟨k1, k2⟩ := fr_new (o := .tup [v, w]) k hT
  exact ⟨⟨upd g.f T _, g.o, upd g.h T _⟩, k2, k1, rfl, rfl, ⟨T, _, rfl, upd_same, .cons (Rp.mono (e.trans k2.f) _ _ h4) (.cons (Rp.mono (e.trans k2.f) _ _ h6) .nil)⟩⟩
section
variable {ct : Nat → Addr} {X : Cx} {tg e : Expr} {te : TE} {m : M D} {pos p : Pos} {t : TA} {n : M (List D)}
theorem ix_seq {K : PySem.W.Frag} (he : EX ct X e te m) (hK : X.K = K := by rfl) : IX ct X tg e (iSeq K te) (M.opt m seqD) := by
  subst hK
  exact ⟨pi_seq he.pe, fun β g env σ ds env' Q ok hm k => by
    obtain ⟨d, h1, h2⟩ := M.opt_some hm
    refine he.ev β g env σ d env' _ ok h1 fun g1 v f1 o1 r1 => ?_
    cases d with
    | lst xs =>
      cases h2
      obtain ⟨a, vs, rfl, h3, h4⟩ := r1
      exact ⟨a, rfl, .inl ⟨⟨vs, .inl (.inl (o1.ok.f _ _ h3))⟩, k g1 _ f1 o1 (wk_l (.inl (.inl h3)) h4)⟩⟩
    | tup xs =>
      cases h2
      obtain ⟨a, vs, rfl, h3, h4⟩ := r1
      exact ⟨a, rfl, .inr ⟨⟨vs, .inl (.inl (o1.ok.f _ _ h3))⟩, k g1 _ f1 o1 (wk_t h3 h4)⟩⟩
    | fz xs =>
      cases h2
      obtain ⟨a, vs, rfl, h3, h4⟩ := r1
      exact ⟨a, rfl, .inl ⟨⟨vs, o1.ok.f.seq h3⟩, k g1 _ f1 o1 (wk_l h3 h4)⟩⟩
    | _ => cases h2⟩
def fRng1 : List D → Option (List D)
  | [.int j] => if -100000 ≤ j ∧ j ≤ 100000 then some (rngD 0 j.toNat) else none
  | _ => none
def fEnum : List D → Option (List D)
  | [.lst ds] => some (enumD ds)
  | [.fz ds] => some (enumD ds)
  | _ => none
def fZip : List D → Option (List D)
  | [.lst ds, .lst es] => some (zipD ds es)
  | [.tup ds, .tup es] => some (zipD ds es)
  | _ => none
def fRng2 : List D → Option (List D)
  | [.int i, .int j] => if -100000 ≤ i ∧ i ≤ 100000 ∧ -100000 ≤ j ∧ j ≤ 100000 then some (rngD i (j - i).toNat) else none
  | _ => none
theorem ix_rng (hm : X.mg "range" = none) (ha : AX ct X [e] t n) (hg : Gl X "range" := by rfl) (hs : starEach [e] X.env = [(false, eval e X.env)] := by rfl) : IX ct X tg (.Call (.Name "range" p) [e] [] pos) (iRng1 t) (M.opt n fRng1) := ⟨pi_range1 hg hm ha.pe hs, fun β g env σ ds env' Q ok hm k => by
  obtain ⟨d, h1, h2⟩ := M.opt_some hm
  refine ha.ev β g env σ d env' _ ok h1 fun g1 v f1 o1 r1 => ?_
  unfold fRng1 at h2
  split at h2
  · split at h2
    · cases h2
      obtain ⟨w, rfl, rfl⟩ := RpL.one' r1
      exact ⟨_, rfl, by omega, by omega, k g1 _ f1 o1 wk_r⟩
    · cases h2
  · cases h2⟩
theorem ix_rng_2 {b : Expr} (hm : X.mg "range" = none) (ha : AX ct X [e, b] t n) (hg : Gl X "range" := by rfl) (hs : starEach [e, b] X.env = [(false, eval e X.env), (false, eval b X.env)] := by rfl) (hs2 : starEach [b] X.env = [(false, eval b X.env)] := by rfl) : IX ct X tg (.Call (.Name "range" p) [e, b] [] pos) (iRng2 t) (M.opt n fRng2) := ⟨pi_range2 hg hm ha.pe hs hs2, fun β g env σ ds env' Q ok hm k => by
  obtain ⟨d, h1, h2⟩ := M.opt_some hm
  refine ha.ev β g env σ d env' _ ok h1 fun g1 v f1 o1 r1 => ?_
  unfold fRng2 at h2
  split at h2
  · split at h2
    · cases h2
      obtain ⟨w, z, rfl, rfl, rfl⟩ := RpL.two' r1
      exact ⟨_, _, rfl, ⟨by omega, by omega, by omega, by omega⟩, k g1 _ f1 o1 wk_r⟩
    · cases h2
  · cases h2⟩
theorem ix_enum {K : PySem.W.Frag} {elts : List Expr} {kk : Nat} {tpos : Pos} (hm : X.mg "enumerate" = none) (ha : AX ct X [e] t n) (hg : Gl X "enumerate" := by rfl) (hs : starEach [e] X.env = [(false, eval e X.env)] := by rfl) (hK : X.K = K := by rfl) : IX ct X (.Tuple elts kk tpos) (.Call (.Name "enumerate" p) [e] [] pos) (iEnum K t) (M.opt n fEnum) := by
  subst hK
  exact ⟨pi_enum hg hm ha.pe hs, fun β g env σ ds env' Q ok hm k => by
    obtain ⟨d, h1, h2⟩ := M.opt_some hm
    refine ha.ev β g env σ d env' _ ok h1 fun g1 v f1 o1 r1 => ?_
    unfold fEnum at h2
    split at h2
    · cases h2
      obtain ⟨w, rfl, a, vs, rfl, h3, h4⟩ := RpL.one' r1
      exact ⟨a, vs, rfl, .inl (.inl (o1.ok.f _ _ h3)), k g1 _ f1 o1 (wk_e (.inl (.inl h3)) h4)⟩
    · cases h2
      obtain ⟨w, rfl, a, vs, rfl, h3, h4⟩ := RpL.one' r1
      exact ⟨a, vs, rfl, o1.ok.f.seq h3, k g1 _ f1 o1 (wk_e h3 h4)⟩
    · cases h2⟩
theorem ix_zip {K : PySem.W.Frag} {b : Expr} {elts : List Expr} {kk : Nat} {tpos : Pos} (hm : X.mg "zip" = none) (ha : AX ct X [e, b] t n) (hg : Gl X "zip" := by rfl) (hs : starEach [e, b] X.env = (false, eval e X.env) :: starEach [b] X.env := by rfl) (hpl : (backTo pos (starEach [b] X.env)).any (·.1) = false := by rfl) (hK : X.K = K := by rfl) : IX ct X (.Tuple elts kk tpos) (.Call (.Name "zip" p) [e, b] [] pos) (iZipA K t) (M.opt n fZip) := by
  subst hK
  exact ⟨pi_zipA hg hm ha.pe hs hpl, fun β g env σ ds env' Q ok hm k => by
    obtain ⟨d, h1, h2⟩ := M.opt_some hm
    refine ha.ev β g env σ d env' _ ok h1 fun g1 v f1 o1 r1 => ?_
    unfold fZip at h2
    split at h2
    · cases h2
      obtain ⟨w, z, rfl, ⟨a, vs, rfl, h3, h4⟩, ⟨a2, ws, rfl, h5, h6⟩⟩ := RpL.two' r1
      exact ⟨a, a2, vs, ws, rfl, .inl ⟨.inl (.inl (o1.ok.f _ _ h3)), .inl (.inl (o1.ok.f _ _ h5)), k g1 _ f1 o1 (wk_zl (.inl (.inl h3)) h4 (.inl (.inl h5)) h6)⟩⟩
    · cases h2
      obtain ⟨w, z, rfl, ⟨a, vs, rfl, h3, h4⟩, ⟨a2, ws, rfl, h5, h6⟩⟩ := RpL.two' r1
      exact ⟨a, a2, vs, ws, rfl, .inr ⟨.inl (.inl (o1.ok.f _ _ h3)), .inl (.inl (o1.ok.f _ _ h5)), k g1 _ f1 o1 (wk_zt h3 h4 h5 h6)⟩⟩
    · cases h2⟩
end
end DL

namespace DL
open PySem L2 RZ

theorem at_set {e : Env} {i j : Nat} {x : Option C} : Env.at (e.set i x) j = if i = j ∧ j < e.length then x else Env.at e j := by
  unfold Env.at
  by_cases h : i = j
  · subst h
    by_cases hl : i < e.length
    · rw [List.getElem?_set_self hl, if_pos ⟨rfl, hl⟩]
      rfl
    · rw [if_neg (fun z => hl z.2), List.getElem?_eq_none (by rw [List.length_set]; omega), List.getElem?_eq_none (by omega)]
  · rw [List.getElem?_set_ne h, if_neg (fun z => h z.1)]
/-- a slot takes a value -/
theorem Ok.set {c : Cn} {β : List Addr} {g : G} {env : Env} {σ : L2.St} (ok : Ok c β g env σ) (i : Nat) {d : D} {v : V} (r : Rp c g.f d v) : Ok c β g (env.set i (some (.val d))) (σ.set i (some v)) := by
  have hl := ok.len
  refine ⟨ok.ok, by rw [List.length_set, List.length_set]; exact hl, fun j => ?_, fun j k p hj hk => ?_⟩
  · rw [at_set]
    by_cases h : i = j ∧ j < env.length
    · rw [if_pos h]
      obtain ⟨rfl, h2⟩ := h
      exact ⟨v, List.getElem?_set_self (by omega), r⟩
    · rw [if_neg h]
      by_cases hij : i = j
      · subst hij
        have hn : ¬ i < env.length := fun z => h ⟨rfl, z⟩
        have e1 : Env.at env i = none := by
          unfold Env.at
          rw [List.getElem?_eq_none (by omega)]
          rfl
        rw [e1]
        exact True.intro
      · rw [List.getElem?_set_ne hij]
        exact ok.sl j
  · have key : ∀ {j : Nat}, Owns (env.set i (some (.val d))) (σ.set i (some v)) j p → Owns env σ j p := fun {j} hj => by
      obtain ⟨h1, h2⟩ := hj
      rw [at_set] at h1
      by_cases h : i = j ∧ j < env.length
      · rw [if_pos h] at h1
        cases h1
      · rw [if_neg h] at h1
        by_cases hij : i = j
        · subst hij
          have hn : ¬ i < env.length := fun z => h ⟨rfl, z⟩
          rw [List.getElem?_eq_none (by rw [List.length_set]; omega)] at h2
          cases h2
        · rw [List.getElem?_set_ne hij] at h2
          exact ⟨h1, h2⟩
    exact ok.ap j k p (key hj) (key hk)
/-- a slot takes an object of one's own -/
theorem Ok.setO {c : Cn} {β : List Addr} {g : G} {env : Env} {σ : L2.St} (ok : Ok c β g env σ) (i : Nat) {o : O} {p : Addr} (r : OkO c g.f (g.o p) o) (hp : ∀ j q, Owns env σ j q → q ≠ p) : Ok c β g (env.set i (some (.own o))) (σ.set i (some (.ref p))) := by
  have hl := ok.len
  refine ⟨ok.ok, by rw [List.length_set, List.length_set]; exact hl, fun j => ?_, fun j k q hj hk => ?_⟩
  · rw [at_set]
    by_cases h : i = j ∧ j < env.length
    · rw [if_pos h]
      obtain ⟨rfl, h2⟩ := h
      exact ⟨p, List.getElem?_set_self (by omega), r⟩
    · rw [if_neg h]
      by_cases hij : i = j
      · subst hij
        have hn : ¬ i < env.length := fun z => h ⟨rfl, z⟩
        have e1 : Env.at env i = none := by
          unfold Env.at
          rw [List.getElem?_eq_none (by omega)]
          rfl
        rw [e1]
        exact True.intro
      · rw [List.getElem?_set_ne hij]
        exact ok.sl j
  · have key : ∀ {j : Nat}, Owns (env.set i (some (.own o))) (σ.set i (some (.ref p))) j q → (i = j ∧ q = p) ∨ (i ≠ j ∧ Owns env σ j q) := fun {j} hj => by
      obtain ⟨h1, h2⟩ := hj
      by_cases hij : i = j
      · subst hij
        refine .inl ⟨rfl, ?_⟩
        by_cases hl : i < σ.length
        · rw [List.getElem?_set_self hl] at h2
          cases h2
          rfl
        · rw [List.getElem?_eq_none (by rw [List.length_set]; omega)] at h2
          cases h2
      · rw [at_set, if_neg (fun z => hij z.1)] at h1
        rw [List.getElem?_set_ne hij] at h2
        exact .inr ⟨hij, h1, h2⟩
    rcases key hj with ⟨h1, h2⟩ | ⟨h1, h2⟩
    · rcases key hk with ⟨h3, h4⟩ | ⟨h3, h4⟩
      · omega
      · exact absurd h2 (hp k q h4)
    · rcases key hk with ⟨h3, h4⟩ | ⟨h3, h4⟩
      · exact absurd h4 (hp j q h2)
      · exact ok.ap j k q h2 h4
/-- slots are forgotten -/
theorem Ok.weak {c : Cn} {β : List Addr} {g : G} {env env' : Env} {σ σ' : L2.St} (ok : Ok c β g env σ) (hl : σ'.length = env'.length) (h : ∀ i, Env.at env' i = none ∨ (Env.at env' i = Env.at env i ∧ σ'[i]? = σ[i]?)) : Ok c β g env' σ' := by
  refine ⟨ok.ok, hl, fun i => ?_, fun i j p hi hj => ?_⟩
  · rcases h i with e | ⟨e1, e2⟩
    · rw [e]
      exact True.intro
    · rw [e1, e2]
      exact ok.sl i
  · have key : ∀ {i : Nat}, Owns env' σ' i p → Owns env σ i p := fun {i} ho => by
      obtain ⟨h1, h2⟩ := ho
      rcases h i with e | ⟨e1, e2⟩
      · rw [e] at h1
        cases h1
      · exact ⟨by rw [← e1]; exact h1, by rw [← e2]; exact h2⟩
    exact ok.ap i j p (key hi) (key hj)
/-- the object of an owning slot is another one -/
def putO (e : Env) (j : Nat) (o : O) : Env := match Env.at e j with
  | some (.own _) => e.set j (some (.own o))
  | some (.par k _) => e.set j (some (.par k o))
  | _ => e
theorem Ok.mut {c : Cn} {β : List Addr} {g : G} {env : Env} {σ : L2.St} (ok : Ok c β g env σ) {j : Nat} {p : Addr} (ho : Owns env σ j p) {y : HO} {o : O} (r : OkO c g.f (some y) o) :
    Fr g ⟨g.f, upd g.o p y, upd g.h p y⟩ ∧ Ok c β ⟨g.f, upd g.o p y, upd g.h p y⟩ (putO env j o) σ := by
  obtain ⟨z, hz⟩ := ok.own ho
  obtain ⟨k1, k2⟩ := fr_mut (o := y) ok.ok hz
  refine ⟨k2, ?_⟩
  obtain ⟨h1, h2⟩ := ho
  have hjl : j < env.length := by
    rw [← ok.len]
    exact (List.getElem?_eq_some_iff.mp h2).1
  have other : ∀ i, i ≠ j → SlotOk c β g σ[i]? (Env.at env i) → SlotOk c β ⟨g.f, upd g.o p y, upd g.h p y⟩ σ[i]? (Env.at env i) := fun i hi hs => by
    refine SlotOk.grow (g := g) (g' := ⟨g.f, upd g.o p y, upd g.h p y⟩) (Same.refl _) (fun q hq hw x hx => ?_) hs
    show upd g.o p y q = some x
    rw [upd_ne (fun z => hi (ok.ap i j p ⟨hw, by rw [← z]; exact hq⟩ ⟨h1, h2⟩))]
    exact hx
  unfold putO
  split
  · rename_i o0 he
    refine ⟨k1, by rw [List.length_set]; exact ok.len, fun i => ?_, fun i k q hi hk => ?_⟩
    · rw [at_set]
      by_cases h : j = i ∧ i < env.length
      · rw [if_pos h]
        obtain ⟨rfl, _⟩ := h
        refine ⟨p, h2, ?_⟩
        show OkO c g.f (upd g.o p y p) o
        rw [upd_same]
        exact r
      · rw [if_neg h]
        exact other i (fun z => h ⟨z.symm, by rw [z]; exact hjl⟩) (ok.sl i)
    · have key : ∀ {i : Nat}, Owns (env.set j (some (.own o))) σ i q → Owns env σ i q := fun {i} ho => by
        obtain ⟨w1, w2⟩ := ho
        rw [at_set] at w1
        by_cases h : j = i ∧ i < env.length
        · obtain ⟨rfl, _⟩ := h
          exact ⟨h1, w2⟩
        · rw [if_neg h] at w1
          exact ⟨w1, w2⟩
      exact ok.ap i k q (key hi) (key hk)
  · rename_i k0 o0 he
    have s := ok.sl j
    rw [he] at s
    obtain ⟨p', e1, e2, _⟩ := s
    rw [h2] at e1
    cases e1
    refine ⟨k1, by rw [List.length_set]; exact ok.len, fun i => ?_, fun i k q hi hk => ?_⟩
    · rw [at_set]
      by_cases h : j = i ∧ i < env.length
      · rw [if_pos h]
        obtain ⟨rfl, _⟩ := h
        refine ⟨p, h2, e2, ?_⟩
        show OkO c g.f (upd g.o p y p) o
        rw [upd_same]
        exact r
      · rw [if_neg h]
        exact other i (fun z => h ⟨z.symm, by rw [z]; exact hjl⟩) (ok.sl i)
    · have key : ∀ {i : Nat}, Owns (env.set j (some (.par k0 o))) σ i q → Owns env σ i q := fun {i} ho => by
        obtain ⟨w1, w2⟩ := ho
        rw [at_set] at w1
        by_cases h : j = i ∧ i < env.length
        · obtain ⟨rfl, _⟩ := h
          exact ⟨h1, w2⟩
        · rw [if_neg h] at w1
          exact ⟨w1, w2⟩
      exact ok.ap i k q (key hi) (key hk)
  · rename_i h3 h4
    exfalso
    unfold isOwn at h1
    split at h1
    · exact h3 _ (by assumption)
    · exact h4 _ _ (by assumption)
    · cases h1
structure GX (ct : Nat → Addr) (X : Cx) (e : Expr) (gt : TG) (sl : List Nat) (gm : D → Env → Option Env) : Prop where
  pe : PG X e gt
  ev : ∀ (β : List Addr) (g : G) (env : Env) (σ : L2.St) (d : D) (v : V) (env' : Env) (Q : L2.St → Hp → Prop), Ok ⟨X.K, ct⟩ β g env σ → Rp ⟨X.K, ct⟩ g.f d v → gm d env = some env' →
    (∀ σ', Ok ⟨X.K, ct⟩ β g env' σ' → (∀ i, i ∉ sl → σ'[i]? = σ[i]? ∧ Env.at env' i = Env.at env i) → σ'.length = σ.length → Q σ' g.h) → gt v σ g.h Q
structure GXs (ct : Nat → Addr) (X : Cx) (es : List Expr) (gt : TGs) (sl : List Nat) (gm : List D → Env → Option Env) : Prop where
  pe : PGs X es gt
  ev : ∀ (β : List Addr) (g : G) (env : Env) (σ : L2.St) (ds : List D) (vs : List V) (env' : Env) (Q : L2.St → Hp → Prop), Ok ⟨X.K, ct⟩ β g env σ → RpL ⟨X.K, ct⟩ g.f ds vs → gm ds env = some env' →
    (∀ σ', Ok ⟨X.K, ct⟩ β g env' σ' → (∀ i, i ∉ sl → σ'[i]? = σ[i]? ∧ Env.at env' i = Env.at env i) → σ'.length = σ.length → Q σ' g.h) → gt vs σ g.h Q
def gmName (i : Nat) : D → Env → Option Env := fun d e => some (e.set i (some (.val d)))
def gmNil : List D → Env → Option Env := fun ds e => match ds with
  | [] => some e
  | _ => none
def gmCons (g : D → Env → Option Env) (r : List D → Env → Option Env) : List D → Env → Option Env := fun ds e => match ds with
  | d :: ds => match g d e with
    | some e1 => r ds e1
    | none => none
  | _ => none
def gmTup (n : Nat) (r : List D → Env → Option Env) : D → Env → Option Env := fun d e => match d with
  | .tup ds => if ds.length = n then r ds e else none
  | _ => none
section
variable {ct : Nat → Addr} {X : Cx} {pos : Pos} {e : Expr} {es : List Expr} {gt : TG} {gts : TGs} {sl sl2 : List Nat} {gm : D → Env → Option Env} {gms : List D → Env → Option Env}
theorem gx_name (i : Nat) {x : Str} (hN : X.N.Nodup) (hi : X.N[i]? = some x := by rfl) (hx : Loc X.env.scope x := by first | exact Or.inl rfl | exact Or.inr rfl) (hf : X.fn x = true ∨ X.env.scope.names.lookup x = some .local := by first | exact .inl rfl | exact .inr rfl) : GX ct X (.Name x pos) (gName i) [i] (gmName i) :=
  ⟨pg_name hN hi hx hf, fun β g env σ d v env' Q ok r h k => by
    cases h
    refine k _ (ok.set i r) (fun j hj => ?_) (List.length_set ..)
    have hij : i ≠ j := fun z => hj (by rw [z]; exact List.mem_singleton.mpr rfl)
    exact ⟨List.getElem?_set_ne hij, by rw [at_set, if_neg (fun z => hij z.1)]⟩⟩
theorem gxs_nil : GXs ct X [] gNil [] gmNil := ⟨pgs_nil, fun β g env σ ds vs env' Q ok r h k => by
  unfold gmNil at h
  split at h
  · cases h
    exact ⟨r, k σ ok (fun _ _ => ⟨rfl, rfl⟩) rfl⟩
  · cases h⟩
theorem gxs_cons (h1 : GX ct X e gt sl gm) (h2 : GXs ct X es gts sl2 gms) (hs : (assignEach (e :: es) X.env).map (·.2) = assign e X.env :: (assignEach es X.env).map (·.2) := by rfl) : GXs ct X (e :: es) (gCons gt gts) (sl ++ sl2) (gmCons gm gms) :=
  ⟨pgs_cons h1.pe h2.pe hs, fun β g env σ ds vs env' Q ok r h k => by
    unfold gmCons at h
    split at h
    · rename_i d ds
      split at h
      · rename_i e1 he
        obtain ⟨v, ws, rfl, r1, r2⟩ := r
        refine ⟨v, ws, rfl, h1.ev β g env σ d v e1 _ ok r1 he fun σ1 ok1 s1 l1 => h2.ev β g e1 σ1 ds ws env' _ ok1 r2 h fun σ2 ok2 s2 l2 => k σ2 ok2 (fun i hi => ?_) (l2.trans l1)⟩
        have n1 : i ∉ sl := fun z => hi (List.mem_append_left _ z)
        have n2 : i ∉ sl2 := fun z => hi (List.mem_append_right _ z)
        exact ⟨(s2 i n2).1.trans (s1 i n1).1, (s2 i n2).2.trans (s1 i n1).2⟩
      · cases h
    · cases h⟩
theorem gx_tup {K : PySem.W.Frag} {kk n : Nat} (h1 : GXs ct X es gts sl gms) (hn : (assignEach es X.env).length = n := by rfl) (hst : (assignEach es X.env).findIdx? (·.1) = none := by rfl) (hc : X.calm = true := by rfl) (hK : X.K = K := by rfl) : GX ct X (.Tuple es kk pos) (gTup K n gts) sl (gmTup n gms) := by
  subst hK
  exact
  ⟨pg_tup hc h1.pe hn hst, fun β g env σ d v env' Q ok r h k => by
    unfold gmTup at h
    split at h
    · split at h
      · rename_i ds hl
        obtain ⟨a, vs, rfl, h3, h4⟩ := r
        exact ⟨a, vs, rfl, .inl (.inl (ok.ok.f _ _ h3)), by rw [h4.len]; exact hl, h1.ev β g env σ ds vs env' Q ok h4 h k⟩
      · cases h
    · cases h⟩
end
structure TsX (ct : Nat → Addr) (X : Cx) (ifs : List Expr) (t : TT) (m : M Bool) : Prop where
  pe : PTs X ifs t
  ev : J ⟨X.K, ct⟩ RB t m
theorem tsx_nil {ct : Nat → Addr} {X : Cx} : TsX ct X [] tYes (M.ret true) := ⟨pts_nil, fun β g env σ x env' Q ok hm k => by
  cases hm
  exact k g true (Fr.refl g) ok rfl⟩
theorem tsx_one {ct : Nat → Addr} {X : Cx} {c : Expr} {t : TT} {m : M Bool} (h : TX ct X c t m) : TsX ct X [c] t m := ⟨pts_one h.pe, h.ev⟩
def wipeE (e : Env) : List Nat → Env
  | [] => e
  | v :: vs => (wipeE e vs).set v none
/-- the slots vs as they were in e -/
def restE (e : Env) (e3 : Env) : List Nat → Env
  | [] => e3
  | v :: vs => (restE e e3 vs).set v (Env.at e v)
theorem wipeE_len (e : Env) : ∀ vs, (wipeE e vs).length = e.length
  | [] => rfl
  | v :: vs => by
    unfold wipeE
    rw [List.length_set, wipeE_len e vs]
theorem wipeE_at (e : Env) (i : Nat) : ∀ vs, Env.at (wipeE e vs) i = if i ∈ vs then none else Env.at e i
  | [] => by
    rw [if_neg (by simp)]
    rfl
  | v :: vs => by
    unfold wipeE
    rw [at_set, wipeE_len, wipeE_at e i vs]
    by_cases h : v = i
    · subst h
      by_cases hl : v < e.length
      · rw [if_pos ⟨rfl, hl⟩, if_pos (by simp)]
      · rw [if_neg (fun z => hl z.2), if_pos (List.mem_cons_self (a := v) (l := vs))]
        have e1 : Env.at e v = none := by
          unfold Env.at
          rw [List.getElem?_eq_none (by omega)]
          rfl
        rw [e1]
        split <;> rfl
    · rw [if_neg (fun z => h z.1)]
      by_cases hm : i ∈ vs
      · rw [if_pos hm, if_pos (List.mem_cons_of_mem _ hm)]
      · rw [if_neg hm, if_neg (fun z => (List.mem_cons.mp z).elim (fun q => h q.symm) hm)]
theorem restE_len (e e3 : Env) : ∀ vs, (restE e e3 vs).length = e3.length
  | [] => rfl
  | v :: vs => by
    unfold restE
    rw [List.length_set, restE_len e e3 vs]
theorem restE_at (e e3 : Env) (i : Nat) (hl : e.length = e3.length) : ∀ vs, Env.at (restE e e3 vs) i = if i ∈ vs then Env.at e i else Env.at e3 i
  | [] => by
    rw [if_neg (by simp)]
    rfl
  | v :: vs => by
    unfold restE
    rw [at_set, restE_len, restE_at e e3 i hl vs]
    by_cases h : v = i
    · subst h
      by_cases hl' : v < e3.length
      · rw [if_pos ⟨rfl, hl'⟩, if_pos (by simp)]
      · rw [if_neg (fun z => hl' z.2), if_pos (List.mem_cons_self (a := v) (l := vs))]
        have e1 : Env.at e v = none := by
          unfold Env.at
          rw [List.getElem?_eq_none (by omega)]
          rfl
        have e2 : Env.at e3 v = none := by
          unfold Env.at
          rw [List.getElem?_eq_none (by omega)]
          rfl
        rw [e1, e2]
        split <;> rfl
    · rw [if_neg (fun z => h z.1)]
      by_cases hm : i ∈ vs
      · rw [if_pos hm, if_pos (List.mem_cons_of_mem _ hm)]
      · rw [if_neg hm, if_neg (fun z => (List.mem_cons.mp z).elim (fun q => h q.symm) hm)]
theorem wipe_len (σ : L2.St) (vs : List Nat) : (wipe σ vs).length = σ.length := wipe_length σ vs
theorem wipe_at (σ : L2.St) (i : Nat) : ∀ vs, i ∈ vs → i < σ.length → (wipe σ vs)[i]? = some none
  | v :: vs, h, hl => by
    unfold wipe
    by_cases hv : v = i
    · subst hv
      rw [List.getElem?_set_self (by rw [wipe_length]; exact hl)]
    · rw [List.getElem?_set_ne hv]
      exact wipe_at σ i vs ((List.mem_cons.mp h).elim (fun q => absurd q.symm hv) id) hl
theorem wipe_eq {σ σ' : L2.St} {vs : List Nat} (hl : σ'.length = σ.length) (h : ∀ i, i ∉ vs → σ'[i]? = (wipe σ vs)[i]?) : wipe σ' vs = wipe σ vs := by
  refine List.ext_getElem? fun i => ?_
  by_cases hi : i ∈ vs
  · by_cases hb : i < σ.length
    · rw [wipe_at σ' i vs hi (by omega), wipe_at σ i vs hi hb]
    · rw [List.getElem?_eq_none (by rw [wipe_length]; omega), List.getElem?_eq_none (by rw [wipe_length]; omega)]
  · rw [wipe_out hi, h i hi]
def noOwn (e : Env) (vs : List Nat) : Bool := vs.all fun v => !isOwn (Env.at e v)
def compL (gm : D → Env → Option Env) (mt : M Bool) (me : M D) (vs : List Nat) : List D → Env → Option (List D × Env)
  | [], e => some ([], e)
  | d :: ds, e => match gm d (wipeE e vs) with
    | none => none
    | some e1 => match mt e1 with
      | none => none
      | some (true, e2) => match me e2 with
        | none => none
        | some (y, e3) => match compL gm mt me vs ds (restE e e3 vs) with
          | none => none
          | some (ys, e4) => some (y :: ys, e4)
      | some (false, e2) => compL gm mt me vs ds (restE e e2 vs)
def mLc (mi : M (List D)) (gm : D → Env → Option Env) (mt : M Bool) (me : M D) (vs : List Nat) : M Ar := fun e => match mi e with
  | none => none
  | some (ds, e1) => if ds.length ≤ 50000 ∧ noOwn e1 vs = true then match compL gm mt me vs ds e1 with
    | none => none
    | some (ys, e2) => some (.o (.lst ys), e2)
    else none
theorem Fr.updD {g g' : G} (f : Fr g g') {p : Addr} (hp : g.h p = none) (y : HO) : Fr g ⟨g'.f, g'.o, upd g'.h p y⟩ := ⟨f.f, fun b x h1 h2 h3 => by
  obtain ⟨k1, k2, k3⟩ := f.u b x h1 h2 h3
  refine ⟨?_, k2, k3⟩
  show upd g'.h p y b = some x
  rw [upd_ne (ne_of_none h1 hp)]
  exact k1⟩
theorem GOk.updD {g : G} (k : GOk g) {p : Addr} (h1 : g.f p = none) (h2 : g.o p = none) (y : HO) : GOk ⟨g.f, g.o, upd g.h p y⟩ := ⟨fun b x e => by
  show upd g.h p y b = some x
  rw [upd_ne (ne_of_none e h1)]
  exact k.f _ _ e, fun b x e => by
  show upd g.h p y b = some x
  rw [upd_ne (ne_of_none e h2)]
  exact k.o _ _ e, k.d⟩
section
variable {c : Cn} {wi : TI} {gt : TG} {tt : TT} {te : TE} {mi : M (List D)} {gm : D → Env → Option Env} {mt : M Bool} {me : M D} {vs sl : List Nat}
/-- slots outside vs stand, those of vs are restored: from the turn's end to the next turn -/
theorem Ok.restore {β : List Addr} {g g3 : G} {env e3 : Env} {σ σ2 : L2.St} (ok : Ok c β g env σ) (ok3 : Ok c β g3 e3 σ2) (ff : Same g.f g3.f) (hno : noOwn env vs = true) (hσ : ∀ i, i ∉ vs → σ2[i]? = σ[i]?) (hl : σ2.length = σ.length) :
    Ok c β g3 (restE env e3 vs) σ := by
  have hl3 : env.length = e3.length := by rw [← ok.len, ← ok3.len, hl]
  have hn : ∀ i, i ∈ vs → isOwn (Env.at env i) = false := fun i hi => by
    have := List.all_eq_true.mp hno i hi
    simpa using this
  refine ⟨ok3.ok, by rw [restE_len, ← hl3, ok.len], fun i => ?_, fun i j p hi hj => ?_⟩
  · rw [restE_at env e3 i hl3]
    by_cases hv : i ∈ vs
    · rw [if_pos hv]
      refine (ok.sl i).grow ff fun p _ ho => ?_
      rw [hn i hv] at ho
      cases ho
    · rw [if_neg hv, ← hσ i hv]
      exact ok3.sl i
  · have key : ∀ {i : Nat}, Owns (restE env e3 vs) σ i p → Owns e3 σ2 i p := fun {i} ho => by
      obtain ⟨w1, w2⟩ := ho
      rw [restE_at env e3 i hl3] at w1
      by_cases hv : i ∈ vs
      · rw [if_pos hv, hn i hv] at w1
        cases w1
      · rw [if_neg hv] at w1
        exact ⟨w1, by rw [hσ i hv]; exact w2⟩
    exact ok3.ap i j p (key hi) (key hj)
theorem noOwn_rest {env e3 : Env} (hl : env.length = e3.length) (h : noOwn env vs = true) : noOwn (restE env e3 vs) vs = true := by
  refine List.all_eq_true.mpr fun i hi => ?_
  rw [restE_at env e3 i hl, if_pos hi]
  exact List.all_eq_true.mp h i hi
theorem j_lc {X : Cx} {ct : Nat → Addr} (hc : c = ⟨X.K, ct⟩) (hi : J c (RI c) wi mi) (hg : ∀ (β : List Addr) (g : G) (env : Env) (σ : L2.St) (d : D) (v : V) (env' : Env) (Q : L2.St → Hp → Prop), Ok c β g env σ → Rp c g.f d v → gm d env = some env' →
    (∀ σ', Ok c β g env' σ' → (∀ i, i ∉ sl → σ'[i]? = σ[i]? ∧ Env.at env' i = Env.at env i) → σ'.length = σ.length → Q σ' g.h) → gt v σ g.h Q) (ht : J c RB tt mt) (he : J c (RV c) te me) (hs : ∀ i, i ∈ sl → i ∈ vs) : J c (RA c) (tLc wi gt tt te vs) (mLc mi gm mt me vs) := fun β g env σ x env' Q ok hm k => by
  unfold mLc at hm
  split at hm
  · cases hm
  rename_i ds e1 hmi
  have hsz0 : ds.length ≤ 50000 ∧ noOwn e1 vs = true := Decidable.byContradiction fun z => by
    rw [if_neg z] at hm
    cases hm
  rw [if_pos hsz0] at hm
  obtain ⟨hsz, hno⟩ := hsz0
  split at hm
  · cases hm
  rename_i ys e2 hcl
  cases hm
  refine hi β g env σ ds e1 _ ok hmi fun g1 I f1 o1 w1 => fun Dl hD => ?_
  obtain ⟨hDf, hDo⟩ := o1.ok.fresh hD
  refine ⟨fun i m H' => m = ds.length - i ∧ i ≤ ds.length ∧ ∃ (g' : G) (ei : Env) (av : List V) (ad rs : List D), g'.h = H' ∧ Fr g1 g' ∧ Ok c β g' ei σ ∧ g'.f Dl = none ∧ g'.o Dl = none ∧ H' Dl = some (.lst av) ∧ RpL c g'.f ad av ∧ ad.length ≤ i ∧
      compL gm mt me vs (ds.drop i) ei = some (rs, env') ∧ ys = ad ++ rs ∧ noOwn ei vs = true, ⟨ds.length, ?_⟩, ?_⟩
  · refine ⟨by omega, by omega, ⟨g1.f, g1.o, upd g1.h Dl (.lst [])⟩, e1, [], [], ys, rfl, (Fr.refl g1).updD hD _, ?_, hDf, hDo, upd_same, rfl, by simp, hcl, rfl, hno⟩
    exact o1.grow (o1.ok.updD hDf hDo _) (Same.refl _) fun _ _ _ _ e => e
  · rintro i m H' ⟨rfl, hle, g', ei, av, ad, rs, rfl, f', o', n1, n2, hav, ra, hal, hco, hys, hno'⟩
    obtain ⟨wg, ws⟩ := w1 g' i o'.ok f'.f
    by_cases hlt : i < ds.length
    · obtain ⟨d, hd⟩ : ∃ d, ds[i]? = some d := ⟨ds[i], List.getElem?_eq_getElem hlt⟩
      have hdrop : ds.drop i = d :: ds.drop (i + 1) := by
        rw [List.drop_eq_getElem_cons hlt]
        rw [List.getElem?_eq_getElem hlt] at hd
        rw [Option.some.inj hd]
      rw [hdrop] at hco
      unfold compL at hco
      split at hco
      · cases hco
      rename_i ea hga
      obtain ⟨hgo, hy⟩ := wg d hd
      refine .inr ⟨hgo, fun H2 => ∃ (g' : G) (ei : Env) (av : List V) (ad rs : List D), g'.h = H2 ∧ Fr g1 g' ∧ Ok c β g' ei σ ∧ g'.f Dl = none ∧ g'.o Dl = none ∧ H2 Dl = some (.lst av) ∧ RpL c g'.f ad av ∧ ad.length ≤ i + 1 ∧
        compL gm mt me vs (ds.drop (i + 1)) ei = some (rs, env') ∧ ys = ad ++ rs ∧ noOwn ei vs = true, fun H2 hN => ⟨ds.length - (i + 1), by omega, rfl, by omega, hN⟩, fun xv H2 hyl => ?_⟩
      obtain ⟨g2, fr2, k2, rfl, eo2, rx⟩ := hy xv H2 hyl
      have o2 : Ok c β g2 ei σ := o'.grow k2 fr2.f fun _ _ _ y e => by rw [eo2]; exact e
      have o2w : Ok c β g2 (wipeE ei vs) (wipe σ vs) := o2.weak (by rw [wipe_length, wipeE_len]; exact o2.len) fun j => by
        rw [wipeE_at]
        by_cases hj : j ∈ vs
        · rw [if_pos hj]
          exact .inl rfl
        · rw [if_neg hj]
          exact .inr ⟨rfl, wipe_out hj⟩
      have hD2 : g2.h Dl = some (.lst av) ∧ g2.f Dl = none ∧ g2.o Dl = none := fr2.u Dl _ hav n1 n2
      refine hg β g2 (wipeE ei vs) (wipe σ vs) d xv ea _ o2w rx hga fun σ2 o3 s3 l3 => ?_
      have hσ2 : ∀ j, j ∉ vs → σ2[j]? = (wipe σ vs)[j]? := fun j hj => (s3 j fun z => hj (hs j z)).1
      have hl2 : σ2.length = σ.length := by rw [l3, wipe_length]
      refine ⟨wipe_eq hl2 hσ2, ?_⟩
      have hσ3 : ∀ j, j ∉ vs → σ2[j]? = σ[j]? := fun j hj => (hσ2 j hj).trans (wipe_out hj)
      split at hco
      · cases hco
      · -- kept
        rename_i e3 hmt
        split at hco
        · cases hco
        rename_i y e4 hme
        split at hco
        · cases hco
        rename_i ys' e5 hrec
        cases hco
        refine ht β g2 ea σ2 true e3 _ o3 hmt fun g3 b fr3 o4 eb => ?_
        have eb : true = b := eb
        subst eb
        refine iteT (he β g3 e3 σ2 y e4 _ o4 hme fun g4 yv fr4 o5 ry => ?_)
        have hD4 := (fr3.trans fr4).u Dl _ hD2.1 hD2.2.1 hD2.2.2
        have fr24 := fr2.trans (fr3.trans fr4)
        refine ⟨av, hD4.1, Nat.lt_of_lt_of_le (by rw [ra.len]; omega : av.length < 100000) (by decide), ⟨g4.f, g4.o, upd g4.h Dl (.lst (av ++ [yv]))⟩, restE ei e4 vs, av ++ [yv], ad ++ [y], ys', rfl, (f'.trans fr24).updD hD _, ?_, hD4.2.1, hD4.2.2, upd_same, ?_, by rw [List.length_append]; simp; omega, hrec, ?_, ?_⟩
        · have o6 : Ok c β g4 (restE ei e4 vs) σ := o'.restore o5 fr24.f hno' hσ3 hl2
          exact o6.grow (o5.ok.updD hD4.2.1 hD4.2.2 _) (Same.refl _) fun _ _ _ _ e => e
        · exact (RpL.mono fr24.f _ _ ra).append (.one ry)
        · rw [hys, List.append_assoc]
          rfl
        · exact noOwn_rest (by rw [← o'.len, ← o5.len, hl2]) hno'
      · rename_i e3 hmt
        refine ht β g2 ea σ2 false e3 _ o3 hmt fun g3 b fr3 o4 eb => ?_
        have eb : false = b := eb
        subst eb
        have hD4 := fr3.u Dl _ hD2.1 hD2.2.1 hD2.2.2
        have fr24 := fr2.trans fr3
        refine iteF ⟨g3, restE ei e3 vs, av, ad, rs, rfl, f'.trans fr24, o'.restore o4 fr24.f hno' hσ3 hl2, hD4.2.1, hD4.2.2, hD4.1, RpL.mono fr24.f _ _ ra, by omega, hco, hys, noOwn_rest (by rw [← o'.len, ← o4.len, hl2]) hno'⟩
    · have e : i = ds.length := by omega
      subst e
      rw [List.drop_length] at hco
      unfold compL at hco
      cases hco
      rw [List.append_nil] at hys
      subst hys
      refine .inl ⟨ws (Nat.le_refl _), ?_⟩
      have hne : ∀ j q, Owns env' σ j q → q ≠ Dl := fun j q hq z => by
        obtain ⟨w, hw⟩ := o'.own hq
        rw [z, n2] at hw
        cases hw
      refine k ⟨g'.f, upd g'.o Dl (.lst av), g'.h⟩ (.ref Dl) (f1.trans ⟨f'.f, fun b x h1 h2 h3 => ?_⟩) ?_ ⟨Dl, rfl, ⟨av, upd_same, ra⟩, hne⟩
      · obtain ⟨q1, q2, q3⟩ := f'.u b x h1 h2 h3
        refine ⟨q1, q2, ?_⟩
        show upd g'.o Dl (.lst av) b = none
        rw [upd_ne (ne_of_none h1 hD)]
        exact q3
      · refine o'.grow ⟨o'.ok.f, fun b x e => ?_, fun b x e => ?_⟩ (Same.refl _) fun j q hq y hy => ?_
        · by_cases hb : b = Dl
          · subst hb
            have e : upd g'.o b (.lst av) b = some x := e
            rw [upd_same] at e
            cases e
            exact hav
          · have e : upd g'.o Dl (.lst av) b = some x := e
            rw [upd_ne hb] at e
            exact o'.ok.o _ _ e
        · by_cases hb : b = Dl
          · rw [hb]
            exact n1
          · have e : upd g'.o Dl (.lst av) b = some x := e
            rw [upd_ne hb] at e
            exact o'.ok.d _ _ e
        · show upd g'.o Dl (.lst av) q = some y
          rw [upd_ne (hne j q hq)]
          exact hy
end
end DL

namespace DL
open PySem L2 RZ

section
variable {ct : Nat → Addr} {X : Cx} {elt tg iter : Expr} {ifs : List Expr} {scope : Scope} {own : List (Str × Nat)} {pos : Pos} {wi : TI} {gt : TG} {tt : TT} {te : TE} {mi : M (List D)} {gm : D → Env → Option Env} {mt : M Bool} {me : M D} {sl : List Nat}
/-- [elt for tg in iter if ..] -/
theorem ea_lc (hc : X.calm = true) (hN : X.N.Nodup) (own : List (Str × Nat)) (hi : IX ct X tg iter wi mi) (ok : BlkOk X.N X.env.scope scope own)
    (hg : ∀ (s : Shared) (H : Hp) (C : Addr) (cl : List (Str × Addr)) (fp : List Addr), GX ct (X.blk s H scope (compEnvC scope cl C X.env) fp) tg gt sl gm)
    (ht : ∀ (s : Shared) (H : Hp) (C : Addr) (cl : List (Str × Addr)) (fp : List Addr), TsX ct (X.blk s H scope (compEnvC scope cl C X.env) fp) ifs tt mt)
    (he : ∀ (s : Shared) (H : Hp) (C : Addr) (cl : List (Str × Addr)) (fp : List Addr), EX ct (X.blk s H scope (compEnvC scope cl C X.env) fp) elt te me)
    (hsl : sl.all (fun i => (own.map (·.2)).contains i) = true := by rfl) (hs : ∀ x, foldedSetIterable iter X.env x = pure x := by exact fun _ => rfl) :
    EA ct X (.ListComp elt [⟨tg, iter, ifs, 0⟩] scope pos) (tLc wi gt tt te (own.map (·.2))) (mLc mi gm mt me (own.map (·.2))) :=
  ⟨pe_lc hc hN hi.pe ok (fun s H C cl fp => (hg s H C cl fp).pe) (fun s H C cl fp => (ht s H C cl fp).pe) (fun s H C cl fp => (he s H C cl fp).pe) hs, by
    have z1 : Shared := {}
    exact j_lc (X := X) (ct := ct) rfl hi.ev (hg z1 (fun _ => none) 0 [] []).ev (ht z1 (fun _ => none) 0 [] []).ev (he z1 (fun _ => none) 0 [] []).ev fun i hi => by
      have := List.all_eq_true.mp hsl i hi
      simpa using this⟩
end

inductive Fl where
  | nx | bk | ct
  | rt (x : Ar)
def EndOk (c : Cn) (g : G) (env : Env) (σ : L2.St) (E : Ends) : Fl → Prop
  | .nx => E.nx σ g.h
  | .bk => E.bk σ g.h
  | .ct => E.ct σ g.h
  | .rt x => ∀ v, RA c g env σ x v → E.rt v g.h
def JS (c : Cn) (t : TS) (m : M Fl) : Prop := ∀ (β : List Addr) (g : G) (env : Env) (σ : L2.St) (fl : Fl) (env' : Env) (E : Ends), Ok c β g env σ → m env = some (fl, env') →
  (∀ g' σ', Fr g g' → Ok c β g' env' σ' → EndOk c g' env' σ' E fl) → t E σ g.h
structure SX (ct : Nat → Addr) (X : Cx) (st : Stmt) (t : TS) (m : M Fl) : Prop where
  pe : PS X st t
  ev : JS ⟨X.K, ct⟩ t m
structure SS (ct : Nat → Addr) (X : Cx) (sts : List Stmt) (t : TS) (m : M Fl) : Prop where
  pe : PSs X sts t
  ev : JS ⟨X.K, ct⟩ t m
def mSeq (m1 m2 : M Fl) : M Fl := fun e => match m1 e with
  | none => none
  | some (.nx, e1) => m2 e1
  | some (fl, e1) => some (fl, e1)
def mFrz (i : Nat) (m : M Fl) : M Fl := fun e => match Env.at e i with
  | some (.own (.lst ds)) => m (e.set i (some (.val (.lst ds))))
  | _ => m e
def mSet (i : Nat) (m : M D) : M Fl := M.bnd m fun d e => some (.nx, e.set i (some (.val d)))
def mSetA (i : Nat) (m : M Ar) : M Fl := M.bnd m fun x e => match x with
  | .v d => some (.nx, e.set i (some (.val d)))
  | .o o => some (.nx, e.set i (some (.own o)))
def mAsg (gm : D → Env → Option Env) (m : M D) : M Fl := M.bnd m fun d e => match gm d e with
  | some e1 => some (.nx, e1)
  | none => none
def mRet (m : M D) : M Fl := M.opt m fun d => some (.rt (.v d))
def mRetA (m : M Ar) : M Fl := M.opt m fun x => some (.rt x)
def mRetO (i : Nat) : M Fl := fun e => match Env.at e i with
  | some (.own o) => some (.rt (.o o), e.set i none)
  | _ => none
def mIfS (n : M Bool) (m1 m2 : M Fl) : M Fl := M.bnd n fun b => if b then m1 else m2
def mDrop {α : Type} (m : M α) : M Fl := M.opt m fun _ => some .nx
def mPar (i j : Nat) (m : M (List D)) : M Fl := M.bnd m fun ds e => match ds with
  | [a, b] => some (.nx, (e.set i (some (.val a))).set j (some (.val b)))
  | _ => none
def mAug (i : Nat) (f : Int → Int → Int) (m : M D) : M Fl := fun e => match Env.at e i with
  | some (.val (.int a)) => M.bnd m (fun d e1 => match d with
    | .int b => some (.nx, e1.set i (some (.val (.int (f a b)))))
    | _ => none) e
  | _ => none
def mApp (j : Nat) (m : M D) : M Fl := fun e => match ownL (Env.at e j) with
  | none => none
  | some _ => M.bnd m (fun d e1 => match ownL (Env.at e1 j) with
    | some ds => if ds.length < 100000 then some (.nx, putO e1 j (.lst (ds ++ [d]))) else none
    | none => none) e
def mSto (j : Nat) (mi : M D) (mv : M D) : M Fl := M.bnd mv fun d => fun e => match ownL (Env.at e j) with
  | none => none
  | some _ => M.bnd mi (fun i e1 => match ownL (Env.at e1 j), i with
    | some ds, .int z => match ixN ds.length z with
      | some n => some (.nx, putO e1 j (.lst (ds.set n d)))
      | none => none
    | _, _ => none) e
def forL (gm : D → Env → Option Env) (mb : M Fl) : List D → Env → Option (Fl × Env)
  | [], e => some (.nx, e)
  | d :: ds, e => match gm d e with
    | none => none
    | some e1 => match mb e1 with
      | none => none
      | some (.nx, e2) => forL gm mb ds e2
      | some (.ct, e2) => forL gm mb ds e2
      | some (.bk, e2) => some (.nx, e2)
      | some (.rt x, e2) => some (.rt x, e2)
def mFor (mi : M (List D)) (gm : D → Env → Option Env) (mb : M Fl) : M Fl := M.bnd mi fun ds e => forL gm mb ds e
def whL (n : M Bool) (mb : M Fl) : Nat → Env → Option (Fl × Env)
  | 0, _ => none
  | k + 1, e => match n e with
    | none => none
    | some (false, e1) => some (.nx, e1)
    | some (true, e1) => match mb e1 with
      | none => none
      | some (.nx, e2) => whL n mb k e2
      | some (.ct, e2) => whL n mb k e2
      | some (.bk, e2) => some (.nx, e2)
      | some (.rt x, e2) => some (.rt x, e2)
theorem Ok.frz {c : Cn} {β : List Addr} {g : G} {env : Env} {σ : L2.St} (ok : Ok c β g env σ) {i : Nat} {ds : List D} (h : Env.at env i = some (.own (.lst ds))) : ∃ g', g'.h = g.h ∧ Fr g g' ∧ Ok c β g' (env.set i (some (.val (.lst ds)))) σ := by
  have s := ok.sl i
  rw [h] at s
  obtain ⟨p, h1, vs, h2, h3⟩ := s
  have hO : Owns env σ i p := ⟨by rw [h]; rfl, h1⟩
  obtain ⟨k1, k2⟩ := fr_frz ok.ok h2
  refine ⟨⟨upd g.f p (.lst vs), cut g.o p, g.h⟩, rfl, k2, ?_⟩
  have hle : i < env.length := by
    rw [← ok.len]
    exact (List.getElem?_eq_some_iff.mp h1).1
  refine ⟨k1, by rw [List.length_set]; exact ok.len, fun j => ?_, fun j k q hj hk => ?_⟩
  · rw [at_set]
    by_cases hij : i = j ∧ j < env.length
    · rw [if_pos hij]
      obtain ⟨rfl, _⟩ := hij
      exact ⟨_, h1, p, vs, rfl, upd_same, RpL.mono k2.f _ _ h3⟩
    · rw [if_neg hij]
      refine SlotOk.grow (g := g) (g' := ⟨upd g.f p (.lst vs), cut g.o p, g.h⟩) k2.f (fun q hq hw x hx => ?_) (ok.sl j)
      show cut g.o p q = some x
      rw [cut_ne (fun z => hij ⟨ok.ap i j p hO ⟨hw, by rw [← z]; exact hq⟩, by rw [← ok.len]; exact (List.getElem?_eq_some_iff.mp hq).1⟩)]
      exact hx
  · have key : ∀ {j : Nat}, Owns (env.set i (some (.val (.lst ds)))) σ j q → Owns env σ j q := fun {j} ho => by
      obtain ⟨w1, w2⟩ := ho
      rw [at_set] at w1
      by_cases hij : i = j ∧ j < env.length
      · rw [if_pos hij] at w1
        cases w1
      · rw [if_neg hij] at w1
        exact ⟨w1, w2⟩
    exact ok.ap j k q (key hj) (key hk)
section
variable {ct : Nat → Addr} {X : Cx} {pos : Pos} {st : Stmt} {sts a b : List Stmt} {t u : TS} {m m2 : M Fl} {e : Expr} {te : TE} {tt : TT} {n : M Bool} {me : M D} {ma : M Ar}
theorem ss_nil : SS ct X [] tNext (M.ret .nx) := ⟨pss_nil, fun β g env σ fl env' E ok hm k => by
  cases hm
  exact k g σ (Fr.refl g) ok⟩
theorem ss_one (h : SX ct X st t m) : SS ct X [st] t m := ⟨pss_one h.pe, h.ev⟩
theorem ss_cons (h1 : SX ct X st t m) (h2 : SS ct X sts u m2) : SS ct X (st :: sts) (tSeq t u) (mSeq m m2) := ⟨pss_cons h1.pe h2.pe, fun β g env σ fl env' E ok hm k => by
  unfold mSeq at hm
  split at hm
  · cases hm
  · rename_i e1 hm1
    exact h1.ev β g env σ .nx e1 _ ok hm1 fun g1 σ1 f1 o1 => h2.ev β g1 e1 σ1 fl env' E o1 hm fun g2 σ2 f2 o2 => k g2 σ2 (f1.trans f2) o2
  · rename_i fl1 e1 hne hm1
    cases hm
    refine h1.ev β g env σ fl env' _ ok hm1 fun g1 σ1 f1 o1 => ?_
    have q := k g1 σ1 f1 o1
    cases fl with
    | nx => exact (hne rfl).elim
    | bk => exact q
    | ct => exact q
    | rt x => exact q⟩
/-- the list at slot i is frozen (nothing is run) -/
theorem ss_frz (i : Nat) (h : SS ct X sts t m) : SS ct X sts t (mFrz i m) := ⟨h.pe, fun β g env σ fl env' E ok hm k => by
  unfold mFrz at hm
  split at hm
  · rename_i ds hd
    obtain ⟨g', e, f, o⟩ := ok.frz hd
    rw [← e]
    exact h.ev β g' _ σ fl env' E o hm fun g2 σ2 f2 o2 => k g2 σ2 (f.trans f2) o2
  · exact h.ev β g env σ fl env' E ok hm k⟩
theorem js_set {c : Cn} (i : Nat) (h : J c (RV c) te me) : JS c (tAsg te (gName i)) (mSet i me) := fun β g env σ fl env' E ok hm k => by
  obtain ⟨d, e1, h1, h2⟩ := M.bnd_some hm
  cases h2
  exact h β g env σ d e1 _ ok h1 fun g1 v f1 o1 r1 => k g1 _ f1 (o1.set i r1)
theorem js_setA {c : Cn} (i : Nat) (h : J c (RA c) te ma) : JS c (tAsg te (gName i)) (mSetA i ma) := fun β g env σ fl env' E ok hm k => by
  obtain ⟨x, e1, h1, h2⟩ := M.bnd_some hm
  refine h β g env σ x e1 _ ok h1 fun g1 v f1 o1 r1 => ?_
  cases x with
  | v d =>
    cases h2
    exact k g1 _ f1 (o1.set i r1)
  | o o =>
    cases h2
    obtain ⟨p, rfl, r2, r3⟩ := r1
    exact k g1 _ f1 (o1.setO i r2 r3)
section
variable {i : Nat} {x : Str} {px : Pos}
theorem sx_set (i : Nat) {x : Str} {px : Pos} (hN : X.N.Nodup) (h : EX ct X e te me) (hi : X.N[i]? = some x := by rfl) (hx : Loc X.env.scope x := by first | exact Or.inl rfl | exact Or.inr rfl) (hs : swapsWith e (some (.Name x px)) pos.line X.env = pure false := by rfl) (hf : X.fn x = true ∨ X.env.scope.names.lookup x = some .local := by first | exact .inl rfl | exact .inr rfl) :
    SX ct X (.Assign [.Name x px] e pos) (tAsg te (gName i)) (mSet i me) := ⟨ps_set hN hi hx h.pe hs hf, js_set i h.ev⟩
theorem sx_setA (i : Nat) {x : Str} {px : Pos} (hN : X.N.Nodup) (h : EA ct X e te ma) (hi : X.N[i]? = some x := by rfl) (hx : Loc X.env.scope x := by first | exact Or.inl rfl | exact Or.inr rfl) (hs : swapsWith e (some (.Name x px)) pos.line X.env = pure false := by rfl) (hf : X.fn x = true ∨ X.env.scope.names.lookup x = some .local := by first | exact .inl rfl | exact .inr rfl) :
    SX ct X (.Assign [.Name x px] e pos) (tAsg te (gName i)) (mSetA i ma) := ⟨ps_set hN hi hx h.pe hs hf, js_setA i h.ev⟩
end
theorem sx_asg {tg : Expr} {gt : TG} {sl : List Nat} {gm : D → Env → Option Env} (h : EX ct X e te me) (hg : GX ct X tg gt sl gm) (hs : swapsWithSole [tg] e pos.line X.env = pure false := by rfl) (hw : swappedStores [tg] e X.env = pure none := by rfl)
    (h1 : (assignEach [tg] X.env).map (·.2) = [assign tg X.env] := by rfl) : SX ct X (.Assign [tg] e pos) (tAsg te gt) (mAsg gm me) := ⟨ps_asg h.pe hg.pe hs hw h1, fun β g env σ fl env' E ok hm k => by
  obtain ⟨d, e1, h1, h2⟩ := M.bnd_some hm
  split at h2
  · rename_i e2 hgm
    cases h2
    exact h.ev β g env σ d e1 _ ok h1 fun g1 v f1 o1 r1 => hg.ev β g1 e1 σ d v env' _ o1 r1 hgm fun σ' o2 _ _ => k g1 σ' f1 o2
  · cases h2⟩
theorem sx_par {i j : Nat} {x y : Str} {ea eb : Expr} {ta : TA} {na : M (List D)} {px py pt : Pos} {kt k2 pt2} (hc : X.calm = true) (hN : X.N.Nodup) (ha : AX ct X [ea, eb] ta na) (hi : X.N[i]? = some x := by rfl) (hj : X.N[j]? = some y := by rfl) (hij : i ≠ j := by decide)
    (hx : X.env.scope.names.lookup x = some .local := by rfl) (hy : X.env.scope.names.lookup y = some .local := by rfl)
    (hw : swappedStores [.Tuple [.Name x px, .Name y py] kt pt] (.Tuple [ea, eb] k2 pt2) X.env = pure (some [x, y]) := by rfl)
    (hs : swapsWithSole [.Tuple [.Name x px, .Name y py] kt pt] (.Tuple [ea, eb] k2 pt2) pos.line X.env = pure false := by rfl) :
    SX ct X (.Assign [.Tuple [.Name x px, .Name y py] kt pt] (.Tuple [ea, eb] k2 pt2) pos) (tPar i j ta) (mPar i j na) := ⟨ps_par hc hN hi hj hij hx hy ha.pe hw hs, fun β g env σ fl env' E ok hm k => by
  obtain ⟨ds, e1, h1, h2⟩ := M.bnd_some hm
  refine ha.ev β g env σ ds e1 _ ok h1 fun g1 vs f1 o1 r1 => ?_
  split at h2
  · cases h2
    obtain ⟨v, w, rfl, r2, r3⟩ := RpL.two' r1
    exact ⟨v, w, rfl, k g1 _ f1 ((o1.set i r2).set j r3)⟩
  · cases h2⟩
theorem sx_ret (h : EX ct X e te me) : SX ct X (.Return (some e) pos) (tRet te) (mRet me) := ⟨ps_ret h.pe, fun β g env σ fl env' E ok hm k => by
  obtain ⟨d, h1, h2⟩ := M.opt_some hm
  cases h2
  exact h.ev β g env σ d env' _ ok h1 fun g1 v f1 o1 r1 => k g1 σ f1 o1 v r1⟩
theorem sx_retA (h : EA ct X e te ma) : SX ct X (.Return (some e) pos) (tRet te) (mRetA ma) := ⟨ps_ret h.pe, fun β g env σ fl env' E ok hm k => by
  obtain ⟨x, h1, h2⟩ := M.opt_some hm
  cases h2
  exact h.ev β g env σ x env' _ ok h1 fun g1 v f1 o1 r1 => k g1 σ f1 o1 v r1⟩
theorem sx_retO (i : Nat) {x : Str} {px : Pos} (hN : X.N[i]? = some x := by rfl) (hv : Vis X.env.scope x := by first | exact Or.inl rfl | exact Or.inr (Or.inl rfl) | exact Or.inr (Or.inr rfl)) (hd : (x == ("__debug__" : Str)) = false := by decide)
    (hcd : (x == ("__classdict__" : Str)) = false := by decide) : SX ct X (.Return (some (.Name x px)) pos) (tRet (tVar i)) (mRetO i) := ⟨ps_ret (pe_var hN hv hd hcd), fun β g env σ fl env' E ok hm k => by
  unfold mRetO at hm
  split at hm
  · rename_i o ho
    cases hm
    have s := ok.sl i
    rw [ho] at s
    obtain ⟨p, h1, h2⟩ := s
    have o2 : Ok ⟨X.K, ct⟩ β g (env.set i none) σ := ok.weak (by rw [List.length_set]; exact ok.len) fun j => by
      rw [at_set]
      by_cases h : i = j ∧ j < env.length
      · rw [if_pos h]
        exact .inl rfl
      · rw [if_neg h]
        exact .inr ⟨rfl, rfl⟩
    refine ⟨_, h1, k g σ (Fr.refl g) o2 _ ⟨p, rfl, h2, fun j q hq z => ?_⟩⟩
    obtain ⟨w1, w2⟩ := hq
    rw [at_set] at w1
    by_cases h : i = j ∧ j < env.length
    · rw [if_pos h] at w1
      cases w1
    · rw [if_neg h] at w1
      subst z
      have hij := ok.ap i j q ⟨by rw [ho]; rfl, h1⟩ ⟨w1, w2⟩
      refine h ⟨hij, ?_⟩
      rw [← ok.len]
      exact (List.getElem?_eq_some_iff.mp w2).1
  · cases hm⟩
theorem sx_retN : SX ct X (.Return none pos) tRetN (M.ret (.rt (.v .non))) := ⟨ps_retN, fun β g env σ fl env' E ok hm k => by
  cases hm
  exact k g σ (Fr.refl g) ok .non rfl⟩
theorem sx_if {c : Expr} (hc : TX ct X c tt n) (ha : SS ct X a t m) (hb : SS ct X b u m2) : SX ct X (.If c a b pos) (tIfS tt t u) (mIfS n m m2) := ⟨ps_if hc.pe ha.pe hb.pe, fun β g env σ fl env' E ok hm k => by
  obtain ⟨d, e1, h1, h2⟩ := M.bnd_some hm
  refine hc.ev β g env σ d e1 _ ok h1 fun g1 v f1 o1 r1 => ?_
  have r1 : d = v := r1
  subst r1
  cases d with
  | true => exact iteT (ha.ev β g1 e1 σ fl env' E o1 h2 fun g2 σ2 f2 o2 => k g2 σ2 (f1.trans f2) o2)
  | false => exact iteF (hb.ev β g1 e1 σ fl env' E o1 h2 fun g2 σ2 f2 o2 => k g2 σ2 (f1.trans f2) o2)⟩
theorem sx_expr (h : EA ct X e te ma) (hs : swapsWith e none pos.line X.env = pure false := by rfl) : SX ct X (.Expr e pos) (tDrop te) (mDrop ma) := ⟨ps_expr h.pe hs, fun β g env σ fl env' E ok hm k => by
  obtain ⟨x, h1, h2⟩ := M.opt_some hm
  cases h2
  exact h.ev β g env σ x env' _ ok h1 fun g1 v f1 o1 r1 => k g1 σ f1 o1⟩
theorem sx_pass : SX ct X (.Pass pos) tNext (M.ret .nx) := ⟨ps_pass, fun β g env σ fl env' E ok hm k => by
  cases hm
  exact k g σ (Fr.refl g) ok⟩
theorem sx_break : SX ct X (.Break pos) tBreak (M.ret .bk) := ⟨ps_break, fun β g env σ fl env' E ok hm k => by
  cases hm
  exact k g σ (Fr.refl g) ok⟩
theorem sx_cont : SX ct X (.Continue pos) tCont (M.ret .ct) := ⟨ps_continue, fun β g env σ fl env' E ok hm k => by
  cases hm
  exact k g σ (Fr.refl g) ok⟩
theorem sx_aug (i : Nat) {x : Str} {px : Pos} {op : Operator} {f : Int → Int → Int} (hN : X.N.Nodup) (h : EX ct X e te me) (ho : PIp X op (ipI f)) (hi : X.N[i]? = some x := by rfl) (hx : Loc X.env.scope x := by first | exact Or.inl rfl | exact Or.inr rfl) (hf : X.fn x = true ∨ X.env.scope.names.lookup x = some .local := by first | exact .inl rfl | exact .inr rfl) :
    SX ct X (.AugAssign (.Name x px) op e pos) (tAug i te (ipI f)) (mAug i f me) := ⟨ps_aug hN hi hx h.pe ho hf, fun β g env σ fl env' E ok hm k => by
  unfold mAug at hm
  split at hm
  · rename_i z hz
    obtain ⟨d, e1, h1, h2⟩ := M.bnd_some hm
    have s := ok.sl i
    rw [hz] at s
    obtain ⟨v, hv, rfl⟩ := s
    refine ⟨_, hv, h.ev β g env σ d e1 _ ok h1 fun g1 v f1 o1 r1 => ?_⟩
    split at h2
    · cases h2
      cases r1
      exact ⟨_, _, rfl, rfl, k g1 _ f1 (o1.set i rfl)⟩
    · cases h2
  · cases hm⟩
/-- xs.append(e), xs a list of one's own -/
theorem sx_append (j : Nat) {x : Str} {px pa pp : Pos} (h : EX ct X e te me) (hN : X.N[j]? = some x := by rfl) (hv : Vis X.env.scope x := by first | exact Or.inl rfl | exact Or.inr (Or.inl rfl) | exact Or.inr (Or.inr rfl)) (hd : (x == ("__debug__" : Str)) = false := by decide)
    (hcd : (x == ("__classdict__" : Str)) = false := by decide) (hp : PE X (.Call (.Attribute (.Name x px) "append" pa) [e] [] pp) (tBM X.K "list" rAppend (tVar j) (tCons te tNil))) (hs : swapsWith (.Call (.Attribute (.Name x px) "append" pa) [e] [] pp) none pos.line X.env = pure false := by rfl) :
    SX ct X (.Expr (.Call (.Attribute (.Name x px) "append" pa) [e] [] pp) pos) (tDrop (tBM X.K "list" rAppend (tVar j) (tCons te tNil))) (mApp j me) := ⟨ps_expr hp hs, fun β g env σ fl env' E ok hm k => by
  unfold mApp at hm
  split at hm
  · cases hm
  · rename_i ds0 hds
    obtain ⟨p, vs0, hp, hx0, _⟩ := ok.ownL hds
    obtain ⟨d, e1, h1, hm⟩ := M.bnd_some hm
    refine ⟨.ref p, hp, .inl ⟨rfl, vs0, .inl (.inl (ok.ok.o _ _ hx0))⟩, h.ev β g env σ d e1 _ ok h1 fun g1 w f1 o1 r1 => ?_⟩
    split at hm
    · rename_i ds hds1
      split at hm
      · rename_i hz
        cases hm
        obtain ⟨p', vs, hp', hx, hr, hO⟩ := o1.ownL hds1
        rw [hp] at hp'
        cases hp'
        obtain ⟨m1, m2⟩ := o1.mut hO (y := .lst (vs ++ [w])) (o := .lst (ds ++ [d])) ⟨_, rfl, hr.append (.one r1)⟩
        exact ⟨p, vs, w, rfl, rfl, o1.ok.o _ _ hx, Nat.lt_of_lt_of_le (by rw [hr.len]; exact hz) (by decide : 100000 ≤ sizeLine), k _ σ (f1.trans m1) m2⟩
      · cases hm
    · cases hm⟩
/-- xs[i] = e -/
theorem sx_sto (j : Nat) {x : Str} {px ps : Pos} {ei : Expr} {ti : TE} {mi : M D} (h : EX ct X e te me) (hi : EX ct X ei ti mi) (hp : PS X (.Assign [.Subscript (.Name x px) ei ps] e pos) (tAsg te (gSub (tVar j) ti rSetL))) :
    SX ct X (.Assign [.Subscript (.Name x px) ei ps] e pos) (tAsg te (gSub (tVar j) ti rSetL)) (mSto j mi me) := ⟨hp, fun β g env σ fl env' E ok hm k => by
  obtain ⟨d, e1, h1, hm⟩ := M.bnd_some hm
  refine h.ev β g env σ d e1 _ ok h1 fun g1 w f1 o1 r1 => ?_
  split at hm
  · cases hm
  · rename_i ds0 hds
    obtain ⟨p, vs0, hp, hx0, _⟩ := o1.ownL hds
    obtain ⟨i, e2, h2, hm⟩ := M.bnd_some hm
    refine ⟨.ref p, hp, hi.ev β g1 e1 σ i e2 _ o1 h2 fun g2 z f2 o2 r2 => ?_⟩
    split at hm
    · rename_i ds zz hds1
      split at hm
      · rename_i n hn
        cases hm
        cases r2
        obtain ⟨p', vs, hp', hx, hr, hO⟩ := o2.ownL hds1
        rw [hp] at hp'
        cases hp'
        obtain ⟨m1, m2⟩ := o2.mut hO (y := .lst (vs.set n w)) (o := .lst (ds.set n d)) ⟨_, rfl, hr.set n (Rp.mono f2.f _ _ r1)⟩
        exact ⟨p, vs, zz, n, rfl, rfl, o2.ok.o _ _ hx, by rw [hr.len]; exact hn, k _ σ ((f1.trans f2).trans m1) m2⟩
      · cases hm
    · cases hm⟩
/-- for -/
theorem sx_for {tg iter : Expr} {body : List Stmt} {wi : TI} {gt : TG} {sl : List Nat} {tb : TS} {mi : M (List D)} {gm : D → Env → Option Env} {mb : M Fl} (hp : PassesOwn (model X.prog X.w) X.A X.env X.xe) (hc : X.calm = true) (hi : IX ct X tg iter wi mi) (hg : GX ct X tg gt sl gm) (hb : SS ct X body tb mb)
    (hs : ∀ x, foldedSetIterable iter X.env x = pure x := by exact fun _ => rfl) : SX ct X (.For tg iter body [] pos) (tFor wi gt tb) (mFor mi gm mb) := ⟨ps_for hp hc hi.pe hg.pe hb.pe hs, fun β g env σ fl env' E ok hm k => by
  obtain ⟨ds, e1, h1, hm⟩ := M.bnd_some hm
  refine hi.ev β g env σ ds e1 _ ok h1 fun g1 I f1 o1 w1 => ?_
  refine ⟨fun i m σ' H' => m = ds.length - i ∧ i ≤ ds.length ∧ ∃ (g' : G) (ei : Env), g'.h = H' ∧ Fr g1 g' ∧ Ok ⟨X.K, ct⟩ β g' ei σ' ∧ forL gm mb (ds.drop i) ei = some (fl, env'), ⟨ds.length, by omega, by omega, g1, e1, rfl, Fr.refl g1, o1, hm⟩, ?_⟩
  rintro i m σ' H' ⟨rfl, hle, g', ei, rfl, f', o', hco⟩
  obtain ⟨wg, ws⟩ := w1 g' i o'.ok f'.f
  by_cases hlt : i < ds.length
  · obtain ⟨d, hd⟩ : ∃ d, ds[i]? = some d := ⟨ds[i], List.getElem?_eq_getElem hlt⟩
    have hdrop : ds.drop i = d :: ds.drop (i + 1) := by
      rw [List.drop_eq_getElem_cons hlt]
      rw [List.getElem?_eq_getElem hlt] at hd
      rw [Option.some.inj hd]
    rw [hdrop] at hco
    unfold forL at hco
    split at hco
    · cases hco
    rename_i ea hga
    obtain ⟨hgo, hy⟩ := wg d hd
    refine .inr ⟨hgo, fun σ2 H2 => ∃ (g' : G) (ei : Env), g'.h = H2 ∧ Fr g1 g' ∧ Ok ⟨X.K, ct⟩ β g' ei σ2 ∧ forL gm mb (ds.drop (i + 1)) ei = some (fl, env'), fun σ2 H2 hN => ⟨ds.length - (i + 1), by omega, rfl, by omega, hN⟩, fun xv H2 hyl => ?_⟩
    obtain ⟨g2, fr2, k2, rfl, eo2, rx⟩ := hy xv H2 hyl
    have o2 : Ok ⟨X.K, ct⟩ β g2 ei σ' := o'.grow k2 fr2.f fun _ _ _ y e => by rw [eo2]; exact e
    refine hg.ev β g2 ei σ' d xv ea _ o2 rx hga fun σ2 o3 _ _ => ?_
    split at hco
    · cases hco
    · rename_i e2 hmb
      exact hb.ev β g2 ea σ2 .nx e2 _ o3 hmb fun g3 σ3 f3 o4 => ⟨g3, e2, rfl, f'.trans (fr2.trans f3), o4, hco⟩
    · rename_i e2 hmb
      exact hb.ev β g2 ea σ2 .ct e2 _ o3 hmb fun g3 σ3 f3 o4 => ⟨g3, e2, rfl, f'.trans (fr2.trans f3), o4, hco⟩
    · rename_i e2 hmb
      cases hco
      exact hb.ev β g2 ea σ2 .bk env' _ o3 hmb fun g3 σ3 f3 o4 => k g3 σ3 (f1.trans (f'.trans (fr2.trans f3))) o4
    · rename_i x e2 hmb
      cases hco
      exact hb.ev β g2 ea σ2 (.rt x) env' _ o3 hmb fun g3 σ3 f3 o4 => k g3 σ3 (f1.trans (f'.trans (fr2.trans f3))) o4
  · have e : i = ds.length := by omega
    subst e
    rw [List.drop_length] at hco
    unfold forL at hco
    cases hco
    exact .inl ⟨ws (Nat.le_refl _), k g' σ' (f1.trans f') o'⟩⟩
/-- while, by turns left -/
theorem sx_while (N : Nat) {c : Expr} {body : List Stmt} {tb : TS} {mb : M Fl} (hp : PassesOwn (model X.prog X.w) X.A X.env X.xe) (hc : TX ct X c tt n) (hb : SS ct X body tb mb) : SX ct X (.While c body [] pos) (tWhile tt tb) (whL n mb N) := ⟨ps_while hp hc.pe hb.pe, fun β g env σ fl env' E ok hm k => by
  refine ⟨fun m σ' H' => ∃ (g' : G) (ei : Env), g'.h = H' ∧ Fr g g' ∧ Ok ⟨X.K, ct⟩ β g' ei σ' ∧ whL n mb m ei = some (fl, env'), ⟨N, g, env, rfl, Fr.refl g, ok, hm⟩, ?_⟩
  rintro m σ' H' ⟨g', ei, rfl, f', o', hco⟩
  cases m with
  | zero => cases hco
  | succ m =>
    unfold whL at hco
    split at hco
    · cases hco
    · rename_i e1 hn
      cases hco
      refine hc.ev β g' ei σ' false env' _ o' hn fun g1 v f1 o1 r1 => ?_
      have r1 : false = v := r1
      subst r1
      exact k g1 σ' (f'.trans f1) o1
    · rename_i e1 hn
      refine hc.ev β g' ei σ' true e1 _ o' hn fun g1 v f1 o1 r1 => ?_
      have r1 : true = v := r1
      subst r1
      refine ⟨fun σ2 H2 => ∃ (g' : G) (ei : Env), g'.h = H2 ∧ Fr g g' ∧ Ok ⟨X.K, ct⟩ β g' ei σ2 ∧ whL n mb m ei = some (fl, env'), fun σ2 H2 hN => ⟨m, by omega, hN⟩, ?_⟩
      split at hco
      · cases hco
      · rename_i e2 hmb
        exact hb.ev β g1 e1 σ' .nx e2 _ o1 hmb fun g3 σ3 f3 o4 => ⟨g3, e2, rfl, f'.trans (f1.trans f3), o4, hco⟩
      · rename_i e2 hmb
        exact hb.ev β g1 e1 σ' .ct e2 _ o1 hmb fun g3 σ3 f3 o4 => ⟨g3, e2, rfl, f'.trans (f1.trans f3), o4, hco⟩
      · rename_i e2 hmb
        cases hco
        exact hb.ev β g1 e1 σ' .bk env' _ o1 hmb fun g3 σ3 f3 o4 => k g3 σ3 (f'.trans (f1.trans f3)) o4
      · rename_i x e2 hmb
        cases hco
        exact hb.ev β g1 e1 σ' (.rt x) env' _ o1 hmb fun g3 σ3 f3 o4 => k g3 σ3 (f'.trans (f1.trans f3)) o4⟩
theorem sx_appendP (j : Nat) {x : Str} {px pa pp : Pos} (h : EX ct X e te me) (hN : X.N[j]? = some x := by rfl) (hv : Vis X.env.scope x := by first | exact Or.inl rfl | exact Or.inr (Or.inl rfl) | exact Or.inr (Or.inr rfl)) (hd : (x == ("__debug__" : Str)) = false := by decide)
    (hcd : (x == ("__classdict__" : Str)) = false := by decide) (hbase : attributeBase (.Name x px) "append" X.env (eval (.Name x px) X.env) = eval (.Name x px) X.env := by rfl)
    (hfew : ((backTo pp (starEach [e] X.env)).all (fun x => !x.1) && (backToKw pp (keywordEach [] X.env)).all (fun x => x.1.isSome) && decide ([e].length + ([] : List Keyword).length + (if ([] : List Keyword).isEmpty then 0 else 1) < 30)) = true := by rfl)
    (hline : (pa.endLine == pp.line) = true := by rfl) (he : starEach [e] X.env = (false, eval e X.env) :: starEach [] X.env := by rfl) (hplain : (backTo pp (starEach [] X.env)).any (·.1) = false := by rfl)
    (hs : swapsWith (.Call (.Attribute (.Name x px) "append" pa) [e] [] pp) none pos.line X.env = pure false := by rfl) :
    SX ct X (.Expr (.Call (.Attribute (.Name x px) "append" pa) [e] [] pp) pos) (tDrop (tBM X.K "list" rAppend (tVar j) (tCons te tNil))) (mApp j me) :=
  sx_append j h hN hv hd hcd (pe_bm PySem.F.plainAttrs_list PySem.F.slot_list_append PySem.F.type_list_append mt_append (pe_var hN hv hd hcd) (pa_cons h.pe pa_nil he) hbase hfew hline he hplain) hs
theorem sx_stoP (j : Nat) {x : Str} {px ps : Pos} {ei : Expr} {ti : TE} {mi : M D} (h : EX ct X e te me) (hi : EX ct X ei ti mi) (hN : X.N[j]? = some x := by rfl) (hv : Vis X.env.scope x := by first | exact Or.inl rfl | exact Or.inr (Or.inl rfl) | exact Or.inr (Or.inr rfl)) (hd : (x == ("__debug__" : Str)) = false := by decide)
    (hcd : (x == ("__classdict__" : Str)) = false := by decide)
    (ha : ∀ v, assign (.Subscript (.Name x px) ei ps) X.env v = (do
      let ov ← holding [v] (eval (.Name x px) X.env)
      let iv ← holding [v, ov] (eval ei X.env)
      standAt ps
      holding [v, ov, iv] (setItem ov iv v)
      release [v, ov, iv] []) := by exact fun _ => rfl)
    (hs : swapsWithSole [.Subscript (.Name x px) ei ps] e pos.line X.env = pure false := by rfl) (hw : swappedStores [.Subscript (.Name x px) ei ps] e X.env = pure none := by rfl)
    (h1 : (assignEach [.Subscript (.Name x px) ei ps] X.env).map (·.2) = [assign (.Subscript (.Name x px) ei ps) X.env] := by rfl) :
    SX ct X (.Assign [.Subscript (.Name x px) ei ps] e pos) (tAsg te (gSub (tVar j) ti rSetL)) (mSto j mi me) :=
  sx_sto j h hi (ps_asg h.pe (pg_sub (pe_var hN hv hd hcd) hi.pe set_list ha) hs hw h1)
end
end DL

namespace DL
open PySem L2 RZ

abbrev FM := List Ar → Option (Ar × Option O)
def ArsOk (c : Cn) (f o : Hp) : List Ar → List V → Option Addr → Prop
  | [], vs, p => vs = [] ∧ p = none
  | .v d :: as, vs, p => ∃ v ws, vs = v :: ws ∧ Rp c f d v ∧ ArsOk c f o as ws p
  | .o x :: as, vs, p => ∃ q ws, vs = .ref q :: ws ∧ p = some q ∧ OkO c f (o q) x ∧ ArsOk c f o as ws none
def OsOk (c : Cn) (g : G) : Option Addr → Option O → Prop
  | none, none => True
  | some q, some x => OkO c g.f (g.o q) x
  | _, _ => False
def ResF (c : Cn) (g : G) (p : Option Addr) : Ar → V → Prop
  | .v d, v => Rp c g.f d v
  | .o x, v => ∃ q, v = .ref q ∧ p ≠ some q ∧ OkO c g.f (g.o q) x
def FnSp (c : Cn) (n : Nat) (F : FM) : Sp := fun vs H Q _ => ∃ (f o : Hp) (as : List Ar) (p : Option Addr) (r : Ar) (o' : Option O), vs.length = n ∧ F as = some (r, o') ∧ GOk ⟨f, o, H⟩ ∧ ArsOk c f o as vs p ∧
  ∀ g' v, Fr ⟨f, o, H⟩ g' → GOk g' → OsOk c g' p o' → ResF c g' p r v → Q v g'.h
theorem Ok.put {c : Cn} {β : List Addr} {g g' : G} {env : Env} {σ : L2.St} (ok : Ok c β g env σ) {j : Nat} {p : Addr} (ho : Owns env σ j p) (k1 : GOk g') (e : Same g.f g'.f) (hq : ∀ q y, q ≠ p → g.o q = some y → (∃ i, Owns env σ i q) → g'.o q = some y) {o : O} (r : OkO c g'.f (g'.o p) o) : Ok c β g' (putO env j o) σ := by
  obtain ⟨h1, h2⟩ := ho
  have hjl : j < env.length := by
    rw [← ok.len]
    exact (List.getElem?_eq_some_iff.mp h2).1
  have other : ∀ i, i ≠ j → SlotOk c β g σ[i]? (Env.at env i) → SlotOk c β g' σ[i]? (Env.at env i) := fun i hi hs => by
    refine SlotOk.grow (g := g) (g' := g') e (fun q hqq hw x hx => ?_) hs
    exact hq q x (fun z => hi (ok.ap i j p ⟨hw, by rw [← z]; exact hqq⟩ ⟨h1, h2⟩)) hx ⟨i, hw, hqq⟩
  unfold putO
  split
  · rename_i o0 he
    refine ⟨k1, by rw [List.length_set]; exact ok.len, fun i => ?_, fun i k q hi hk => ?_⟩
    · rw [at_set]
      by_cases h : j = i ∧ i < env.length
      · rw [if_pos h]
        obtain ⟨rfl, _⟩ := h
        exact ⟨p, h2, r⟩
      · rw [if_neg h]
        exact other i (fun z => h ⟨z.symm, by rw [z]; exact hjl⟩) (ok.sl i)
    · have key : ∀ {i : Nat}, Owns (env.set j (some (.own o))) σ i q → Owns env σ i q := fun {i} ho => by
        obtain ⟨w1, w2⟩ := ho
        rw [at_set] at w1
        by_cases h : j = i ∧ i < env.length
        · obtain ⟨rfl, _⟩ := h
          exact ⟨h1, w2⟩
        · rw [if_neg h] at w1
          exact ⟨w1, w2⟩
      exact ok.ap i k q (key hi) (key hk)
  · rename_i k0 o0 he
    have s := ok.sl j
    rw [he] at s
    obtain ⟨p', e1, e2, _⟩ := s
    rw [h2] at e1
    cases e1
    refine ⟨k1, by rw [List.length_set]; exact ok.len, fun i => ?_, fun i k q hi hk => ?_⟩
    · rw [at_set]
      by_cases h : j = i ∧ i < env.length
      · rw [if_pos h]
        obtain ⟨rfl, _⟩ := h
        exact ⟨p, h2, e2, r⟩
      · rw [if_neg h]
        exact other i (fun z => h ⟨z.symm, by rw [z]; exact hjl⟩) (ok.sl i)
    · have key : ∀ {i : Nat}, Owns (env.set j (some (.par k0 o))) σ i q → Owns env σ i q := fun {i} ho => by
        obtain ⟨w1, w2⟩ := ho
        rw [at_set] at w1
        by_cases h : j = i ∧ i < env.length
        · obtain ⟨rfl, _⟩ := h
          exact ⟨h1, w2⟩
        · rw [if_neg h] at w1
          exact ⟨w1, w2⟩
      exact ok.ap i k q (key hi) (key hk)
  · rename_i h3 h4
    exfalso
    unfold isOwn at h1
    split at h1
    · exact h3 _ (by assumption)
    · exact h4 _ _ (by assumption)
    · cases h1
inductive Ag where
  | v (d : D)
  | l (j : Nat)
  | t (o : O)
def AgsOk (c : Cn) (g : G) (env : Env) (σ : L2.St) : List Ag → List V → Prop
  | [], vs => vs = []
  | .v d :: as, vs => ∃ v ws, vs = v :: ws ∧ Rp c g.f d v ∧ AgsOk c g env σ as ws
  | .l j :: as, vs => ∃ p ws, vs = .ref p :: ws ∧ σ[j]? = some (some (.ref p)) ∧ AgsOk c g env σ as ws
  | .t o :: as, vs => ∃ p ws, vs = .ref p :: ws ∧ OkO c g.f (g.o p) o ∧ (∀ i q, Owns env σ i q → q ≠ p) ∧ AgsOk c g env σ as ws
def RG (c : Cn) : Rel (List Ag) (List V) := fun g env σ as vs => AgsOk c g env σ as vs
structure AG (ct : Nat → Addr) (X : Cx) (es : List Expr) (t : TA) (m : M (List Ag)) : Prop where
  pe : PA X es t
  ev : J ⟨X.K, ct⟩ (RG ⟨X.K, ct⟩) t m
def oneO : Option C → Option O
  | some (.own o) => some o
  | some (.par _ o) => some o
  | _ => none
theorem Ok.oneO {c : Cn} {β : List Addr} {g : G} {env : Env} {σ : L2.St} (ok : Ok c β g env σ) {j : Nat} {o : O} {p : Addr} (h : oneO (Env.at env j) = some o) (hp : σ[j]? = some (some (.ref p))) : OkO c g.f (g.o p) o ∧ Owns env σ j p := by
  have s := ok.sl j
  unfold DL.oneO at h
  split at h
  · rename_i d hd
    cases h
    rw [hd] at s
    obtain ⟨q, h1, h2⟩ := s
    rw [hp] at h1
    cases h1
    exact ⟨h2, by rw [hd]; rfl, hp⟩
  · rename_i d hd
    cases h
    rw [hd] at s
    obtain ⟨q, h1, h0, h2⟩ := s
    rw [hp] at h1
    cases h1
    exact ⟨h2, by rw [hd]; rfl, hp⟩
  · cases h
def arsOf (e : Env) : List Ag → Option (List Ar)
  | [] => some []
  | .v d :: as => (arsOf e as).map fun r => .v d :: r
  | .l j :: as => match oneO (Env.at e j), arsOf e as with
    | some o, some r => some (.o o :: r)
    | _, _ => none
  | .t o :: as => (arsOf e as).map fun r => .o o :: r
def putA (e : Env) : List Ag → Option O → Option Env
  | [], none => some e
  | [], some _ => none
  | .v _ :: as, x => putA e as x
  | .l j :: as, some x => if as.all (fun a => match a with | .v _ => true | _ => false) then some (putO e j x) else none
  | .l _ :: _, none => none
  | .t _ :: as, some _ => if as.all (fun a => match a with | .v _ => true | _ => false) then some e else none
  | .t _ :: _, none => none
def mCallF (F : FM) (m : M (List Ag)) : M Ar := fun e => match m e with
  | none => none
  | some (as, e1) => match arsOf e1 as with
    | none => none
    | some ars => match F ars with
      | none => none
      | some (r, o') => match putA e1 as o' with
        | none => none
        | some e2 => some (r, e2)
def agNil : M (List Ag) := M.ret []
def agV (ma : M D) (mr : M (List Ag)) : M (List Ag) := M.bnd ma fun a => M.opt mr fun r => some (.v a :: r)
def agL (j : Nat) (mr : M (List Ag)) : M (List Ag) := fun e => match oneO (Env.at e j) with
  | some _ => M.opt mr (fun r => some (.l j :: r)) e
  | none => none
def agT (ma : M Ar) : M (List Ag) := M.opt ma fun a => match a with
  | .o o => some [.t o]
  | .v _ => none
section
variable {ct : Nat → Addr} {X : Cx} {pos : Pos} {a : Expr} {es : List Expr} {ta : TE} {t : TA} {ma : M D} {m : M (List Ag)} {na : M Ar}
theorem ag_nil : AG ct X [] tNil agNil := ⟨pa_nil, fun β g env σ a env' Q ok hm k => by
  cases hm
  exact k g [] (Fr.refl g) ok rfl⟩
theorem ag_v (ha : EX ct X a ta ma) (hr : AG ct X es t m) (hs : starEach (a :: es) X.env = (false, eval a X.env) :: starEach es X.env := by rfl) : AG ct X (a :: es) (tCons ta t) (agV ma m) := ⟨pa_cons ha.pe hr.pe hs, fun β g env σ x env' Q ok hm k => by
  obtain ⟨d1, e1, h1, hm⟩ := M.bnd_some hm
  obtain ⟨d2, h2, h3⟩ := M.opt_some hm
  cases h3
  refine ha.ev β g env σ d1 e1 _ ok h1 fun g1 v f1 o1 r1 => hr.ev β g1 e1 σ d2 env' _ o1 h2 fun g2 w f2 o2 r2 => ?_
  exact k g2 (v :: w) (f1.trans f2) o2 ⟨v, w, rfl, Rp.mono f2.f _ _ r1, r2⟩⟩
theorem ag_l (j : Nat) {x : Str} (hr : AG ct X es t m) (hN : X.N[j]? = some x := by rfl) (hv : Vis X.env.scope x := by first | exact Or.inl rfl | exact Or.inr (Or.inl rfl) | exact Or.inr (Or.inr rfl)) (hd : (x == ("__debug__" : Str)) = false := by decide)
    (hcd : (x == ("__classdict__" : Str)) = false := by decide) (hs : starEach (.Name x pos :: es) X.env = (false, eval (.Name x pos) X.env) :: starEach es X.env := by rfl) : AG ct X (.Name x pos :: es) (tCons (tVar j) t) (agL j m) := ⟨pa_cons (pe_var hN hv hd hcd) hr.pe hs, fun β g env σ x env' Q ok hm k => by
  unfold agL at hm
  split at hm
  · rename_i o ho
    obtain ⟨d2, h2, h3⟩ := M.opt_some hm
    cases h3
    have s := ok.sl j
    obtain ⟨p, hp⟩ : ∃ p, σ[j]? = some (some (.ref p)) := by
      unfold oneO at ho
      split at ho
      · rename_i d hd
        rw [hd] at s
        obtain ⟨p, h1, _⟩ := s
        exact ⟨p, h1⟩
      · rename_i d hd
        rw [hd] at s
        obtain ⟨p, h1, _⟩ := s
        exact ⟨p, h1⟩
      · cases ho
    exact ⟨.ref p, hp, hr.ev β g env σ d2 env' _ ok h2 fun g2 w f2 o2 r2 => k g2 _ f2 o2 ⟨p, w, rfl, hp, r2⟩⟩
  · cases hm⟩
theorem ag_t (ha : EA ct X a ta na) (hs : starEach [a] X.env = (false, eval a X.env) :: starEach [] X.env := by rfl) : AG ct X [a] (tCons ta tNil) (agT na) := ⟨pa_cons ha.pe pa_nil hs, fun β g env σ x env' Q ok hm k => by
  obtain ⟨d1, h1, h2⟩ := M.opt_some hm
  refine ha.ev β g env σ d1 env' _ ok h1 fun g1 v f1 o1 r1 => ?_
  cases d1 with
  | v d => cases h2
  | o o =>
    cases h2
    obtain ⟨p, rfl, r2, r3⟩ := r1
    exact k g1 _ f1 o1 ⟨p, [], rfl, r2, r3, rfl⟩⟩
/-- no object among the arguments -/
theorem ags_v {c : Cn} {g : G} {env : Env} {σ : L2.St} {o : Hp} : ∀ {as : List Ag} {vs : List V} {ars : List Ar}, as.all (fun a => match a with | .v _ => true | _ => false) = true → AgsOk c g env σ as vs → arsOf env as = some ars → ArsOk c g.f o ars vs none
  | [], vs, ars, _, h, e => by
    cases e
    exact ⟨h, rfl⟩
  | .v d :: as, vs, ars, ha, ⟨v, ws, h1, h2, h3⟩, e => by
    unfold arsOf at e
    obtain ⟨r, e1, e2⟩ := Option.map_eq_some_iff.mp e
    subst e2
    exact ⟨v, ws, h1, h2, ags_v (by simpa using ha) h3 e1⟩
  | .l _ :: _, _, _, ha, _, _ => by simp at ha
  | .t _ :: _, _, _, ha, _, _ => by simp at ha
/-- the lent object, by the arguments -/
inductive Lent (env : Env) (σ : L2.St) : Option Addr → Option O → Env → Prop where
  | no : Lent env σ none none env
  | slot {j : Nat} {p : Addr} {x : O} (h : Owns env σ j p) : Lent env σ (some p) (some x) (putO env j x)
  | tmp {p : Addr} {x : O} (h : ∀ i q, Owns env σ i q → q ≠ p) : Lent env σ (some p) (some x) env
theorem ags_lent {c : Cn} {β : List Addr} {g : G} {env e2 : Env} {σ : L2.St} {x : Option O} (ok : Ok c β g env σ) : ∀ {as : List Ag} {vs : List V} {ars : List Ar}, AgsOk c g env σ as vs → arsOf env as = some ars → putA env as x = some e2 →
    ∃ p, (∀ q, p = some q → ∃ y, g.o q = some y) ∧ Lent env σ p x e2 ∧ ∀ o : Hp, (∀ q, p = some q → o q = g.o q) → ArsOk c g.f o ars vs p
  | [], vs, ars, h, e, hp => by
    cases e
    cases x with
    | some x => cases hp
    | none =>
      cases hp
      exact ⟨none, fun q z => (by cases z), .no, fun o _ => ⟨h, rfl⟩⟩
  | .v d :: as, vs, ars, ⟨v, ws, h1, h2, h3⟩, e, hp => by
    unfold arsOf at e
    obtain ⟨r, e1, e2⟩ := Option.map_eq_some_iff.mp e
    subst e2
    obtain ⟨p, q1, q2, q3⟩ := ags_lent ok h3 e1 (by unfold putA at hp; exact hp)
    exact ⟨p, q1, q2, fun o ho => ⟨v, ws, h1, h2, q3 o ho⟩⟩
  | .l j :: as, vs, ars, ⟨p, ws, h1, h2, h3⟩, e, hp => by
    unfold arsOf at e
    split at e
    · rename_i o r ho hr
      cases e
      obtain ⟨k1, k2⟩ := ok.oneO ho h2
      cases x with
      | none => cases hp
      | some x =>
        unfold putA at hp
        split at hp
        · rename_i hall
          cases hp
          exact ⟨some p, fun q z => (by
            cases z
            exact k1.some), .slot k2, fun o' ho' => ⟨p, ws, h1, rfl, by rw [ho' p rfl]; exact k1, ags_v hall h3 hr⟩⟩
        · cases hp
    · cases e
  | .t o :: as, vs, ars, ⟨p, ws, h1, h2, h4, h3⟩, e, hp => by
    unfold arsOf at e
    obtain ⟨r, e1, e2⟩ := Option.map_eq_some_iff.mp e
    subst e2
    cases x with
    | none => cases hp
    | some x =>
      unfold putA at hp
      split at hp
      · rename_i hall
        cases hp
        exact ⟨some p, fun q z => (by
          cases z
          exact h2.some), .tmp h4, fun o' ho' => ⟨p, ws, h1, rfl, by rw [ho' p rfl]; exact h2, ags_v hall h3 e1⟩⟩
      · cases hp
/-- behind a call -/
theorem j_call {c : Cn} {n : Nat} {F : FM} {E : XK} (ha : J c (RG c) t m) (hlen : ∀ ars r, F ars = some r → ars.length = n) : J c (RA c) (tCall (FnSp c n F) [] E t) (mCallF F m) := fun β g env σ x env' Q ok hm k => by
  unfold mCallF at hm
  split at hm
  · cases hm
  rename_i as e1 hmm
  split at hm
  · cases hm
  rename_i ars har
  split at hm
  · cases hm
  rename_i r o' hF
  split at hm
  · cases hm
  rename_i e2 hput
  cases hm
  refine ha β g env σ as e1 _ ok hmm fun g1 vs f1 o1 r1 => ?_
  obtain ⟨p, q1, q2, q3⟩ := ags_lent o1 r1 har hput
  -- what the callee is lent
  have hoc : ∃ oc : Hp, (∀ b, oc b = if p = some b then g1.o b else none) := ⟨fun b => if p = some b then g1.o b else none, fun b => rfl⟩
  obtain ⟨oc, hoc⟩ := hoc
  have kc : GOk ⟨g1.f, oc, g1.h⟩ := ⟨o1.ok.f, fun b y e => (by
    have e : oc b = some y := e
    rw [hoc b] at e
    split at e
    · exact o1.ok.o _ _ e
    · cases e), fun b y e => (by
    have e : oc b = some y := e
    rw [hoc b] at e
    split at e
    · exact o1.ok.d _ _ e
    · cases e)⟩
  have hars := q3 oc fun q hq => by rw [hoc q, if_pos hq]
  have lenV : ∀ {ars : List Ar} {vs : List V} {p : Option Addr}, ArsOk c g1.f oc ars vs p → vs.length = ars.length := by
    intro ars
    induction ars with
    | nil =>
      intro vs p h
      rw [h.1]
      rfl
    | cons a ars ih =>
      intro vs p h
      cases a with
      | v d =>
        obtain ⟨v, ws, rfl, _, h3⟩ := h
        rw [List.length_cons, List.length_cons, ih h3]
      | o d =>
        obtain ⟨v, ws, rfl, _, _, h3⟩ := h
        rw [List.length_cons, List.length_cons, ih h3]
  refine ⟨g1.f, oc, ars, p, x, o', ?_, hF, kc, by rw [List.append_nil]; exact hars, fun g' v f' k' os rs => ?_⟩
  · rw [List.append_nil, lenV hars, hlen _ _ hF]
  -- the caller's heaps behind the call
  have unk : ∀ b y, g1.o b = some y → p ≠ some b → g'.h b = some y ∧ g'.f b = none ∧ g'.o b = none := fun b y hb hp =>
    f'.u b y (o1.ok.o _ _ hb) (o1.ok.d _ _ hb) (by show oc b = none; rw [hoc b, if_neg hp])
  have hoo : ∃ oo : Hp, ∀ b, oo b = match g'.o b with
    | some y => some y
    | none => if p = some b then none else g1.o b := ⟨fun b => match g'.o b with
    | some y => some y
    | none => if p = some b then none else g1.o b, fun b => rfl⟩
  obtain ⟨oo, hoo⟩ := hoo
  have oo1 : ∀ b y, g'.o b = some y → oo b = some y := fun b y e => by rw [hoo b, e]
  have oo2 : ∀ b y, g1.o b = some y → p ≠ some b → oo b = some y := fun b y e hp => by
    rw [hoo b, (unk b y e hp).2.2]
    show (if p = some b then none else g1.o b) = some y
    rw [if_neg hp, e]
  have oo3 : ∀ b y, oo b = some y → g'.o b = some y ∨ (g1.o b = some y ∧ p ≠ some b) := fun b y e => by
    rw [hoo b] at e
    split at e
    · rename_i z hz
      cases e
      exact .inl hz
    · split at e
      · cases e
      · rename_i hp
        exact .inr ⟨e, hp⟩
  have kk : GOk ⟨g'.f, oo, g'.h⟩ := ⟨k'.f, fun b y e => (by
    rcases oo3 b y e with h | ⟨h, hp⟩
    · exact k'.o _ _ h
    · exact (unk b y h hp).1), fun b y e => (by
    rcases oo3 b y e with h | ⟨h, hp⟩
    · exact k'.d _ _ h
    · exact (unk b y h hp).2.1)⟩
  have ff : Fr g1 ⟨g'.f, oo, g'.h⟩ := ⟨f'.f, fun b y h1 h2 h3 => by
    obtain ⟨w1, w2, w3⟩ := f'.u b y h1 h2 (by
      show oc b = none
      rw [hoc b, h3]
      split <;> rfl)
    refine ⟨w1, w2, ?_⟩
    show oo b = none
    rw [hoo b, w3]
    show (if p = some b then none else g1.o b) = none
    rw [h3]
    split <;> rfl⟩
  have res : ∀ e2, (∀ i q, Owns e2 σ i q → Owns e1 σ i q) → RA c ⟨g'.f, oo, g'.h⟩ e2 σ x v := fun e2 hsub => by
    cases x with
    | v d => exact rs
    | o xx =>
      obtain ⟨q, rfl, hq, hO⟩ := rs
      obtain ⟨y, hy⟩ := hO.some
      refine ⟨q, rfl, by rw [show (G.mk g'.f oo g'.h).o q = some y from oo1 q y hy, ← hy]; exact hO, fun i q' hq' z => ?_⟩
      subst z
      obtain ⟨w, hw⟩ := o1.own (hsub i q' hq')
      rw [(unk q' w hw hq).2.2] at hy
      cases hy
  cases q2 with
  | no =>
    refine k ⟨g'.f, oo, g'.h⟩ v (f1.trans ff) (o1.grow kk ff.f fun i q hq y hy => oo2 q y hy (fun z => by cases z)) (res _ fun _ _ h => h)
  | @slot j q xx hO =>
    obtain ⟨y, hy⟩ := (show OkO c g'.f (g'.o q) xx from os).some
    have ok2 := o1.put hO kk ff.f (fun b w hb hw _ => oo2 b w hw fun z => hb (Option.some.inj z).symm) (o := xx) (by
      show OkO c g'.f (oo q) xx
      rw [oo1 q y hy, ← hy]
      exact os)
    refine k ⟨g'.f, oo, g'.h⟩ v (f1.trans ff) ok2 (res _ fun i b hb => ?_)
    obtain ⟨w1, w2⟩ := hb
    refine ⟨?_, w2⟩
    unfold putO at w1
    split at w1
    · rename_i o0 he
      rw [at_set] at w1
      by_cases h : j = i ∧ i < e1.length
      · obtain ⟨rfl, _⟩ := h
        rw [he]
        rfl
      · rw [if_neg h] at w1
        exact w1
    · rename_i k0 o0 he
      rw [at_set] at w1
      by_cases h : j = i ∧ i < e1.length
      · obtain ⟨rfl, _⟩ := h
        rw [he]
        rfl
      · rw [if_neg h] at w1
        exact w1
    · exact w1
  | @tmp q xx hO =>
    refine k ⟨g'.f, oo, g'.h⟩ v (f1.trans ff) (o1.grow kk ff.f fun i b hb y hy => oo2 b y hy fun z => hO i b hb (Option.some.inj z).symm) (res _ fun _ _ h => h)
end

section
variable {ct : Nat → Addr} {X : Cx} {pos p : Pos} {e : Expr} {es : List Expr} {t : TA} {m : M (List Ag)} {k n : Nat} {f : Addr} {fd : FuncData} {ps : List Str} {F : FM} {x : Str}
theorem ea_call {K : PySem.W.Frag} (Fn : FnOk X.prog X.w K X.mg X.base CX0 k f fd ps (FnSp ⟨K, ct⟩ n F)) (hr : Room k X.A) (hm : X.mg x = some (.ref f)) (hk : PySem.W.keepIn K (.ref f) = true) (hb : Binds K fd ps []) (hlen : ∀ ars r, F ars = some r → ars.length = n) (ha : AG ct X (e :: es) t m) (hg : Gl X x := by rfl)
    (hdb : (x == ("__debug__" : Str)) = false := by decide) (he : starEach (e :: es) X.env = (false, eval e X.env) :: starEach es X.env := by rfl) (hpl : (backTo pos (starEach es X.env)).any (·.1) = false := by rfl) (hK : X.K = K := by rfl) :
    EA ct X (.Call (.Name x p) (e :: es) [] pos) (tCall (FnSp ⟨K, ct⟩ n F) [] E0 t) (mCallF F m) := by
  subst hK
  exact ⟨pe_call Fn hr hg hm hk hb .nil pass0 ha.pe hdb he hpl, j_call ha.ev hlen⟩
theorem ea_call0 {K : PySem.W.Frag} (Fn : FnOk X.prog X.w K X.mg X.base CX0 k f fd ps (FnSp ⟨K, ct⟩ n F)) (hr : Room k X.A) (hm : X.mg x = some (.ref f)) (hk : PySem.W.keepIn K (.ref f) = true) (hb : Binds K fd ps []) (hlen : ∀ ars r, F ars = some r → ars.length = n) (hg : Gl X x := by rfl)
    (hdb : (x == ("__debug__" : Str)) = false := by decide) (hK : X.K = K := by rfl) :
    EA ct X (.Call (.Name x p) [] [] pos) (tCall (FnSp ⟨K, ct⟩ n F) [] E0 tNil) (mCallF F agNil) := by
  subst hK
  exact ⟨pe_call0 Fn hr hg hm hk hb .nil pass0 hdb, j_call ag_nil.ev hlen⟩
end
def entry : List Ar → Env
  | [] => []
  | .v d :: as => some (.val d) :: entry as
  | .o x :: as => some (.par 0 x) :: entry as
def ownIx : List Ar → Option Nat
  | [] => none
  | .v _ :: as => (ownIx as).map (· + 1)
  | .o _ :: _ => some 0
def finF (as : List Ar) (e : Env) (r : Ar) : Option (Ar × Option O) := match ownIx as with
  | none => some (r, none)
  | some i => match Env.at e i with
    | some (.par 0 x) => some (r, some x)
    | _ => none
def runF (n N : Nat) (body : M Fl) : FM := fun as => if as.length = n then match body (entry as ++ List.replicate (N - n) none) with
    | some (.nx, e) => finF as e (.v .non)
    | some (.rt r, e) => finF as e r
    | _ => none
  else none
theorem runF_len {n N : Nat} {body : M Fl} (as : List Ar) (r : Ar × Option O) (h : runF n N body as = some r) : as.length = n := by
  unfold runF at h
  split at h
  · assumption
  · cases h
theorem entry_len : ∀ as, (entry as).length = as.length
  | [] => rfl
  | .v _ :: as => by
    unfold entry
    rw [List.length_cons, List.length_cons, entry_len as]
  | .o _ :: as => by
    unfold entry
    rw [List.length_cons, List.length_cons, entry_len as]
theorem at_zero {x : Option C} {e : Env} : Env.at (x :: e) 0 = x := rfl
theorem at_succ {x : Option C} {e : Env} {i : Nat} : Env.at (x :: e) (i + 1) = Env.at e i := rfl
theorem at_rep {k i : Nat} : Env.at (List.replicate k none) i = none := by
  unfold Env.at
  rw [List.getElem?_replicate]
  split <;> rfl
section
variable {c : Cn} {f o H : Hp}
theorem entry_slot {β : List Addr} {k : Nat} : ∀ {as : List Ar} {vs : List V} {p : Option Addr}, ArsOk c f o as vs p → (∀ q, p = some q → β[0]? = some q) → ∀ i, SlotOk c β ⟨f, o, H⟩ (vs.map some ++ List.replicate k none)[i]? (Env.at (entry as ++ List.replicate k none) i)
  | [], vs, p, h, _, i => by
    have e1 : Env.at (entry [] ++ List.replicate k none) i = none := at_rep
    rw [e1]
    exact True.intro
  | .v d :: as, vs, p, ⟨v, ws, h1, h2, h3⟩, hβ, 0 => by
    subst h1
    exact ⟨v, rfl, h2⟩
  | .v d :: as, vs, p, ⟨v, ws, h1, h2, h3⟩, hβ, i + 1 => by
    subst h1
    exact entry_slot h3 hβ i
  | .o x :: as, vs, p, ⟨q, ws, h1, h2, h3, h4⟩, hβ, 0 => by
    subst h1
    exact ⟨q, rfl, hβ q h2, h3⟩
  | .o x :: as, vs, p, ⟨q, ws, h1, h2, h3, h4⟩, hβ, i + 1 => by
    subst h1
    exact entry_slot h4 (fun q z => by cases z) i
theorem entry_none {k : Nat} : ∀ {as : List Ar} {vs : List V}, ArsOk c f o as vs none → (∀ i, isOwn (Env.at (entry as ++ List.replicate k none) i) = false) ∧ ownIx as = none
  | [], vs, _ => ⟨fun i => by
    have e1 : Env.at (entry [] ++ List.replicate k none) i = none := at_rep
    rw [e1]
    rfl, rfl⟩
  | .v d :: as, vs, ⟨v, ws, h1, h2, h3⟩ => by
    obtain ⟨q1, q2⟩ := entry_none (k := k) h3
    refine ⟨fun i => ?_, ?_⟩
    · cases i with
      | zero => rfl
      | succ i => exact q1 i
    · unfold ownIx
      rw [q2]
      rfl
  | .o x :: as, vs, ⟨q, ws, h1, h2, h3, h4⟩ => by cases h2
theorem entry_own {k : Nat} : ∀ {as : List Ar} {vs : List V} {p : Option Addr}, ArsOk c f o as vs p → ∀ i, isOwn (Env.at (entry as ++ List.replicate k none) i) = true → ownIx as = some i
  | [], vs, p, _, i, h => by
    have e1 : Env.at (entry [] ++ List.replicate k none) i = none := at_rep
    rw [e1] at h
    cases h
  | .v d :: as, vs, p, ⟨v, ws, h1, h2, h3⟩, i, h => by
    cases i with
    | zero => cases h
    | succ i =>
      unfold ownIx
      rw [entry_own h3 i h]
      rfl
  | .o x :: as, vs, p, ⟨q, ws, h1, h2, h3, h4⟩, i, h => by
    cases i with
    | zero => rfl
    | succ i =>
      have := (entry_none (k := k) h4).1 i
      rw [show Env.at (entry (.o x :: as) ++ List.replicate k none) (i + 1) = Env.at (entry as ++ List.replicate k none) i from rfl, this] at h
      cases h
theorem arsOk_len : ∀ {as : List Ar} {vs : List V} {p : Option Addr}, ArsOk c f o as vs p → vs.length = as.length
  | [], vs, p, h => by
    rw [h.1]
    rfl
  | .v d :: as, vs, p, ⟨v, ws, h1, h2, h3⟩ => by rw [h1, List.length_cons, List.length_cons, arsOk_len h3]
  | .o x :: as, vs, p, ⟨q, ws, h1, h2, h3, h4⟩ => by rw [h1, List.length_cons, List.length_cons, arsOk_len h4]
theorem ownIx_some {i : Nat} : ∀ {as : List Ar} {vs : List V} {p : Option Addr}, ArsOk c f o as vs p → ownIx as = some i → ∃ q, p = some q
  | [], vs, p, h, e => by cases e
  | .v d :: as, vs, p, ⟨v, ws, h1, h2, h3⟩, e => by
    unfold ownIx at e
    obtain ⟨j, e1, e2⟩ := Option.map_eq_some_iff.mp e
    exact ownIx_some (i := j) h3 e1
  | .o x :: as, vs, p, ⟨q, ws, h1, h2, h3, h4⟩, e => ⟨q, h2⟩
theorem ownIx_none : ∀ {as : List Ar} {vs : List V} {p : Option Addr}, ArsOk c f o as vs p → ownIx as = none → p = none
  | [], vs, p, h, e => h.2
  | .v d :: as, vs, p, ⟨v, ws, h1, h2, h3⟩, e => by
    unfold ownIx at e
    exact ownIx_none h3 (Option.map_eq_none_iff.mp e)
  | .o x :: as, vs, p, ⟨q, ws, h1, h2, h3, h4⟩, e => by cases e
end
theorem fn_ok {P : Program} {w : World} {K : PySem.W.Frag} {mg : Str → Option Value} {base : Heap} {x qual : Str} {st : Stmt} {f : Addr} {fd : FuncData} {N ps : List Str} {k n : Nat} {ct : Nat → Addr} {m : M Fl}
    (F : Fun K x qual st f fd) (S : FnScope N ps (defScope st)) (hn : ps.length = n) (h : ∀ (cdv : Value) (A : Around) (outer : List PySem.Env) (s : Shared) (H : Hp) (E : XK), Room k (A.deeper (PyProof.Rows.envOfC qual (defScope st) s.heap.objs.size f cdv)) →
      ∃ t, SS ct (cxOf CX0 P w K mg base N qual (defScope st) f cdv A outer s H E).nox (defBody st) t m) : FnOk P w K mg base CX0 (k + 1) f fd ps (FnSp ⟨K, ct⟩ n (runF n N.length m)) := by
  refine F.ok S (fun vs H Q E h => ?_) (fun cdv A outer s H vs Q E hr hsp => ?_)
  · obtain ⟨_, _, _, _, _, _, h1, _⟩ := h
    rw [h1, hn]
  · obtain ⟨t, hs⟩ := h cdv A outer s H E hr
    refine ⟨t, hs.pe, ?_⟩
    obtain ⟨ff, o, as, p, r, o', hl, hF, kk, ha, post⟩ := hsp
    unfold runF at hF
    have hal : as.length = n := by rw [← arsOk_len ha, hl]
    rw [if_pos hal] at hF
    have hst : L2.start N vs = vs.map some ++ List.replicate (N.length - n) none := by
      unfold L2.start
      rw [hl]
    rw [hst]
    have ok : Ok ⟨K, ct⟩ p.toList ⟨ff, o, H⟩ (entry as ++ List.replicate (N.length - n) none) (vs.map some ++ List.replicate (N.length - n) none) := by
      refine ⟨kk, ?_, fun i => entry_slot ha (fun q z => by
        subst z
        rfl) i, fun i j q hi hj => ?_⟩
      · rw [List.length_append, List.length_append, List.length_map, List.length_replicate, List.length_replicate, entry_len, arsOk_len ha]
      · have e1 := entry_own ha i hi.1
        have e2 := entry_own ha j hj.1
        rw [e1] at e2
        exact Option.some.inj e2
    have fin : ∀ (g' : G) (σ' : L2.St) (env' : Env) (rr : Ar) (v : V), Fr ⟨ff, o, H⟩ g' → Ok ⟨K, ct⟩ p.toList g' env' σ' → finF as env' rr = some (r, o') → RA ⟨K, ct⟩ g' env' σ' rr v → Q v g'.h := by
      intro g' σ' env' rr v f' ok' hf hr'
      unfold finF at hf
      split at hf
      · rename_i hix
        cases hf
        have hp := ownIx_none ha hix
        subst hp
        refine post g' v f' ok'.ok True.intro ?_
        cases r with
        | v d => exact hr'
        | o x =>
          obtain ⟨q, e1, e2, _⟩ := hr'
          exact ⟨q, e1, (fun z => by cases z), e2⟩
      · rename_i i hix
        split at hf
        · rename_i x hat
          cases hf
          obtain ⟨q, hq⟩ := ownIx_some ha hix
          subst hq
          have s := ok'.sl i
          rw [hat] at s
          obtain ⟨q', e1, e2, e3⟩ := s
          have e4 : q = q' := by
            have e5 : (some q).toList[0]? = some q := rfl
            rw [e5] at e2
            exact Option.some.inj e2
          subst e4
          refine post g' v f' ok'.ok e3 ?_
          cases r with
          | v d => exact hr'
          | o x =>
            obtain ⟨z, w1, w2, w3⟩ := hr'
            refine ⟨z, w1, fun h => w3 i q ⟨by rw [hat]; rfl, e1⟩ (Option.some.inj h), w2⟩
        · cases hf
    cases hb : m (entry as ++ List.replicate (N.length - n) none) with
    | none =>
      simp only [hb] at hF
      cases hF
    | some y =>
      obtain ⟨fl, env'⟩ := y
      simp only [hb] at hF
      refine hs.ev p.toList ⟨ff, o, H⟩ _ _ fl env' _ ok hb fun g' σ' f' ok' => ?_
      cases fl with
      | nx => exact fin g' σ' env' (.v .non) .non f' ok' hF rfl
      | bk => cases hF
      | ct => cases hF
      | rt rr => exact fun v hv => fin g' σ' env' rr v f' ok' hF hv
/-- a def of no promise at all -/
theorem fn_zero {P : Program} {w : World} {K : PySem.W.Frag} {mg : Str → Option Value} {base : Heap} {f : Addr} {fd : FuncData} {ps : List Str} {k n : Nat} {ct : Nat → Addr} : FnOk P w K mg base CX0 k f fd ps (FnSp ⟨K, ct⟩ n fun _ => none) := by
  refine ⟨fun vs H Q E h => ?_, fun A outer s H args us vs Q E _ _ _ _ h => ?_⟩
  · obtain ⟨_, _, _, _, _, _, _, h2, _⟩ := h
    exact nomatch h2
  · obtain ⟨_, _, _, _, _, _, _, h2, _⟩ := h
    exact nomatch h2
end DL

namespace DLX
open PySem PySem.HandSPX PySem.Builtin PySem.Builtin.ObjectAttr
section
variable {M : Model} {A : Around} {E : Value → Shared → Prop} {hp : Heap} {gn : Array GenState} {dr : Drawn} {tk : Nat} {os : OsState}
variable {nm q : Str} {C N : Addr} {bs bm bmB : List Value} {hdct : Bool} {sn : List Str} {sub : List Value} {ab : Bool} {col : Option Bool} {dd : Option Addr} {k0 k1 k2 k3 k5 : Option Value} {B newId initId : String} {kw : List (Str × Value)}
/-- C.__new__(C, .., k = v, ..) is let through -/
theorem kx_check_new (F : ExcBaseFacts B newId initId bmB) (hT : ∀ Y : String, bm.contains (.type Y) = bmB.contains (.type Y)) {us : List Value} {Q : Unit → Shared → Prop} (hC : hp.get? C = some (excClassObj nm q C N bs bm hdct sn sub ab col dd k0 k1 k2 k3 k5 newId))
    (hq : Q () ⟨hp, gn, dr, tk, os⟩) : wpAny M A (checkBuiltinCall newId ⟨.ref C :: us, kw⟩) Q E ⟨hp, gn, dr, tk, os⟩ := by
  have hB : (Value.ref C :: bm).contains (.type B) = true := by rw [List.contains_cons, hT, F.hasB, Bool.or_true]
  have hs := F.noStar
  simp only [checkBuiltinCall, F.newKind, F.newSplit, F.newRow]
  repeat (first | refine wpAny_loadPart_at hC ?_ | (refine wpAny_isSubtype_exc hC ?_; rw [hB]) | refine wpAny_staticBase_exc hC ?_ | refine wpAny_madeBy_exc hC ?_ | simp only [bne_self_eq_false, Bool.false_eq_true, if_false] | wp_step)
  exact hq
end
section
variable {prog : Program} {w : World} {A : Around} {E : Value → Shared → Prop} {R : Result → Shared → Prop} {hp : Heap} {gn : Array GenState} {dr : Drawn} {tk : Nat} {os : OsState}
variable {nm q : Str} {C N : Addr} {bs bm bmB : List Value} {hdct : Bool} {sn : List Str} {sub : List Value} {ab : Bool} {col : Option Bool} {dd : Option Addr} {k0 k1 k2 k3 k5 : Option Value} {B newId initId : String} {kw : List (Str × Value)}
theorem kx_new (F : ExcBaseFacts B newId initId bmB) (hT : ∀ Y : String, bm.contains (.type Y) = bmB.contains (.type Y)) {us : List Value} (hC : hp.get? C = some (excClassObj nm q C N bs bm hdct sn sub ab col dd k0 k1 k2 k3 k5 newId))
    (hq : R (.ok (.ret (.ref (hp.objs.size + 1)))) ⟨(hp.push (W.kdv_tup us)).push (excO C hp.objs.size), gn, dr, tk, os⟩) (hz : us.length ≤ sizeLine) :
    codeAny (model prog w) A (.builtin newId ⟨.ref C :: us, kw⟩) R ⟨hp, gn, dr, tk, os⟩ := by
  have he := F.ends
  have hB : (Value.ref C :: bm).contains (.type B) = true := by rw [List.contains_cons, hT, F.hasB, Bool.or_true]
  have hA : (Value.ref C :: bm).contains (.type "AttributeError") = false := by rw [List.contains_cons, hT, F.noAttr]; rfl
  have hN : (Value.ref C :: bm).contains (.type "NameError") = false := by rw [List.contains_cons, hT, F.noName]; rfl
  refine codeAny_builtinAt F.entry ?_
  unfold Builtin.«BaseException.__new__»
  refine wpAt_bind ?_
  show wpAt _ _ _ (stack >>= _) _ _ _
  refine wpAt_bind (wpAt_stack fun p below => wpAt_of_wpAny ?_)
  wp_walk
  refine wpAt_of_wpAny ?_
  rw [F.owner]
  repeat (first | with_reducible refine wpAny_madeHere_exc F.canon hC ?_ | with_reducible refine wpAny_loadPart_at hC ?_ | (with_reducible refine wpAny_isSubtype_exc hC ?_; first | rw [hB] | rw [hA] | rw [hN]) | wp_step)
  show R _ _
  rw [Heap.size_push]
  exact hq
theorem kx_tcall (F : ExcBaseFacts B newId initId bmB) (hT : ∀ Y : String, bm.contains (.type Y) = bmB.contains (.type Y)) {us : List Value} {fI : Addr} {Q : Fin → Shared → Prop}
    (hC : hp.get? C = some (excClassObj nm q C N bs bm hdct sn sub ab col dd k0 k1 k2 k3 k5 newId)) (hi : W.Looks (model prog w) hp (typeLookup (.ref C) "__init__") (some (.ref fI)))
    (hb : ∀ self, W.Looks (model prog w) hp (bindSpecial (.ref fI) self) (.ref fI, [self])) (hz : us.length ≤ sizeLine)
    (hq : codeAny (model prog w) A (.call (.ref fI) ⟨.ref (hp.objs.size + 1) :: us, kw⟩) (fun r s' => match r with | .ok (.ret v) => v = .none ∧ Q (.done (.ret (.ref (hp.objs.size + 1)))) s' | .ok _ => False | .error e => E e s')
      ⟨(hp.push (W.kdv_tup us)).push (excO C hp.objs.size), gn, dr, tk, os⟩) :
    wpAny (model prog w) A (Builtin.«type.__call__» ⟨.ref C :: us, kw⟩) Q E ⟨hp, gn, dr, tk, os⟩ := by
  repeat (first | with_reducible refine wpAny_loadPart_at hC ?_ | with_reducible refine wpAny_madeBy_exc hC ?_ | wp_step)
  refine codeAny_call_builtin_code (Code.quiet_builtin _ F.quiet) (kx_check_new F hT hC ?_)
  refine kx_new F hT hC ?_ hz
  show wpAny _ _ _ _ _ _
  have kp : ∀ b o, hp.get? b = some o → ((hp.push (W.kdv_tup us)).push (excO C hp.objs.size)).get? b = some o := fun b o e => Heap.get?_push_of_some _ (Heap.get?_push_of_some _ e)
  have hC1 := kp _ _ hC
  have hx : ((hp.push (W.kdv_tup us)).push (excO C hp.objs.size)).get? (hp.objs.size + 1) = some (excO C hp.objs.size) := by heap_get
  have hCC : (Value.ref C :: bm).contains (.ref C) = true := by simp
  have i1 := hi.keeps kp
  have b1 := (hb (.ref (hp.objs.size + 1))).keeps kp
  unfold isInstance
  repeat (first | with_reducible refine wpAny_loadPart_at hx ?_ | (with_reducible refine wpAny_isSubtype_exc hC1 ?_; rw [hCC]) | wp_step)
  show wpAny _ _ (typeLookup (.ref C) _) _ _ _
  refine i1.at ?_
  refine wpAny_holding (wpAny_bind (b1.at ?_))
  refine wpAny_bind (wpAny_call (codeAny_mono hq fun r s' z => ?_))
  rcases r with e | (v | _ | _ | _) <;> first | exact z | exact z.elim | skip
  obtain ⟨rfl, z⟩ := z
  first
    | exact wpAny_pure (wpAny_pure z)
    | (wp_walk; exact z)
theorem kx_check_call {Md : Model} {us : List Value} {Q : Unit → Shared → Prop} (hC : hp.get? C = some (excClassObj nm q C N bs bm hdct sn sub ab col dd k0 k1 k2 k3 k5 newId))
    (hq : Q () ⟨hp, gn, dr, tk, os⟩) : wpAny Md A (checkBuiltinCall "type.__call__" ⟨.ref C :: us, kw⟩) Q E ⟨hp, gn, dr, tk, os⟩ := by
  have f3 := tc_sub
  have hTy : (⟨hp, gn, dr, tk, os⟩ : Shared).TypeIs (.ref C) "type" := ⟨_, hC, rfl⟩
  simp only [checkBuiltinCall, tc_kind, tc_split]
  repeat (any_goals (first | assumption | with_reducible refine wpAny_loadPart_at hC ?_ | with_reducible refine wpAny_onRaise ?_ | with_reducible refine wpAny_map ?_ | wp_step))
theorem kx_call (F : ExcBaseFacts B newId initId bmB) (hT : ∀ Y : String, bm.contains (.type Y) = bmB.contains (.type Y)) {us : List Value} {fI : Addr}
    (hC : hp.get? C = some (excClassObj nm q C N bs bm hdct sn sub ab col dd k0 k1 k2 k3 k5 newId)) (hi : W.Looks (model prog w) hp (typeLookup (.ref C) "__init__") (some (.ref fI)))
    (hb : ∀ self, W.Looks (model prog w) hp (bindSpecial (.ref fI) self) (.ref fI, [self])) (hz : us.length ≤ sizeLine)
    (hq : codeAny (model prog w) (A.under (.builtin "type.__call__" ⟨.ref C :: us, kw⟩)) (.call (.ref fI) ⟨.ref (hp.objs.size + 1) :: us, kw⟩) (W.InitBack (hp.objs.size + 1) R)
      ⟨(hp.push (W.kdv_tup us)).push (excO C hp.objs.size), gn, dr, tk, os⟩) :
    codeAny (model prog w) A (.call (.ref C) ⟨us, kw⟩) R ⟨hp, gn, dr, tk, os⟩ := by
  have f1 := tc_lookup
  have f2 := tc_bind (.ref C)
  have hTy : (⟨hp, gn, dr, tk, os⟩ : Shared).TypeIs (.ref C) "type" := ⟨_, hC, rfl⟩
  refine codeAny_of_tree ?_
  show wpAny _ _ (callAny (.ref C) _) _ _ _
  repeat (any_goals (first | assumption | with_reducible refine wpAny_loadPart_at hC ?_ | wp_step))
  refine ⟨rfl, ?_⟩
  refine codeAny_call_builtin_at (Code.quiet_builtin _ (by decide +kernel)) entry_typeCall (kx_check_call hC (kx_tcall F hT hC hi hb hz ?_))
  refine codeAny_mono hq fun r s' z => ?_
  rcases r with e | (v | _ | _ | _) <;> exact z
end
end DLX

namespace DLX
open PySem L2 DL
/-- an own exception class straight over a built-in one -/
structure XC (K : PySem.W.Frag) (C : Addr) : Prop where
  base : ∃ (B newId initId : String) (bmB : List Value), ExcBaseFacts B newId initId bmB ∧ StoreFacts B bmB "object.__setattr__" "object" ∧ PySem.W.excInitIn K C bmB newId = true ∧ PySem.W.excOver K C bmB = true
  sa : PySem.W.findIn K (.ref C) "__setattr__" = some (some (.builtin "object.__setattr__"))
  kC : PySem.W.keepIn K (.ref C) = true
  hd : PySem.W.hasDictIn K C = true
  ga : PySem.W.findIn K (.ref C) "__getattribute__" = some (some (.builtin "BaseException.__getattribute__"))
  gg : PySem.W.findIn K (.ref C) "__getattr__" = some none
  bx : PySem.W.subIn K (.ref C) (.type "BaseException") = some true
  ha : PySem.W.findIn K (.ref C) "__class__" = some (some (.builtin "object.__class__"))
  hn : PySem.W.specialIn K (.builtin "object.__class__") "__get__" = some (some (.builtin "getset_descriptor.__get__"))
  ht : PySem.W.takesIn K (.builtin "object.__class__") = some true
  hm : PySem.W.mroIn K C (.type "object") = some true
section
variable {X : Cx} {pins : List (Addr × Obj)} {σ : L2.St} {H : Hp} {s : Shared} {a C dx : Addr} {f : Str} {y : V} {u : Value} {Q : Unit → Shared → Prop} {E : Value → Shared → Prop} {A : Around}
/-- self.f = y, the first store of an exception -/
theorem x_set (T : XC X.K C) (I : Inv X pins σ H s) (e : H a = some (exo a C none)) (hno : PySem.W.takerIn X.K C f = some none) (ry : RelV y u)
    (h : ∀ dx s', H dx = none → dx ≠ a → Inv X pins σ (upd (upd H dx (exd dx [(f, y)])) a (exo a C (some dx))) s' → Q () s') : wpAny (model X.prog X.w) A (setAttr (.ref a) f u) Q E s := by
  obtain ⟨B, newId, initId, bmB, F, SF, xi, ov⟩ := T.base
  obtain ⟨t1, ho⟩ := exo_at I.hok e
  obtain ⟨cd, hcl, hcd⟩ := PySem.W.any_some T.hd
  obtain ⟨hp, gn, dr, tk, os⟩ := s
  refine PySem.W.set_plain I.kIn (ox := { cls := .ref C, dict := none, data := .fields #[.ref t1, .none, .none, .none, .bool false, .none] }) (od := none) ⟨ho, rfl, rfl, trivial⟩ T.sa ?_
  refine PySem.W.osa_openX (s := ⟨hp, gn, dr, tk + 1, os⟩) SF I.kIn (od := none) (ox := { cls := .ref C, dict := none, data := .fields #[.ref t1, .none, .none, .none, .bool false, .none] }) ⟨ho, rfl, rfl, trivial⟩ ov hno fun b => ?_
  refine wpAny_bind (wpAny_pure (wpAny_bind (PySem.W.instanceDict_exc (s := ⟨hp, gn, dr, tk + 1, os⟩) ho (PySem.W.looks_clsIn I.kIn hcl) hcd ?_)))
  show wpAny _ _ (Builtin.ObjectAttr.storeInDict hp.objs.size (.str f _) f u) _ _ _
  have hxs : a < hp.objs.size := Heap.lt_size ho
  have hxn : a ≠ hp.objs.size := Nat.ne_of_lt hxs
  refine PySem.HandSPX.store_in_new ⟨_, #[], _, (Heap.get?_update_ne _ _ _ _ hxn.symm).trans (Heap.get?_push_at rfl rfl), rfl, fun e he => absurd he (by simp), fun _ => rfl⟩ fun h' tk' hn' hs => ?_
  have hx1 : (hp.push { cls := .type "dict", data := .dict #[] }).get? a = some { cls := .ref C, dict := none, data := .fields #[.ref t1, .none, .none, .none, .bool false, .none] } := Heap.get?_push_of_some _ ho
  have hx2 : h'.get? a = some { cls := .ref C, dict := some hp.objs.size, data := .fields #[.ref t1, .none, .none, .none, .bool false, .none] } := (hs.2 a hxn).trans (Heap.get?_update_self _ hx1 rfl)
  have kp : ∀ b o, b ≠ a → hp.get? b = some o → h'.get? b = some o := fun b o hb hq => (hs.2 b (Nat.ne_of_lt (Heap.lt_size hq))).trans ((Heap.get?_update_ne _ _ _ _ hb).trans (Heap.get?_push_of_some _ hq))
  have hnd : H hp.objs.size = none := I.hok.fresh (Nat.le_refl _)
  have nd : ∀ {b : Addr} {o : Obj}, hp.get? b = some o → b ≠ hp.objs.size := fun {b o} q => Nat.ne_of_lt (Heap.lt_size q)
  have na : ∀ {b : Addr}, H b = none → b ≠ a := fun {b} n z => by
    rw [z, e] at n
    cases n
  have U : Un X.fs [] H (upd (upd H hp.objs.size (exd hp.objs.size [(f, y)])) a (exo a C (some hp.objs.size))) hp h' := {
    keep := fun b o q n _ _ => kp b o (na n) q
    slot := fun b o q n _ _ => ⟨o.slots, kp b o (na n) q⟩
    free := fun b o q n _ => by rw [upd_ne (na n), upd_ne (nd q)]; exact n
    there := fun b o q _ => by
      by_cases hb : b = a
      · exact ⟨_, by rw [hb]; exact hx2⟩
      · exact ⟨o, kp b o hb q⟩
    tups := fun b xs q => by rw [upd_ne (at_ne e q exo_tup), upd_ne (ne_of_none q hnd)]; exact q
    frzs := fun b o v q => by rw [upd_ne (at_ne e q exo_frz), upd_ne (ne_of_none q hnd)]; exact q
    tbls := fun b ps q => ⟨#[], by rw [upd_ne (at_ne e q exo_tbl), upd_ne (ne_of_none q hnd), q]; simp⟩ }
  refine h hp.objs.size _ hnd hxn.symm (I.un (t' := tk') U fun b o q => ?_)
  by_cases hb : b = a
  · subst hb
    rw [upd_same] at q
    cases q
    exact exo_ok hx2
  · rw [upd_ne hb] at q
    by_cases hd : b = hp.objs.size
    · subst hd
      rw [upd_same] at q
      cases q
      exact exd_ok hn' (relO_put (fs := []) ry fun g => True.intro)
    · rw [upd_ne hd] at q
      refine (I.hok b o q).stay (fun c v hc z => kp c v ?_ z) (fun c hc => ?_) fun c xs hc => ?_
      · rcases hc with hc | hc
        · rw [hc]
          exact hb
        · exact at_ne e hc exo_own
      · rw [upd_ne (at_ne e hc exo_own), upd_ne (ne_of_none hc hnd)]
        exact hc
      · rw [upd_ne (at_ne e hc exo_tup), upd_ne (ne_of_none hc hnd)]
        exact hc
end
def tXset (K : PySem.W.Frag) (f : Str) (to te : TE) : TS := fun D σ H => te σ H fun y H1 => to σ H1 fun x H2 => ∃ a C : Addr, x = .ref a ∧ XC K C ∧ PySem.W.takerIn K C f = some none ∧ H2 a = some (exo a C none) ∧
  ∀ dx, H2 dx = none → dx ≠ a → D.nx σ (upd (upd H2 dx (exd dx [(f, y)])) a (exo a C (some dx)))
/-- what __init__(self, y) does -/
def spXi (C : Addr) (f : Str) : Sp := fun vs H Q _ => ∃ a y, vs = [.ref a, y] ∧ H a = some (exo a C none) ∧ ∀ dx, H dx = none → dx ≠ a → Q .non (upd (upd H dx (exd dx [(f, y)])) a (exo a C (some dx)))
section
variable {X : Cx} {o e : Expr} {to te : TE} {f : Str} {p p' p1 pos : Pos}
theorem ps_xset (ho : PE X o to) (he : PE X e te) (hs : swapsWith e (some (.Attribute o f p')) pos.line X.env = pure false := by rfl) : PS X (.Assign [.Attribute o f p'] e pos) (tXset X.K f to te) :=
  ⟨fun pins s σ H D I hw => plainObj_wpAny_Assign_Attribute (thn (he.run pins s σ H _ I hw) fun v s1 ⟨y, H1, I1, r1, q1⟩ => thn (ho.run pins s1 σ H1 _ I1 q1) fun u s2 ⟨x, H2, I2, r2, a, C, ex, T, hno, ea, q⟩ => by
    subst ex
    obtain rfl : u = Value.ref a := r2
    exact x_set T I2 ea hno r1 fun dx s' n ne J => ⟨σ, _, J, q dx n ne⟩) hs⟩
end
/-- a class, its __init__ and the name of the field -/
structure XI (P : Program) (w : World) (K : PySem.W.Frag) (mg : Str → Option Value) (base : Heap) (C : Addr) (f : Str) (fd : FuncData) (fI : Addr) (ps : List Str) : Prop where
  xc : XC K C
  iC : PySem.W.findIn K (.ref C) "__init__" = some (some (.ref fI))
  tI : PySem.W.typeIn K (.ref fI) = some (.type "function")
  fn : FnOk P w K mg base CX0 1 fI fd ps (spXi C f)
section
variable {X : Cx} {pins : List (Addr × Obj)} {σ : L2.St} {H : Hp} {s : Shared} {C fI : Addr} {f : Str} {fd : FuncData} {ps : List Str} {y : V} {u : Value} {Q : VK}
/-- C(y), C(k = y): a new exception with its field -/
theorem run_xmk {us : List Value} {kw : List (Str × Value)} (T : XI X.prog X.w X.K X.mg X.base C f fd fI ps) (hr : Room 2 X.A) (hb : ∀ (s : Shared) (self : Value), X.K.In s.heap → BindsTo s fd ⟨self :: us, kw⟩ (ps.zip [self, u])) (hus : us.length ≤ 1) (I : Inv X pins σ H s) (r : RelV y u)
    (h : ∀ a dx, H a = none → H dx = none → dx ≠ a → Q (.ref a) (upd (upd H dx (exd dx [(f, y)])) a (exo a C (some dx)))) : wpAny (model X.prog X.w) X.A (call (.ref C) us kw) (EP X pins σ Q) X.xe s := by
  obtain ⟨B, newId, initId, bmB, F, SF, xi, ov⟩ := T.xc.base
  obtain ⟨nm, N', qn, bs, bm, hdct, sn, sub, ab, col, dd, k0, k1, k2, k3, k5, hC, hT⟩ := PySem.W.excInit_of I.kIn xi
  obtain ⟨hp, gn, dr, tk, os⟩ := s
  have hsz : hp.objs.size ≤ hp.objs.size + 1 := Nat.le_succ _
  have hn : H (hp.objs.size + 1) = none := I.hok.fresh hsz
  have kk : ∀ b o, hp.get? b = some o → ((hp.push (PySem.W.kdv_tup us)).push (PySem.HandSPX.excO C hp.objs.size)).get? b = some o := fun b o e => Heap.get?_push_of_some _ (Heap.get?_push_of_some _ e)
  have hget : ((hp.push (PySem.W.kdv_tup us)).push (PySem.HandSPX.excO C hp.objs.size)).get? (hp.objs.size + 1) = some (PySem.HandSPX.excO C hp.objs.size) := by heap_get
  have I2 : Inv X pins σ (upd H (hp.objs.size + 1) (exo (hp.objs.size + 1) C none)) ⟨(hp.push (PySem.W.kdv_tup us)).push (PySem.HandSPX.excO C hp.objs.size), gn, dr, tk, os⟩ :=
    I.laid (t' := tk) (a := hp.objs.size + 1) (o := exo (hp.objs.size + 1) C none) (h' := (hp.push (PySem.W.kdv_tup us)).push (PySem.HandSPX.excO C hp.objs.size)) kk hsz (exo_ok hget)
  have r2 : Vals [V.ref (hp.objs.size + 1), y] [Value.ref (hp.objs.size + 1), u] := .cons rfl (.cons r .nil)
  have hsp : spXi C f [V.ref (hp.objs.size + 1), y] (upd H (hp.objs.size + 1) (exo (hp.objs.size + 1) C none)) (fun v H2 => v = .non ∧ Q (.ref (hp.objs.size + 1)) H2) (fun _ _ _ => False) := by
    refine ⟨hp.objs.size + 1, y, rfl, upd_same, fun dx hdx hne => ⟨rfl, ?_⟩⟩
    have e : upd (upd (upd H (hp.objs.size + 1) (exo (hp.objs.size + 1) C none)) dx (exd dx [(f, y)])) (hp.objs.size + 1) (exo (hp.objs.size + 1) C (some dx)) = upd (upd H dx (exd dx [(f, y)])) (hp.objs.size + 1) (exo (hp.objs.size + 1) C (some dx)) := by
      funext b
      by_cases hb : b = hp.objs.size + 1
      · rw [hb, upd_same, upd_same]
      · rw [upd_ne hb, upd_ne hb]
        by_cases hd : b = dx
        · rw [hd, upd_same, upd_same]
        · rw [upd_ne hd, upd_ne hd, upd_ne hb]
    rw [e]
    rw [upd_ne hne] at hdx
    exact h _ dx hn hdx hne
  refine wpAny_call (kx_call F hT hC (PySem.W.looks_findIn I.kIn T.iC) (fun self => PySem.W.bind_fn I.kIn self T.tI) (by rw [sizeLine_eq]; omega) (codeAny_mono (T.fn.run _ X.stack _ _ ⟨Value.ref (hp.objs.size + 1) :: us, kw⟩ [Value.ref (hp.objs.size + 1), u] _ _ (fun _ _ _ => False) (hr.make C us kw) (I2.env0.make C us kw) (hb _ _ I2.kIn) r2 hsp) fun r s' hq' => ?_))
  cases r with
  | error er => exact hq'.elim
  | ok fl =>
    cases fl with
    | ret u =>
      obtain ⟨v, H', I3, rv, ev, q3⟩ := I2.after hq'
      subst ev
      exact ⟨rv, ⟨.ref (hp.objs.size + 1), H', I3, rfl, q3⟩⟩
    | next => exact False.elim hq'
    | brk => exact False.elim hq'
    | cont => exact False.elim hq'
end
end DLX

namespace DLX
open PySem L2 DL
def xcB (K : PySem.W.Frag) (C : Addr) (newId : String) (bmB : List Value) : Bool :=
  PySem.W.excInitIn K C bmB newId && (PySem.W.excOver K C bmB && (decide (PySem.W.findIn K (.ref C) "__setattr__" = some (some (.builtin "object.__setattr__"))) && (PySem.W.keepIn K (.ref C) && (PySem.W.hasDictIn K C &&
  (decide (PySem.W.findIn K (.ref C) "__getattribute__" = some (some (.builtin "BaseException.__getattribute__"))) && (decide (PySem.W.findIn K (.ref C) "__getattr__" = some none) && (decide (PySem.W.subIn K (.ref C) (.type "BaseException") = some true) &&
  (decide (PySem.W.findIn K (.ref C) "__class__" = some (some (.builtin "object.__class__"))) && (decide (PySem.W.specialIn K (.builtin "object.__class__") "__get__" = some (some (.builtin "getset_descriptor.__get__"))) &&
  (decide (PySem.W.takesIn K (.builtin "object.__class__") = some true) && decide (PySem.W.mroIn K C (.type "object") = some true)))))))))))
theorem xcB_ok {K : PySem.W.Frag} {C : Addr} {B newId initId : String} {bmB : List Value} (F : ExcBaseFacts B newId initId bmB) (SF : StoreFacts B bmB "object.__setattr__" "object") (h : xcB K C newId bmB = true) : XC K C := by
  unfold xcB at h
  simp only [Bool.and_eq_true, decide_eq_true_eq] at h
  obtain ⟨h1, h2, h3, h4, h5, h6, h7, h8, h9, h10, h11, h12⟩ := h
  exact ⟨⟨B, newId, initId, bmB, F, SF, h1, h2⟩, h3, h4, h5, h6, h7, h8, h9, h10, h11, h12⟩
def tXmk (C : Addr) (f : Str) (t : TA) : TE := fun σ H Q => t σ H fun vs H1 => ∃ y, vs = [y] ∧ ∀ a dx, H1 a = none → H1 dx = none → dx ≠ a → Q (.ref a) (upd (upd H1 dx (exd dx [(f, y)])) a (exo a C (some dx)))
def tXmk0 (C : Addr) : TE := fun σ H Q => ∀ a, H a = none → Q (.ref a) (upd H a (exo a C none))
section
variable {X : Cx} {C fI : Addr} {f x : Str} {fd : FuncData} {ps : List Str} {p pos kpos : Pos} {e : Expr} {te : TE} {t : TA}
theorem pe_xmk (T : XI X.prog X.w X.K X.mg X.base C f fd fI ps) (hr : Room 2 X.A) (hm : X.mg x = some (.ref C)) (hb : Binds X.K fd ps []) (hps : ps.length = 2) (ha : PA X [e] t) (hg : Gl X x) (hdb : (x == ("__debug__" : Str)) = false)
    (he : starEach [e] X.env = (false, eval e X.env) :: starEach [] X.env := by rfl) (hpl : (backTo pos (starEach [] X.env)).any (·.1) = false := by rfl) : PE X (.Call (.Name x p) [e] [] pos) (tXmk C f t) :=
  ⟨fun pins s σ H Q I hw => wpAny_Call_Name_kw (ld_glob I hg hm (PySem.W.callWith_K (h₀ := X.base) I.ok.mod.kin T.xc.kC (thn (ha.run pos pins s σ H _ I hw) fun us s1 hz => by
    obtain ⟨vs, H1, I1, r, y, ev, q⟩ := hz
    subst ev
    cases r with
    | @cons _ u _ _ ra rb =>
      cases rb
      refine ⟨I1.kIn, ?_⟩
      exact run_xmk (us := [u]) (kw := []) T hr (fun s' self hK => by
        have := hb s' [self, u] hK (by rw [hps]; rfl)
        simpa using this) (Nat.le_refl _) I1 ra q) he hpl) hdb)⟩
theorem pe_xmkK {k : Str} (T : XI X.prog X.w X.K X.mg X.base C f fd fI ps) (hr : Room 2 X.A) (hm : X.mg x = some (.ref C)) (hb : ∀ (s : Shared) (self u : Value), X.K.In s.heap → BindsTo s fd ⟨[self], [(k, u)]⟩ (ps.zip [self, u])) (ha : PE X e te) (hg : Gl X x) (hdb : (x == ("__debug__" : Str)) = false)
    (hall : (backToKw pos (keywordEach [⟨some k, e, kpos⟩] X.env)).all (·.1.isSome) = true := by rfl) (hks : (backToKw pos (keywordEach [⟨some k, e, kpos⟩] X.env)).filterMap (·.1) = [k] := by rfl)
    (hpl : ((backTo pos (starEach [] X.env)).any (·.1) || (backToKw pos (keywordEach [⟨some k, e, kpos⟩] X.env)).any (·.1.isNone)) = false := by rfl) : PE X (.Call (.Name x p) [] [⟨some k, e, kpos⟩] pos) (tXmk C f (tCons te tNil)) :=
  ⟨fun pins s σ H Q I hw => wpAny_Call_Name_kw (ld_glob I hg hm (PySem.W.callWith_KW0 (h₀ := X.base) I.ok.mod.kin T.xc.kC hall (thn ((pk_cons ha pk_nil).run pos pins s σ H _ I hw) fun us s1 hz => by
    obtain ⟨vs, H1, I1, r, y, ev, q⟩ := hz
    subst ev
    cases r with
    | @cons _ u _ _ ra rb =>
      cases rb
      refine ⟨I1.kIn, ?_⟩
      rw [hks]
      exact run_xmk (us := []) (kw := [(k, u)]) T hr (fun s' self hK => hb s' self u hK) (Nat.zero_le _) I1 ra q) hpl) hdb)⟩
theorem pe_xmk0 {bmB : List Value} {B newId initId : String} (F : ExcBaseFacts B newId initId bmB) (q0 : PySem.W.excIn X.K C bmB newId = true) (hm : X.mg x = some (.ref C)) (kC : PySem.W.keepIn X.K (.ref C) = true) (hg : Gl X x) (hdb : (x == ("__debug__" : Str)) = false) : PE X (.Call (.Name x p) [] [] pos) (tXmk0 C) :=
  ⟨fun pins s σ H Q I hw => wpAny_Call_Name_kw (ld_glob I hg hm (PySem.W.callWith_K0 I.kIn kC (by
    show wpAny _ _ (call (.ref C) []) _ _ _
    obtain ⟨bm, N, nm, qn, bs, hdct, sn, sub, ab, col, dd, k0, k1, k2, k3, k5, mN, hC, hN, hni, Tl⟩ := exc_obj I.kIn q0
    refine wpAny_call_exc_subT F Tl hC hN hni (fun h' a hm' => ?_) (Nat.zero_le _)
    have hn : H a = none := I.hok.gone hm'.new
    obtain ⟨t, ht, _, _⟩ := hm'.there
    exact ⟨.ref a, upd H a (exo a C none), I.laidN hm'.keeps hm'.new hn (exo_ok ht), rfl, hw a hn⟩)) hdb)⟩
def tXat (K : PySem.W.Frag) (te : TE) (f : Str) : TE := fun σ H Q => te σ H fun x H1 => ∃ (a C dx : Addr) (fs : List (Str × V)) (v : V), x = .ref a ∧ H1 a = some (exo a C (some dx)) ∧ H1 dx = some (exd dx fs) ∧ XC K C ∧ PySem.W.findIn K (.ref C) f = some none ∧ fs.lookup f = some v ∧ Q v H1
theorem pe_xat (he : PE X e te) (hb : attributeBase e f X.env (eval e X.env) = eval e X.env := by rfl) : PE X (.Attribute e f pos) (tXat X.K te f) := ⟨fun pins s σ H Q I hw => attr_of hb (thn (he.run pins s σ H _ I hw) fun u s1 hh => by
  obtain ⟨x, H1, I1, rx, a, C, dx, fs, v, rfl, ea, ed, T, hno, l, q⟩ := hh
  obtain rfl : u = Value.ref a := rx
  obtain ⟨t1, ho⟩ := exo_at I1.hok ea
  obtain ⟨mA, hns, hr⟩ := exd_at I1.hok ed
  obtain ⟨od, hod, hl⟩ := lookIn_ns hns
  obtain ⟨u, hu, ru⟩ := RelO.some_of (v := v) (o := mA f) (by rw [← l]; exact hr f)
  have Jn : PySem.W.InstAt s1.heap a { cls := .ref C, dict := some dx, data := .fields #[.ref t1, .none, .none, .none, .bool false, .none] } C (some od) := ⟨ho, rfl, rfl, hod⟩
  exact PySem.HandSPX.exc_get I1.kIn Jn T.ga T.gg T.bx (PySem.W.findObj_own T.hd hno rfl (by rw [hl, hu])) (handed_of ru) ⟨v, H1, I1.tok _, ru, q⟩)⟩
def rXi (K : PySem.W.Frag) : List V → Hp → VK → Prop := fun xs H Q => ∃ (a C : Addr) (d : Option Addr) (c : V) (cv : Value) (b : Bool), xs = [.ref a, c] ∧ H a = some (exo a C d) ∧ (∀ dx, d = some dx → ∃ fs, H dx = some (exd dx fs)) ∧ (∀ u, RelV c u → u = cv) ∧ XC K C ∧ PySem.W.kitOne K (.ref C) cv = some b ∧ Q (.bl b) H
theorem call_xi : CallR X (.builtin "isinstance") (rXi X.K) := by
  intro pins s σ H xs us Q I r hw
  obtain ⟨a, C, d, c, cv, b, rfl, ea, hd, hcv, T, e, q⟩ := hw
  obtain ⟨u1, u2, rfl, r1, r2⟩ := vals2 r
  have ec := hcv _ r2
  subst ec
  obtain rfl : u1 = Value.ref a := r1
  obtain ⟨t1, ho⟩ := exo_at I.hok ea
  have hcl : (PySem.W.clsIn X.K C).isSome = true := by
    obtain ⟨cd, hcl, _⟩ := PySem.W.any_some T.hd
    rw [hcl]
    rfl
  have ht : ∃ od, PySem.W.InstAt s.heap a { cls := .ref C, dict := d, data := .fields #[.ref t1, .none, .none, .none, .bool false, .none] } C od := by
    cases d with
    | none => exact ⟨none, ho, rfl, rfl, trivial⟩
    | some dx =>
      obtain ⟨fs, ed⟩ := hd dx rfl
      obtain ⟨mA, hns, hr⟩ := exd_at I.hok ed
      obtain ⟨od, hod, hl⟩ := lookIn_ns hns
      exact ⟨some od, ho, rfl, rfl, hod⟩
  obtain ⟨od, Jn⟩ := ht
  exact PySem.W.kia_one (PySem.W.kitx_exc hcl T.ga T.gg T.bx T.ha T.hn T.ht T.hm) I.kIn Jn e (fun z => nomatch z) fun tk => ⟨.bl b, H, I.tok tk, rfl, q⟩
end
theorem init_ok {P : Program} {w : World} {K : PySem.W.Frag} {mg : Str → Option Value} {base : Heap} {C fI : Addr} {f : Str} {st : Stmt} {fd : FuncData} {N : List Str} {qual x : Str} (T : XC K C) (hno : PySem.W.takerIn K C f = some none) (F : Fun K x qual st fI fd) (S : FnScope N N (defScope st)) (hN : N.length = 2)
    (hbody : ∀ (cdv : Value) (A : Around) (outer : List PySem.Env) (s : Shared) (H : Hp) (E : XK), PSs (cxOf CX0 P w K mg base N qual (defScope st) fI cdv A outer s H E).nox (defBody st) (tXset K f (tVar 0) (tVar 1))) : FnOk P w K mg base CX0 1 fI fd N (spXi C f) := by
  refine F.ok S (fun vs H Q E h => ?_) (fun cdv A outer s H vs Q E hr h => ⟨_, hbody cdv A outer s H E, ?_⟩)
  · obtain ⟨a, y, rfl, _⟩ := h
    exact hN.symm
  · obtain ⟨a, y, rfl, ha, q⟩ := h
    have hst : L2.start N [.ref a, y] = [some (.ref a), some y] := by
      unfold L2.start
      rw [hN]
      rfl
    rw [hst]
    exact ⟨y, rfl, .ref a, rfl, a, C, rfl, T, hno, ha, fun dx hdx hne => q dx hdx hne⟩
end DLX

namespace DLX
open PySem L2 DL
section
variable {ct : Nat → Addr} {X : Cx} {C fI : Addr} {f x : Str} {fd : FuncData} {ps : List Str} {p pos kpos p1 : Pos} {e : Expr} {te : TE} {m : M D} {K : PySem.W.Frag}
/-- a new exception with its field, frozen -/
theorem out_ex1 {c : Cn} {g : G} {k : Nat} {d : D} {y : V} {Q : VK} (kk : GOk g) (h : Out c g (.v (.ex1 k f d)) Q) (r : Rp c g.f d y) {a dx : Addr} (ha : g.h a = none) (hd : g.h dx = none) (hne : dx ≠ a) :
    Q (.ref a) (upd (upd g.h dx (exd dx [(f, y)])) a (exo a (c.ct k) (some dx))) := by
  obtain ⟨k1, k2⟩ := fr_new (o := exd dx [(f, y)]) kk hd
  have ha' : (upd g.h dx (exd dx [(f, y)])) a = none := by
    rw [upd_ne hne.symm]
    exact ha
  obtain ⟨k3, k4⟩ := fr_new (g := ⟨upd g.f dx (exd dx [(f, y)]), g.o, upd g.h dx (exd dx [(f, y)])⟩) (o := exo a (c.ct k) (some dx)) k1 ha'
  refine h ⟨upd (upd g.f dx (exd dx [(f, y)])) a (exo a (c.ct k) (some dx)), g.o, upd (upd g.h dx (exd dx [(f, y)])) a (exo a (c.ct k) (some dx))⟩ (.ref a) (k2.trans k4) k3 (fun _ _ e => e) ?_
  refine ⟨a, dx, y, rfl, upd_same, ?_, Rp.mono (k2.trans k4).f _ _ r⟩
  show upd (upd g.f dx (exd dx [(f, y)])) a (exo a (c.ct k) (some dx)) dx = _
  rw [upd_ne hne, upd_same]
def mMk (k : Nat) (f : Str) (m : M D) : M D := M.opt m fun d => some (.ex1 k f d)
theorem ex_mk (k : Nat) (T : XI X.prog X.w X.K X.mg X.base (ct k) f fd fI ps) (hr : Room 2 X.A) (hm : X.mg x = some (.ref (ct k))) (hb : Binds X.K fd ps []) (hps : ps.length = 2) (ha : EX ct X e te m) (hg : Gl X x := by rfl) (hdb : (x == ("__debug__" : Str)) = false := by decide)
    (he : starEach [e] X.env = (false, eval e X.env) :: starEach [] X.env := by rfl) (hpl : (backTo pos (starEach [] X.env)).any (·.1) = false := by rfl) : EX ct X (.Call (.Name x p) [e] [] pos) (tXmk (ct k) f (tCons te tNil)) (mMk k f m) :=
  ⟨pe_xmk T hr hm hb hps (pa_cons ha.pe pa_nil he) hg hdb he hpl, fun β g env σ d env' Q ok hm k => by
    obtain ⟨y, h1, h2⟩ := M.opt_some hm
    cases h2
    refine ha.ev β g env σ y env' _ ok h1 fun g1 v f1 o1 r1 => ⟨v, rfl, fun a dx hha hhd hne => ?_⟩
    exact out_ex1 (c := ⟨X.K, ct⟩) o1.ok (Out.ofV o1 fun g' v f o r => k g' v (f1.trans f) o r) r1 hha hhd hne⟩
theorem ex_mkK {kw : Str} (k : Nat) (T : XI X.prog X.w X.K X.mg X.base (ct k) f fd fI ps) (hr : Room 2 X.A) (hm : X.mg x = some (.ref (ct k))) (hb : ∀ (s : Shared) (self u : Value), X.K.In s.heap → BindsTo s fd ⟨[self], [(kw, u)]⟩ (ps.zip [self, u])) (ha : EX ct X e te m) (hg : Gl X x := by rfl) (hdb : (x == ("__debug__" : Str)) = false := by decide)
    (hall : (backToKw pos (keywordEach [⟨some kw, e, kpos⟩] X.env)).all (·.1.isSome) = true := by rfl) (hks : (backToKw pos (keywordEach [⟨some kw, e, kpos⟩] X.env)).filterMap (·.1) = [kw] := by rfl)
    (hpl : ((backTo pos (starEach [] X.env)).any (·.1) || (backToKw pos (keywordEach [⟨some kw, e, kpos⟩] X.env)).any (·.1.isNone)) = false := by rfl) : EX ct X (.Call (.Name x p) [] [⟨some kw, e, kpos⟩] pos) (tXmk (ct k) f (tCons te tNil)) (mMk k f m) :=
  ⟨pe_xmkK T hr hm hb ha.pe hg hdb hall hks hpl, fun β g env σ d env' Q ok hm k => by
    obtain ⟨y, h1, h2⟩ := M.opt_some hm
    cases h2
    refine ha.ev β g env σ y env' _ ok h1 fun g1 v f1 o1 r1 => ⟨v, rfl, fun a dx hha hhd hne => ?_⟩
    exact out_ex1 (c := ⟨X.K, ct⟩) o1.ok (Out.ofV o1 fun g' v f o r => k g' v (f1.trans f) o r) r1 hha hhd hne⟩
theorem ex_mk0 (k : Nat) {bmB : List Value} {B newId initId : String} (F : ExcBaseFacts B newId initId bmB) (q0 : PySem.W.excIn X.K (ct k) bmB newId = true) (hm : X.mg x = some (.ref (ct k))) (kC : PySem.W.keepIn X.K (.ref (ct k)) = true) (hg : Gl X x := by rfl) (hdb : (x == ("__debug__" : Str)) = false := by decide) :
    EX ct X (.Call (.Name x p) [] [] pos) (tXmk0 (ct k)) (M.ret (.ex0 k)) := ⟨pe_xmk0 F q0 hm kC hg hdb, fun β g env σ d env' Q ok hm k => by
    cases hm
    refine fun a ha => ?_
    exact Out.newV (c := ⟨X.K, ct⟩) ok.ok (Out.ofV ok fun g' v f o r => k g' v f o r) ha ⟨a, rfl, upd_same⟩⟩
def mXat (ks : Nat → Bool) (f : Str) (m : M D) : M D := M.opt m fun d => match d with
  | .ex1 k g y => if ks k = true ∧ g = f then some y else none
  | _ => none
theorem ex_xat {K : PySem.W.Frag} (ks : Nat → Bool) (hks : ∀ k, ks k = true → XC X.K (ct k) ∧ PySem.W.findIn X.K (.ref (ct k)) f = some none) (ha : EX ct X e te m) (hb : attributeBase e f X.env (eval e X.env) = eval e X.env := by rfl) (hK : X.K = K := by rfl) : EX ct X (.Attribute e f pos) (tXat K te f) (mXat ks f m) := by
  subst hK
  exact ⟨pe_xat ha.pe hb, fun β g env σ d env' Q ok hm k => by
      obtain ⟨y, h1, h2⟩ := M.opt_some hm
      refine ha.ev β g env σ y env' _ ok h1 fun g1 v f1 o1 r1 => ?_
      split at h2
      · split at h2
        · rename_i kk gg yy hc
          cases h2
          obtain ⟨hk, rfl⟩ := hc
          obtain ⟨a, dx, z, rfl, e1, e2, e3⟩ := r1
          obtain ⟨q1, q2⟩ := hks kk hk
          refine ⟨a, ct kk, dx, [(gg, z)], z, rfl, o1.ok.f _ _ e1, o1.ok.f _ _ e2, q1, q2, ?_, k g1 z f1 o1 e3⟩
          simp [List.lookup]
        · cases h2
      · cases h2⟩
/-- isinstance of an exception, by a table of its classes -/
def mXi (ks : Nat → Bool) (tb : Nat → Bool) (m : M D) : M D := M.opt m fun d => match d with
  | .ex1 k _ _ => if ks k = true then some (.bl (tb k)) else none
  | .ex0 k => if ks k = true then some (.bl (tb k)) else none
  | _ => none
theorem ex_xi {K : PySem.W.Frag} (ks tb : Nat → Bool) {c : V} {cv : Value} {ec : Expr} (hi : X.mg "isinstance" = none) (hc : PE X ec (tC c)) (hcv : ∀ u, RelV c u → u = cv) (hks : ∀ k, ks k = true → XC X.K (ct k) ∧ PySem.W.kitOne X.K (.ref (ct k)) cv = some (tb k)) (ha : EX ct X e te m)
    (he : starEach [e, ec] X.env = (false, eval e X.env) :: starEach [ec] X.env := by rfl) (he2 : starEach [ec] X.env = (false, eval ec X.env) :: starEach [] X.env := by rfl) (hpl : (backTo pos (starEach [ec] X.env)).any (·.1) = false := by rfl) (hgi : Gl X "isinstance" := by rfl) (hK : X.K = K := by rfl) :
    EX ct X (.Call (.Name "isinstance" p) [e, ec] [] pos) (tCB (rXi K) (tCons te (tCons (tC c) tNil))) (mXi ks tb m) := by
  subst hK
  exact ⟨pe_callB call_xi hgi hi PyProof.Rows.boot_isinstance (pa_cons ha.pe (pa_cons hc pa_nil he2) he) (by decide) (by decide) he hpl, fun β g env σ d env' Q ok hm k => by
      obtain ⟨y, h1, h2⟩ := M.opt_some hm
      refine ha.ev β g env σ y env' _ ok h1 fun g1 v f1 o1 r1 => ?_
      split at h2
      · split at h2
        · rename_i kk gg yy hc
          cases h2
          obtain ⟨a, dx, z, rfl, e1, e2, e3⟩ := r1
          obtain ⟨q1, q2⟩ := hks kk hc
          refine ⟨a, ct kk, some dx, c, cv, tb kk, rfl, o1.ok.f _ _ e1, fun dy ey => ?_, hcv, q1, q2, k g1 _ f1 o1 rfl⟩
          cases ey
          exact ⟨_, o1.ok.f _ _ e2⟩
        · cases h2
      · split at h2
        · rename_i kk hc
          cases h2
          obtain ⟨a, rfl, e1⟩ := r1
          obtain ⟨q1, q2⟩ := hks kk hc
          exact ⟨a, ct kk, none, c, cv, tb kk, rfl, o1.ok.f _ _ e1, (fun dy ey => by cases ey), hcv, q1, q2, k g1 _ f1 o1 rfl⟩
        · cases h2
      · cases h2⟩
end
end DLX

namespace Q00
open PySem L2 DL DLX
def topS (i : Nat) : Stmt := PySem.Challenge.pw_crossnest_k00_errors_made_by_hand.main.body.getD i (.Pass ⟨0, 0, 0, 0⟩)
abbrev s_law_box : Stmt := topS 12
abbrev s_law_take : Stmt := topS 13
abbrev s_law_cells : Stmt := topS 14
abbrev s_law_of : Stmt := topS 15
abbrev s_law_same : Stmt := topS 16
abbrev s_law_under : Stmt := topS 17
abbrev s_law_which : Stmt := topS 18
abbrev s_law_made_right : Stmt := topS 19
abbrev s_law_right : Stmt := topS 20
abbrev s_law : Stmt := topS 21
abbrev s_init0 : Stmt := inClass (topS 1) 0
abbrev s_init1 : Stmt := inClass (topS 2) 0
abbrev s_init2 : Stmt := inClass (topS 3) 0
abbrev s_init3 : Stmt := inClass (topS 4) 0
abbrev s_init4 : Stmt := inClass (topS 5) 0
abbrev s_init6 : Stmt := inClass (topS 7) 0
theorem sc_law_box : FnScope ["script", "k", "cell"] ["script", "k"] (defScope s_law_box) := ⟨rfl, rfl, rfl, by decide +kernel, rfl, by decide +kernel, by decide +kernel⟩
theorem sc_law_take : FnScope ["tin", "below_so", "once_so", "wide_so", "twice_so", "drawn"] ["tin", "below_so"] (defScope s_law_take) := ⟨rfl, rfl, rfl, by decide +kernel, rfl, by decide +kernel, by decide +kernel⟩
theorem sc_law_cells : FnScope ["script", "most_so", "cells_so", "k", "cell", "at_so"] ["script", "most_so"] (defScope s_law_cells) := ⟨rfl, rfl, rfl, by decide +kernel, rfl, by decide +kernel, by decide +kernel⟩
theorem sc_law_of : FnScope ["tin", "goods_so"] ["tin", "goods_so"] (defScope s_law_of) := ⟨rfl, rfl, rfl, by decide +kernel, rfl, by decide +kernel, by decide +kernel⟩
theorem sc_law_same : FnScope ["got", "due", "mine", "its"] ["got", "due"] (defScope s_law_same) := ⟨rfl, rfl, rfl, by decide +kernel, rfl, by decide +kernel, by decide +kernel⟩
theorem sc_law_under : FnScope ["error_so", "near", "far"] ["error_so"] (defScope s_law_under) := ⟨rfl, rfl, rfl, by decide +kernel, rfl, by decide +kernel, by decide +kernel⟩
theorem sc_law_which : FnScope ["error_so", "found"] ["error_so"] (defScope s_law_which) := ⟨rfl, rfl, rfl, by decide +kernel, rfl, by decide +kernel, by decide +kernel⟩
theorem sc_law_made_right : FnScope ["number_so", "trail_so", "word_so", "made_so", "got", "due_so", "value_so", "look_so", "at_so", "own", "k"] ["number_so", "trail_so", "word_so"] (defScope s_law_made_right) := ⟨rfl, rfl, rfl, by decide +kernel, rfl, by decide +kernel, by decide +kernel⟩
theorem sc_law_right : FnScope ["tin", "number_so", "trail_so", "lap"] ["tin"] (defScope s_law_right) := ⟨rfl, rfl, rfl, by decide +kernel, rfl, by decide +kernel, by decide +kernel⟩
theorem sc_law : FnScope ["script", "cases_so", "cells", "nth_so", "own"] ["script"] (defScope s_law) := ⟨rfl, rfl, rfl, by decide +kernel, rfl, by decide +kernel, by decide +kernel⟩
def ksA : Nat → Bool := fun k => decide (k < 10)
def ks_number : Nat → Bool := fun k => [0, 1, 3, 6].contains k
def ks_name : Nat → Bool := fun k => [4].contains k
def ks_path : Nat → Bool := fun k => [2].contains k
def tb_LookupError : Nat → Bool := fun k => ([0, 1, 2, 3, 4, 5] : List Nat).contains k
def tb_ValueError : Nat → Bool := fun k => ([6, 7, 8, 9] : List Nat).contains k
def tb_TypeError : Nat → Bool := fun k => ([] : List Nat).contains k
def tb_KeyError : Nat → Bool := fun k => ([] : List Nat).contains k
def tb_IndexError : Nat → Bool := fun k => ([] : List Nat).contains k
def tb_RuntimeError : Nat → Bool := fun k => ([] : List Nat).contains k
def tb_AttributeError : Nat → Bool := fun k => ([] : List Nat).contains k
def tb_Exception : Nat → Bool := fun k => ([0, 1, 2, 3, 4, 5, 6, 7, 8, 9] : List Nat).contains k
/-- no name of a built-in is the module's -/
structure Bt (mg : Str → Option Value) : Prop where
  AttributeError : mg "AttributeError" = none
  Exception : mg "Exception" = none
  IndexError : mg "IndexError" = none
  KeyError : mg "KeyError" = none
  LookupError : mg "LookupError" = none
  RuntimeError : mg "RuntimeError" = none
  TypeError : mg "TypeError" = none
  ValueError : mg "ValueError" = none
  abs : mg "abs" = none
  all : mg "all" = none
  bool : mg "bool" = none
  enumerate : mg "enumerate" = none
  int : mg "int" = none
  isinstance : mg "isinstance" = none
  len : mg "len" = none
  list : mg "list" = none
  range : mg "range" = none
  str : mg "str" = none
  tuple : mg "tuple" = none
  zip : mg "zip" = none
/-- what is known of the classes -/
structure Ex (P : Program) (w : World) (K : PySem.W.Frag) (mg : Str → Option Value) (base : Heap) (ct : Nat → Addr) (fd : Nat → FuncData) (fi : Nat → Addr) : Prop where
  g0 : mg "NoProcedure" = some (.ref (ct 0))
  T0 : XI P w K mg base (ct 0) "number" (fd 0) (fi 0) ["self", "number"]
  b0 : Binds K (fd 0) ["self", "number"] []
  d0 : ∀ (s : Shared) (self u : Value), K.In s.heap → BindsTo s (fd 0) ⟨[self], [("number", u)]⟩ ((["self", "number"] : List Str).zip [self, u])
  o0 : ∀ k, ksA k = true → XC K (ct k) ∧ PySem.W.kitOne K (.ref (ct k)) (.ref (ct 0)) = some (k == 0)
  g1 : mg "NoRule" = some (.ref (ct 1))
  T1 : XI P w K mg base (ct 1) "number" (fd 1) (fi 1) ["self", "number"]
  b1 : Binds K (fd 1) ["self", "number"] []
  d1 : ∀ (s : Shared) (self u : Value), K.In s.heap → BindsTo s (fd 1) ⟨[self], [("number", u)]⟩ ((["self", "number"] : List Str).zip [self, u])
  o1 : ∀ k, ksA k = true → XC K (ct k) ∧ PySem.W.kitOne K (.ref (ct k)) (.ref (ct 1)) = some (k == 1)
  g2 : mg "NoPath" = some (.ref (ct 2))
  T2 : XI P w K mg base (ct 2) "path" (fd 2) (fi 2) ["self", "path"]
  b2 : Binds K (fd 2) ["self", "path"] []
  d2 : ∀ (s : Shared) (self u : Value), K.In s.heap → BindsTo s (fd 2) ⟨[self], [("path", u)]⟩ ((["self", "path"] : List Str).zip [self, u])
  o2 : ∀ k, ksA k = true → XC K (ct k) ∧ PySem.W.kitOne K (.ref (ct k)) (.ref (ct 2)) = some (k == 2)
  g3 : mg "NoEvent" = some (.ref (ct 3))
  T3 : XI P w K mg base (ct 3) "number" (fd 3) (fi 3) ["self", "number"]
  b3 : Binds K (fd 3) ["self", "number"] []
  d3 : ∀ (s : Shared) (self u : Value), K.In s.heap → BindsTo s (fd 3) ⟨[self], [("number", u)]⟩ ((["self", "number"] : List Str).zip [self, u])
  o3 : ∀ k, ksA k = true → XC K (ct k) ∧ PySem.W.kitOne K (.ref (ct k)) (.ref (ct 3)) = some (k == 3)
  g4 : mg "NoName" = some (.ref (ct 4))
  T4 : XI P w K mg base (ct 4) "name" (fd 4) (fi 4) ["self", "name"]
  b4 : Binds K (fd 4) ["self", "name"] []
  d4 : ∀ (s : Shared) (self u : Value), K.In s.heap → BindsTo s (fd 4) ⟨[self], [("name", u)]⟩ ((["self", "name"] : List Str).zip [self, u])
  o4 : ∀ k, ksA k = true → XC K (ct k) ∧ PySem.W.kitOne K (.ref (ct k)) (.ref (ct 4)) = some (k == 4)
  g5 : mg "NothingDone" = some (.ref (ct 5))
  c5 : PySem.W.keepIn K (.ref (ct 5)) = true
  q5 : PySem.W.excIn K (ct 5) [.type "LookupError", .type "Exception", .type "BaseException", .type "object"] "LookupError.__new__" = true
  o5 : ∀ k, ksA k = true → XC K (ct k) ∧ PySem.W.kitOne K (.ref (ct k)) (.ref (ct 5)) = some (k == 5)
  g6 : mg "BadLine" = some (.ref (ct 6))
  T6 : XI P w K mg base (ct 6) "number" (fd 6) (fi 6) ["self", "number"]
  b6 : Binds K (fd 6) ["self", "number"] []
  d6 : ∀ (s : Shared) (self u : Value), K.In s.heap → BindsTo s (fd 6) ⟨[self], [("number", u)]⟩ ((["self", "number"] : List Str).zip [self, u])
  o6 : ∀ k, ksA k = true → XC K (ct k) ∧ PySem.W.kitOne K (.ref (ct k)) (.ref (ct 6)) = some (k == 6)
  g7 : mg "CanNot" = some (.ref (ct 7))
  c7 : PySem.W.keepIn K (.ref (ct 7)) = true
  q7 : PySem.W.excIn K (ct 7) [.type "ValueError", .type "Exception", .type "BaseException", .type "object"] "ValueError.__new__" = true
  o7 : ∀ k, ksA k = true → XC K (ct k) ∧ PySem.W.kitOne K (.ref (ct k)) (.ref (ct 7)) = some (k == 7)
  g8 : mg "TooMany" = some (.ref (ct 8))
  c8 : PySem.W.keepIn K (.ref (ct 8)) = true
  q8 : PySem.W.excIn K (ct 8) [.type "ValueError", .type "Exception", .type "BaseException", .type "object"] "ValueError.__new__" = true
  o8 : ∀ k, ksA k = true → XC K (ct k) ∧ PySem.W.kitOne K (.ref (ct k)) (.ref (ct 8)) = some (k == 8)
  g9 : mg "Unfit" = some (.ref (ct 9))
  c9 : PySem.W.keepIn K (.ref (ct 9)) = true
  q9 : PySem.W.excIn K (ct 9) [.type "ValueError", .type "Exception", .type "BaseException", .type "object"] "ValueError.__new__" = true
  o9 : ∀ k, ksA k = true → XC K (ct k) ∧ PySem.W.kitOne K (.ref (ct k)) (.ref (ct 9)) = some (k == 9)
  a_number : ∀ k, ks_number k = true → XC K (ct k) ∧ PySem.W.findIn K (.ref (ct k)) "number" = some none
  a_name : ∀ k, ks_name k = true → XC K (ct k) ∧ PySem.W.findIn K (.ref (ct k)) "name" = some none
  a_path : ∀ k, ks_path k = true → XC K (ct k) ∧ PySem.W.findIn K (.ref (ct k)) "path" = some none
  i_LookupError : ∀ k, ksA k = true → XC K (ct k) ∧ PySem.W.kitOne K (.ref (ct k)) (.type "LookupError") = some (tb_LookupError k)
  i_ValueError : ∀ k, ksA k = true → XC K (ct k) ∧ PySem.W.kitOne K (.ref (ct k)) (.type "ValueError") = some (tb_ValueError k)
  i_TypeError : ∀ k, ksA k = true → XC K (ct k) ∧ PySem.W.kitOne K (.ref (ct k)) (.type "TypeError") = some (tb_TypeError k)
  i_KeyError : ∀ k, ksA k = true → XC K (ct k) ∧ PySem.W.kitOne K (.ref (ct k)) (.type "KeyError") = some (tb_KeyError k)
  i_IndexError : ∀ k, ksA k = true → XC K (ct k) ∧ PySem.W.kitOne K (.ref (ct k)) (.type "IndexError") = some (tb_IndexError k)
  i_RuntimeError : ∀ k, ksA k = true → XC K (ct k) ∧ PySem.W.kitOne K (.ref (ct k)) (.type "RuntimeError") = some (tb_RuntimeError k)
  i_AttributeError : ∀ k, ksA k = true → XC K (ct k) ∧ PySem.W.kitOne K (.ref (ct k)) (.type "AttributeError") = some (tb_AttributeError k)
  i_Exception : ∀ k, ksA k = true → XC K (ct k) ∧ PySem.W.kitOne K (.ref (ct k)) (.type "Exception") = some (tb_Exception k)
def m_law_box : M Fl :=
    (mSeq (mSet 2 (mIf (mTestA (mBin fLt (mVar 1) (M.opt (mCall fLen (mCons (mVar 0) mNil)) frzA))) (M.opt (mBin fIx (mVar 0) (mVar 1)) frzA) (M.ret (.int 0))))
    (mRetA (mLst (mCons (M.opt (mBin fMul (M.opt (mCall fAbs (mCons (mVar 2) mNil)) frzA) (M.opt (mCall fInt (mCons (M.opt (mBin fGe (M.opt (mCall fAbs (mCons (mVar 2) mNil)) frzA) (M.opt (mBin fPow (M.ret (.int 10)) (M.ret (.int 18))) frzA)) frzA) mNil)) frzA)) frzA) (mCons (M.opt (mBin fAdd (M.opt (mBin fAdd (M.opt (mBin fMod (M.opt (mCall fInt (mCons (mVar 2) mNil)) frzA) (M.ret (.int 2305843009213693951))) frzA) (M.opt (mBin fMul (M.ret (.int 39373)) (mVar 1)) frzA)) frzA) (M.ret (.int 1945000))) frzA) (mCons (M.ret (.int 0)) mNil))))))
def f_law_box : FM := runF 2 3 m_law_box
def m_law_take : M Fl :=
    (mSeq (mIfS (mTestA (mBin fGt (mIxO 0 (M.ret (.int 0))) (M.ret (.int 0)))) (mSeq (mSet 5 (M.opt (mBin fMod (M.opt (mCall fInt (mCons (mIxO 0 (M.ret (.int 0))) mNil)) frzA) (mVar 1)) frzA))
    (mSeq (mSto 0 (M.ret (.int 0)) (M.opt (mBin fDiv (mIxO 0 (M.ret (.int 0))) (mVar 1)) frzA))
    (mRet (mVar 5)))) (M.ret .nx))
    (mSeq (mSto 0 (M.ret (.int 2)) (M.opt (mBin fAdd (mIxO 0 (M.ret (.int 2))) (M.ret (.int 1))) frzA))
    (mSeq (mSet 2 (M.opt (mBin fMod (M.opt (mCall fInt (mCons (M.opt (mBin fMul (M.opt (mBin fAdd (mIxO 0 (M.ret (.int 1))) (M.opt (mBin fMul (M.ret (.int 48271)) (mIxO 0 (M.ret (.int 2)))) frzA)) frzA) (M.opt (mBin fAdd (M.ret (.int 39373)) (mIxO 0 (M.ret (.int 2)))) frzA)) frzA) mNil)) frzA) (M.ret (.int 2147483647))) frzA))
    (mSeq (mSet 3 (M.opt (mBin fAdd (M.opt (mBin fMod (M.opt (mCall fInt (mCons (mVar 2) mNil)) frzA) (M.ret (.int 40009))) frzA) (M.ret (.int 7))) frzA))
    (mSeq (mSet 4 (M.opt (mBin fMod (M.opt (mCall fInt (mCons (M.opt (mBin fMul (M.opt (mBin fAdd (M.opt (mBin fAdd (mVar 2) (mIxO 0 (M.ret (.int 2)))) frzA) (M.opt (mBin fDiv (mIxO 0 (M.ret (.int 1))) (M.ret (.int 1000003))) frzA)) frzA) (mVar 3)) frzA) mNil)) frzA) (M.ret (.int 2147483629))) frzA))
    (mRetA (mBin fMod (M.opt (mCall fInt (mCons (M.opt (mBin fDiv (M.opt (mBin fMod (M.opt (mCall fInt (mCons (M.opt (mBin fAdd (M.opt (mBin fMul (mVar 4) (M.ret (.int 48271))) frzA) (mVar 2)) frzA) mNil)) frzA) (M.ret (.int 2147483587))) frzA) (M.ret (.int 64))) frzA) mNil)) frzA) (mVar 1))))))))
def f_law_take : FM := runF 2 6 m_law_take
def m_law_cells : M Fl :=
    (mSeq (mSetA 2 (mOrV (mCall fList (mCons (M.opt (mSl (mVar 0) (M.ret none) (mInt? (mVar 1))) frzA) mNil)) (mLst (mCons (M.ret (.int 0)) mNil))))
    (mSeq (mFor (M.opt (mCons (M.opt (mSl (mVar 0) (mInt? (mVar 1)) (mInt? (M.ret (.int 63)))) frzA) mNil) fEnum) (gmTup 2 (gmCons (gmName 3) (gmCons (gmName 4) gmNil)))
    (mSeq (mSet 5 (M.opt (mBin fMod (M.opt (mCall fInt (mCons (mVar 3) mNil)) frzA) (mVar 1)) frzA))
    (mSto 2 (mVar 5) (M.opt (mBin fAdd (mIxO 2 (mVar 5)) (M.opt (mBin fMul (mVar 4) (M.opt (mBin fAdd (mVar 3) (M.ret (.int 2))) frzA)) frzA)) frzA))))
    (mRetO 2)))
def f_law_cells : FM := runF 2 6 m_law_cells
def m_law_of : M Fl :=
    (mRetA (mBin fIx (mVar 1) (M.opt (mCallF f_law_take (agL 0 (agV (M.opt (mCall fLen (mCons (mVar 1) mNil)) frzA) agNil))) frzA)))
def f_law_of : FM := runF 2 2 m_law_of
def m_law_same (rec_ : FM) : M Fl :=
    (mSeq (mIfS (mTru (M.opt (M.opt (mVar 1) (fIsi ["list", "tuple"])) frzA)) (mSeq (mIfS (mOrB (mTestA (mBin fNe (M.opt (M.opt (mVar 0) (fIsi ["list"])) frzA) (M.opt (M.opt (mVar 1) (fIsi ["list"])) frzA))) (mTestA (mBin fNe (M.opt (M.opt (mVar 0) (fIsi ["tuple"])) frzA) (M.opt (M.opt (mVar 1) (fIsi ["tuple"])) frzA)))) (mRet (M.ret (.bl false))) (M.ret .nx))
    (mRetA (mAndV (mBin fEq (M.opt (mCall fLen (mCons (mVar 0) mNil)) frzA) (M.opt (mCall fLen (mCons (mVar 1) mNil)) frzA)) (mCall fAll (mCons (M.opt (mLc (M.opt (mCons (mVar 0) (mCons (mVar 1) mNil)) fZip) (gmTup 2 (gmCons (gmName 2) (gmCons (gmName 3) gmNil))) (M.ret true) (M.opt (mCallF rec_ (agV (mVar 2) (agV (mVar 3) agNil))) frzA) [2, 3]) frzA) mNil))))) (M.ret .nx))
    (mSeq (mIfS (mOrB (mTestA (mBin fIsN (mVar 1) (M.ret .non))) (mTru (M.opt (M.opt (mVar 1) (fIsi ["bool", "str"])) frzA))) (mRetA (mAndV (mBin fEq (mVar 0) (mVar 1)) (mAndV (mBin fEq (M.opt (M.opt (mVar 0) (fIsi ["bool"])) frzA) (M.opt (M.opt (mVar 1) (fIsi ["bool"])) frzA)) (mBin fEq (M.opt (mBin fIsN (mVar 0) (M.ret .non)) frzA) (M.opt (mBin fIsN (mVar 1) (M.ret .non)) frzA))))) (M.ret .nx))
    (mRetA (mAndV (M.opt (mVar 0) (fIsi ["int"])) (mAndV (M.opt (mNotV (M.opt (M.opt (mVar 0) (fIsi ["bool"])) frzA)) fun d => some (.v d)) (mBin fEq (mVar 0) (mVar 1)))))))
def fS : Nat → FM
  | 0 => fun _ => none
  | n + 1 => runF 2 4 (m_law_same (fS n))
theorem fS_len {n : Nat} (as : List Ar) (r : Ar × Option O) (h : fS n as = some r) : as.length = 2 := by
  cases n with
  | zero => exact nomatch h
  | succ n => exact runF_len as r h
abbrev f_law_same : FM := fS 6
def m_law_under : M Fl :=
    (mSeq (mSet 1 (M.opt (mLst (mCons (mXi ksA tb_LookupError (mVar 0)) (mCons (mXi ksA tb_ValueError (mVar 0)) (mCons (mXi ksA tb_TypeError (mVar 0)) mNil)))) frzA))
    (mSeq (mSet 2 (M.opt (mLst (mCons (mXi ksA tb_KeyError (mVar 0)) (mCons (mXi ksA tb_IndexError (mVar 0)) mNil))) frzA))
    (mRetA (mBin fAdd (M.opt (mBin fAdd (mVar 1) (mVar 2)) frzA) (M.opt (mLst (mCons (mXi ksA tb_RuntimeError (mVar 0)) (mCons (mXi ksA tb_AttributeError (mVar 0)) (mCons (mXi ksA tb_Exception (mVar 0)) mNil)))) frzA)))))
def f_law_under : FM := runF 1 3 m_law_under
def m_law_which : M Fl :=
    (mSeq (mSet 1 (M.opt (mLst (mCons (mXi ksA (fun k => k == 6) (mVar 0)) (mCons (mXi ksA (fun k => k == 7) (mVar 0)) (mCons (mXi ksA (fun k => k == 3) (mVar 0)) (mCons (mXi ksA (fun k => k == 4) (mVar 0)) mNil))))) frzA))
    (mSeq (mSet 1 (M.opt (mBin fAdd (mVar 1) (M.opt (mLst (mCons (mXi ksA (fun k => k == 2) (mVar 0)) (mCons (mXi ksA (fun k => k == 0) (mVar 0)) (mCons (mXi ksA (fun k => k == 1) (mVar 0)) mNil)))) frzA)) frzA))
    (mRetA (mBin fAdd (mVar 1) (M.opt (mLst (mCons (mXi ksA (fun k => k == 5) (mVar 0)) (mCons (mXi ksA (fun k => k == 8) (mVar 0)) (mCons (mXi ksA (fun k => k == 9) (mVar 0)) mNil)))) frzA)))))
def f_law_which : FM := runF 1 2 m_law_which
def m_law_made_right : M Fl :=
    (mSeq (mPar 6 7 (mCons (M.opt (mBin fAdd (M.opt (mBin fAdd (M.opt (mLst (mCons (M.ret (.bl false)) (mCons (M.ret (.bl true)) mNil))) frzA) (M.opt (mBin fMul (M.opt (mLst (mCons (M.ret (.bl false)) mNil)) frzA) (M.ret (.int 5))) frzA)) frzA) (M.opt (mLst (mCons (M.ret (.bl true)) mNil)) frzA)) frzA) (mCons (M.opt (mBin fAdd (M.opt (mBin fAdd (M.opt (mLst (mCons (M.ret (.bl true)) mNil)) frzA) (M.opt (mBin fMul (M.opt (mLst (mCons (M.ret (.bl false)) mNil)) frzA) (M.ret (.int 6))) frzA)) frzA) (M.opt (mLst (mCons (M.ret (.bl true)) mNil)) frzA)) frzA) mNil)))
    (mSeq (mSet 3 (M.opt (mLst (mCons (mMk 6 "number" (mVar 0)) (mCons (M.ret (.ex0 7)) (mCons (mMk 3 "number" (mVar 0)) (mCons (mMk 4 "name" (mVar 2)) (mCons (mMk 2 "path" (mVar 1)) (mCons (mMk 0 "number" (mVar 0)) (mCons (mMk 1 "number" (mVar 0)) (mCons (M.ret (.ex0 5)) (mCons (M.ret (.ex0 8)) (mCons (M.ret (.ex0 9)) mNil))))))))))) frzA))
    (mSeq (mSetA 4 (mLst (mCons (M.opt (mLst (mCons (mXat ks_number "number" (M.opt (mBin fIx (mVar 3) (M.ret (.int 0))) frzA)) (mCons (mXat ks_number "number" (M.opt (mBin fIx (mVar 3) (M.ret (.int 2))) frzA)) (mCons (mXat ks_name "name" (M.opt (mBin fIx (mVar 3) (M.ret (.int 3))) frzA)) (mCons (mXat ks_path "path" (M.opt (mBin fIx (mVar 3) (M.ret (.int 4))) frzA)) (mCons (mXat ks_number "number" (M.opt (mBin fIx (mVar 3) (M.ret (.int 5))) frzA)) (mCons (mXat ks_number "number" (M.opt (mBin fIx (mVar 3) (M.ret (.int 6))) frzA)) mNil))))))) frzA) mNil)))
    (mSeq (mApp 4 (M.opt (mLst (mCons (mXat ks_number "number" (mMk 6 "number" (mVar 0))) (mCons (mXat ks_number "number" (mMk 3 "number" (mVar 0))) (mCons (mXat ks_name "name" (mMk 4 "name" (mVar 2))) (mCons (mXat ks_path "path" (mMk 2 "path" (mVar 1))) (mCons (mXat ks_number "number" (mMk 0 "number" (mVar 0))) (mCons (mXat ks_number "number" (mMk 1 "number" (mVar 0))) mNil))))))) frzA))
    (mSeq (mSet 5 (M.opt (mBin fMul (M.opt (mLst (mCons (M.opt (mLst (mCons (mVar 0) (mCons (mVar 0) (mCons (mVar 2) (mCons (mVar 1) (mCons (mVar 0) (mCons (mVar 0) mNil))))))) frzA) mNil)) frzA) (M.ret (.int 2))) frzA))
    (mFrz 4 (mSeq (mFor (M.opt (mCons (mVar 3) mNil) fEnum) (gmTup 2 (gmCons (gmName 8) (gmCons (gmName 9) gmNil)))
    (mFrz 4 (mSeq (mSetA 4 (mBin fAdd (mVar 4) (M.opt (mLst (mCons (M.opt (mCallF f_law_under (agV (mVar 9) agNil)) frzA) (mCons (M.opt (mCallF f_law_which (agV (mVar 9) agNil)) frzA) mNil))) frzA)))
    (mSet 5 (M.opt (mBin fAdd (mVar 5) (M.opt (mLst (mCons (mIf (mTestA (mChain fLe fLe (M.ret (.int 2)) (mVar 8) (M.ret (.int 7)))) (mVar 7) (mVar 6)) (mCons (M.opt (mLc (M.opt (mCons (M.ret (.int 10)) mNil) fRng1) (gmName 10) (M.ret true) (M.opt (mBin fEq (mVar 10) (mVar 8)) frzA) [10]) frzA) mNil))) frzA)) frzA)))))
    (mFrz 4 (mRetA (mCallF f_law_same (agV (mVar 4) (agV (mVar 5) agNil))))))))))))
def f_law_made_right : FM := runF 3 11 m_law_made_right
def m_law_right : M Fl :=
    (mSeq (mSet 1 (M.opt (mBin fMul (M.opt (mBin fSub (M.opt (mCallF f_law_take (agL 0 (agV (M.ret (.int 3)) agNil))) frzA) (M.ret (.int 1))) frzA) (M.opt (mCallF f_law_of (agL 0 (agV (M.opt (mLst (mCons (M.ret (.int 0)) (mCons (M.ret (.int 1)) (mCons (M.ret (.int 7)) (mCons (M.opt (mBin fPow (M.ret (.int 10)) (M.ret (.int 6))) frzA) (mCons (M.opt (mCallF f_law_take (agL 0 (agV (M.ret (.int 1000)) agNil))) frzA) mNil)))))) frzA) agNil))) frzA)) frzA))
    (mSeq (mSet 2 (M.opt (mCall fTuple (mCons (M.opt (mLc (M.opt (mCons (M.opt (mCallF f_law_take (agL 0 (agV (M.ret (.int 4)) agNil))) frzA) mNil) fRng1) (gmName 3) (M.ret true) (M.opt (mCallF f_law_take (agL 0 (agV (M.ret (.int 3)) agNil))) frzA) [3]) frzA) mNil)) frzA))
    (mRetA (mCallF f_law_made_right (agV (mVar 1) (agV (mVar 2) (agV (M.opt (mCallF f_law_of (agL 0 (agV (M.opt (mLst (mCons (M.ret (.str "a")) (mCons (M.ret (.str "x")) (mCons (M.ret (.str "z")) mNil)))) frzA) agNil))) frzA) agNil)))))))
def f_law_right : FM := runF 1 4 m_law_right
def m_law : M Fl :=
    (mSeq (mSet 1 (mTup (mCons (mTup (mCons (M.ret (.int 0)) (mCons (mTup mNil) (mCons (M.ret (.str "a")) mNil)))) (mCons (mTup (mCons (M.opt (mUn fNeg (M.ret (.int 1))) frzA) (mCons (mTup (mCons (M.ret (.int 0)) mNil)) (mCons (M.ret (.str "b")) mNil)))) (mCons (mTup (mCons (M.opt (mBin fPow (M.ret (.int 10)) (M.ret (.int 6))) frzA) (mCons (mTup (mCons (M.ret (.int 2)) (mCons (M.ret (.int 0)) (mCons (M.ret (.int 1)) mNil)))) (mCons (M.ret (.str "z")) mNil)))) mNil)))))
    (mSeq (mIfS (mNotB (mTru (M.opt (mCall fAll (mCons (M.opt (mLc (M.opt (mVar 1) seqD) (gmName 4) (M.ret true) (M.opt (mCallF f_law_made_right (agV (M.opt (mBin fIx (mVar 4) (M.ret (.int 0))) frzA) (agV (M.opt (mBin fIx (mVar 4) (M.ret (.int 1))) frzA) (agV (M.opt (mBin fIx (mVar 4) (M.ret (.int 2))) frzA) agNil)))) frzA) [4]) frzA) mNil)) frzA))) (mRet (M.ret (.bl false))) (M.ret .nx))
    (mSeq (mSet 2 (M.opt (mCallF f_law_cells (agV (mVar 0) (agV (M.ret (.int 2)) agNil))) frzA))
    (mRetA (mCall fAll (mCons (M.opt (mLc (M.opt (mCons (M.opt (mCall fLen (mCons (mVar 2) mNil)) frzA) mNil) fRng1) (gmName 3) (M.ret true) (M.opt (mCallF f_law_right (agT (mCallF f_law_box (agV (mVar 2) (agV (mVar 3) agNil))))) frzA) [3]) frzA) mNil))))))
def f_law : FM := runF 1 5 m_law
section
variable {P : Program} {w : World} {K : PySem.W.Frag} {mg : Str → Option Value} {base : Heap} {ct : Nat → Addr} {fd : Nat → FuncData} {fi : Nat → Addr}
theorem ok_law_box {f : Addr} {fx : FuncData} (B : Bt mg) (F : Fun K "_law_box" "_law_box" s_law_box f fx) : FnOk P w K mg base CX0 1 f fx ["script", "k"] (FnSp ⟨K, ct⟩ 2 f_law_box) :=
  fn_ok F sc_law_box rfl fun cdv A outer s H E hr => ⟨_, (ss_cons (sx_set 2 sc_law_box.nd (ex_if (tx_cmp op_lt sr_lt (ex_var 1) (EA.fz (ea_cb (r := rLenA K) (orCall call_len_seq call_len_str) sc_len B.len (ax_cons (ex_var 0) ax_nil))) (nomark _)) (EA.fz (ea_ix (K := K) (ex_var 0) (ex_var 1))) ex_int))
    (ss_one (sx_retA (ea_lst (ax_cons (EA.fz (ea_mul (EA.fz (ea_cb call_abs sc_abs B.abs (ax_cons (ex_var 2) ax_nil))) (EA.fz (ea_cty call_int1 sc_int B.int (ax_cons (EA.fz (ea_ge (EA.fz (ea_cb call_abs sc_abs B.abs (ax_cons (ex_var 2) ax_nil))) (EA.fz (ea_pow ex_int ex_int)))) ax_nil))))) (ax_cons (EA.fz (ea_add (K := K) (EA.fz (ea_add (K := K) (EA.fz (ea_mod (EA.fz (ea_cty call_int1 sc_int B.int (ax_cons (ex_var 2) ax_nil))) ex_int)) (EA.fz (ea_mul ex_int (ex_var 1))))) ex_int)) (ax_cons ex_int ax_nil)))))))⟩
theorem ok_law_take {f : Addr} {fx : FuncData} (B : Bt mg) (F : Fun K "_law_take" "_law_take" s_law_take f fx) : FnOk P w K mg base CX0 1 f fx ["tin", "below_so"] (FnSp ⟨K, ct⟩ 2 f_law_take) :=
  fn_ok F sc_law_take rfl fun cdv A outer s H E hr => ⟨_, (ss_cons (sx_if (tx_cmp op_gt sr_gt (ex_ixO (K := K) 0 ex_int) ex_int (nomark _)) (ss_cons (sx_set 5 sc_law_take.nd (EA.fz (ea_mod (EA.fz (ea_cty call_int1 sc_int B.int (ax_cons (ex_ixO (K := K) 0 ex_int) ax_nil))) (ex_var 1))))
    (ss_cons (sx_stoP 0 (EA.fz (ea_div (ex_ixO (K := K) 0 ex_int) (ex_var 1))) ex_int)
    (ss_one (sx_ret (ex_var 5))))) ss_nil)
    (ss_cons (sx_stoP 0 (EA.fz (ea_add (K := K) (ex_ixO (K := K) 0 ex_int) ex_int)) ex_int)
    (ss_cons (sx_set 2 sc_law_take.nd (EA.fz (ea_mod (EA.fz (ea_cty call_int1 sc_int B.int (ax_cons (EA.fz (ea_mul (EA.fz (ea_add (K := K) (ex_ixO (K := K) 0 ex_int) (EA.fz (ea_mul ex_int (ex_ixO (K := K) 0 ex_int))))) (EA.fz (ea_add (K := K) ex_int (ex_ixO (K := K) 0 ex_int))))) ax_nil))) ex_int)))
    (ss_cons (sx_set 3 sc_law_take.nd (EA.fz (ea_add (K := K) (EA.fz (ea_mod (EA.fz (ea_cty call_int1 sc_int B.int (ax_cons (ex_var 2) ax_nil))) ex_int)) ex_int)))
    (ss_cons (sx_set 4 sc_law_take.nd (EA.fz (ea_mod (EA.fz (ea_cty call_int1 sc_int B.int (ax_cons (EA.fz (ea_mul (EA.fz (ea_add (K := K) (EA.fz (ea_add (K := K) (ex_var 2) (ex_ixO (K := K) 0 ex_int))) (EA.fz (ea_div (ex_ixO (K := K) 0 ex_int) ex_int)))) (ex_var 3))) ax_nil))) ex_int)))
    (ss_one (sx_retA (ea_mod (EA.fz (ea_cty call_int1 sc_int B.int (ax_cons (EA.fz (ea_div (EA.fz (ea_mod (EA.fz (ea_cty call_int1 sc_int B.int (ax_cons (EA.fz (ea_add (K := K) (EA.fz (ea_mul (ex_var 4) ex_int)) (ex_var 2))) ax_nil))) ex_int)) ex_int)) ax_nil))) (ex_var 1)))))))))⟩
theorem ok_law_cells {f : Addr} {fx : FuncData} (B : Bt mg) (F : Fun K "_law_cells" "_law_cells" s_law_cells f fx) : FnOk P w K mg base CX0 1 f fx ["script", "most_so"] (FnSp ⟨K, ct⟩ 2 f_law_cells) :=
  fn_ok F sc_law_cells rfl fun cdv A outer s H E hr => ⟨_, (ss_cons (sx_setA 2 sc_law_cells.nd (ea_or (K := K) (ea_cty (r := rLstA K) call_list_of sc_list B.list (ax_cons (EA.fz (ea_sl (K := K) (ex_var 0) ox_none (ox_some (ex_var 1)))) ax_nil)) (ea_one (ea_lst (ax_cons ex_int ax_nil)))))
    (ss_cons (sx_for PassesOwn.never rfl (ix_enum (K := K) B.enumerate (ax_cons (EA.fz (ea_sl (K := K) (ex_var 0) (ox_some (ex_var 1)) (ox_some ex_int))) ax_nil)) (gx_tup (K := K) (gxs_cons (gx_name 3 sc_law_cells.nd) (gxs_cons (gx_name 4 sc_law_cells.nd) gxs_nil)))
    (ss_cons (sx_set 5 sc_law_cells.nd (EA.fz (ea_mod (EA.fz (ea_cty call_int1 sc_int B.int (ax_cons (ex_var 3) ax_nil))) (ex_var 1))))
    (ss_one (sx_stoP 2 (EA.fz (ea_add (K := K) (ex_ixO (K := K) 2 (ex_var 5)) (EA.fz (ea_mul (ex_var 4) (EA.fz (ea_add (K := K) (ex_var 3) ex_int)))))) (ex_var 5)))))
    (ss_one (sx_retO 2))))⟩
theorem ok_law_of {f : Addr} {fx : FuncData} (B : Bt mg) (F : Fun K "_law_of" "_law_of" s_law_of f fx) {a_law_take : Addr} {d_law_take : FuncData} (G_law_take : FnOk P w K mg base CX0 1 a_law_take d_law_take ["tin", "below_so"] (FnSp ⟨K, ct⟩ 2 f_law_take)) (g_law_take : mg "_law_take" = some (.ref a_law_take)) (k_law_take : PySem.W.keepIn K (.ref a_law_take) = true) (b_law_take : Binds K d_law_take ["tin", "below_so"] []) : FnOk P w K mg base CX0 2 f fx ["tin", "goods_so"] (FnSp ⟨K, ct⟩ 2 f_law_of) :=
  fn_ok F sc_law_of rfl fun cdv A outer s H E hr => ⟨_, (ss_one (sx_retA (ea_ix (K := K) (ex_var 1) (EA.fz (ea_call G_law_take hr g_law_take k_law_take b_law_take runF_len (ag_l 0 (ag_v (EA.fz (ea_cb (r := rLenA K) (orCall call_len_seq call_len_str) sc_len B.len (ax_cons (ex_var 1) ax_nil))) ag_nil)))))))⟩
theorem ok_law_same {f : Addr} {fx : FuncData} (B : Bt mg) (F : Fun K "_law_same" "_law_same" s_law_same f fx) (g_law_same : mg "_law_same" = some (.ref f)) (b_law_same : Binds K fx ["got", "due"] []) : ∀ n, FnOk P w K mg base CX0 n f fx ["got", "due"] (FnSp ⟨K, ct⟩ 2 (fS n))
  | 0 => fn_zero
  | n + 1 => by
    have G := ok_law_same B F g_law_same b_law_same n
    exact fn_ok F sc_law_same rfl fun cdv A outer s H E hr => ⟨_, (ss_cons (sx_if (tx_tru (K := K) (EX.et (EA.fz (ea_isi2 (K := K) B.isinstance (ex_var 1) B.list B.tuple "list" "tuple")))) (ss_cons (sx_if (TW.tx (tw_or (tx_cmp op_ne sr_ne (EA.fz (ea_isi (K := K) B.isinstance (ex_var 0) B.list "list")) (EA.fz (ea_isi (K := K) B.isinstance (ex_var 1) B.list "list")) (nomark _)) (tw_or1 (tx_cmp op_ne sr_ne (EA.fz (ea_isi (K := K) B.isinstance (ex_var 0) B.tuple "tuple")) (EA.fz (ea_isi (K := K) B.isinstance (ex_var 1) B.tuple "tuple")) (nomark _))))) (ss_one (sx_ret ex_bl)) ss_nil)
    (ss_one (sx_retA (ea_and (K := K) (ea_eq (EA.fz (ea_cb (r := rLenA K) (orCall call_len_seq call_len_str) sc_len B.len (ax_cons (ex_var 0) ax_nil))) (EA.fz (ea_cb (r := rLenA K) (orCall call_len_seq call_len_str) sc_len B.len (ax_cons (ex_var 1) ax_nil)))) (ea_one (ea_cb (r := rAll K) (cr_all rfl) sc_all B.all (ax_cons (EA.fz (ea_lc rfl sc_law_same.nd [("mine", 2), ("its", 3)] (ix_zip (K := K) B.zip (ax_cons (ex_var 0) (ax_cons (ex_var 1) ax_nil))) (blkOk_by (N := ["got", "due", "mine", "its"]) (sc := defScope s_law_same) (by decide +kernel)) (fun _ _ _ _ _ => (gx_tup (K := K) (gxs_cons (gx_name 2 sc_law_same.nd) (gxs_cons (gx_name 3 sc_law_same.nd) gxs_nil)))) (fun _ _ _ _ _ => tsx_nil) (fun _ _ _ _ _ => (EA.fz (ea_call G hr g_law_same F.kp b_law_same fS_len (ag_v (ex_var 2) (ag_v (ex_var 3) ag_nil))))))) ax_nil))))))) ss_nil)
    (ss_cons (sx_if (TW.tx (tw_or (tx_cmp op_isN sr_isN (ex_var 1) ex_non (nomark _)) (tw_or1 (tx_tru (K := K) (EX.et (EA.fz (ea_isi2 (K := K) B.isinstance (ex_var 1) B.bool B.str "bool" "str"))))))) (ss_one (sx_retA (ea_and (K := K) (ea_eq (ex_var 0) (ex_var 1)) (ea_and (K := K) (ea_eq (EA.fz (ea_isi (K := K) B.isinstance (ex_var 0) B.bool "bool")) (EA.fz (ea_isi (K := K) B.isinstance (ex_var 1) B.bool "bool"))) (ea_one (ea_eq (EA.fz (ea_isN (ex_var 0) ex_non)) (EA.fz (ea_isN (ex_var 1) ex_non)))))))) ss_nil)
    (ss_one (sx_retA (ea_and (K := K) (ea_isi (K := K) B.isinstance (ex_var 0) B.int "int") (ea_and (K := K) (EX.up (ex_not (K := K) (EX.et (EA.fz (ea_isi (K := K) B.isinstance (ex_var 0) B.bool "bool"))))) (ea_one (ea_eq (ex_var 0) (ex_var 1)))))))))⟩
theorem ok_law_under {f : Addr} {fx : FuncData} (B : Bt mg) (X : Ex P w K mg base ct fd fi) (F : Fun K "_law_under" "_law_under" s_law_under f fx) : FnOk P w K mg base CX0 1 f fx ["error_so"] (FnSp ⟨K, ct⟩ 1 f_law_under) :=
  fn_ok F sc_law_under rfl fun cdv A outer s H E hr => ⟨_, (ss_cons (sx_set 1 sc_law_under.nd (EA.fz (ea_lst (ax_cons (ex_xi (K := K) ksA tb_LookupError B.isinstance (pe_ty B.LookupError (T := "LookupError") (by decide +kernel) rfl) (fun _ h => h) X.i_LookupError (ex_var 0)) (ax_cons (ex_xi (K := K) ksA tb_ValueError B.isinstance (pe_ty B.ValueError (T := "ValueError") (by decide +kernel) rfl) (fun _ h => h) X.i_ValueError (ex_var 0)) (ax_cons (ex_xi (K := K) ksA tb_TypeError B.isinstance (pe_ty B.TypeError (T := "TypeError") (by decide +kernel) rfl) (fun _ h => h) X.i_TypeError (ex_var 0)) ax_nil))))))
    (ss_cons (sx_set 2 sc_law_under.nd (EA.fz (ea_lst (ax_cons (ex_xi (K := K) ksA tb_KeyError B.isinstance (pe_ty B.KeyError (T := "KeyError") (by decide +kernel) rfl) (fun _ h => h) X.i_KeyError (ex_var 0)) (ax_cons (ex_xi (K := K) ksA tb_IndexError B.isinstance (pe_ty B.IndexError (T := "IndexError") (by decide +kernel) rfl) (fun _ h => h) X.i_IndexError (ex_var 0)) ax_nil)))))
    (ss_one (sx_retA (ea_add (K := K) (EA.fz (ea_add (K := K) (ex_var 1) (ex_var 2))) (EA.fz (ea_lst (ax_cons (ex_xi (K := K) ksA tb_RuntimeError B.isinstance (pe_ty B.RuntimeError (T := "RuntimeError") (by decide +kernel) rfl) (fun _ h => h) X.i_RuntimeError (ex_var 0)) (ax_cons (ex_xi (K := K) ksA tb_AttributeError B.isinstance (pe_ty B.AttributeError (T := "AttributeError") (by decide +kernel) rfl) (fun _ h => h) X.i_AttributeError (ex_var 0)) (ax_cons (ex_xi (K := K) ksA tb_Exception B.isinstance (pe_ty B.Exception (T := "Exception") (by decide +kernel) rfl) (fun _ h => h) X.i_Exception (ex_var 0)) ax_nil))))))))))⟩
theorem ok_law_which {f : Addr} {fx : FuncData} (B : Bt mg) (X : Ex P w K mg base ct fd fi) (F : Fun K "_law_which" "_law_which" s_law_which f fx) : FnOk P w K mg base CX0 1 f fx ["error_so"] (FnSp ⟨K, ct⟩ 1 f_law_which) :=
  fn_ok F sc_law_which rfl fun cdv A outer s H E hr => ⟨_, (ss_cons (sx_set 1 sc_law_which.nd (EA.fz (ea_lst (ax_cons (ex_xi (K := K) ksA (fun k => k == 6) B.isinstance (pe_glob (v := .ref (ct 6)) rfl X.g6 rfl) (fun _ h => h) X.o6 (ex_var 0)) (ax_cons (ex_xi (K := K) ksA (fun k => k == 7) B.isinstance (pe_glob (v := .ref (ct 7)) rfl X.g7 rfl) (fun _ h => h) X.o7 (ex_var 0)) (ax_cons (ex_xi (K := K) ksA (fun k => k == 3) B.isinstance (pe_glob (v := .ref (ct 3)) rfl X.g3 rfl) (fun _ h => h) X.o3 (ex_var 0)) (ax_cons (ex_xi (K := K) ksA (fun k => k == 4) B.isinstance (pe_glob (v := .ref (ct 4)) rfl X.g4 rfl) (fun _ h => h) X.o4 (ex_var 0)) ax_nil)))))))
    (ss_cons (sx_set 1 sc_law_which.nd (EA.fz (ea_add (K := K) (ex_var 1) (EA.fz (ea_lst (ax_cons (ex_xi (K := K) ksA (fun k => k == 2) B.isinstance (pe_glob (v := .ref (ct 2)) rfl X.g2 rfl) (fun _ h => h) X.o2 (ex_var 0)) (ax_cons (ex_xi (K := K) ksA (fun k => k == 0) B.isinstance (pe_glob (v := .ref (ct 0)) rfl X.g0 rfl) (fun _ h => h) X.o0 (ex_var 0)) (ax_cons (ex_xi (K := K) ksA (fun k => k == 1) B.isinstance (pe_glob (v := .ref (ct 1)) rfl X.g1 rfl) (fun _ h => h) X.o1 (ex_var 0)) ax_nil))))))))
    (ss_one (sx_retA (ea_add (K := K) (ex_var 1) (EA.fz (ea_lst (ax_cons (ex_xi (K := K) ksA (fun k => k == 5) B.isinstance (pe_glob (v := .ref (ct 5)) rfl X.g5 rfl) (fun _ h => h) X.o5 (ex_var 0)) (ax_cons (ex_xi (K := K) ksA (fun k => k == 8) B.isinstance (pe_glob (v := .ref (ct 8)) rfl X.g8 rfl) (fun _ h => h) X.o8 (ex_var 0)) (ax_cons (ex_xi (K := K) ksA (fun k => k == 9) B.isinstance (pe_glob (v := .ref (ct 9)) rfl X.g9 rfl) (fun _ h => h) X.o9 (ex_var 0)) ax_nil))))))))))⟩
theorem ok_law_made_right {f : Addr} {fx : FuncData} (B : Bt mg) (X : Ex P w K mg base ct fd fi) (F : Fun K "_law_made_right" "_law_made_right" s_law_made_right f fx) {a_law_which : Addr} {d_law_which : FuncData} (G_law_which : FnOk P w K mg base CX0 1 a_law_which d_law_which ["error_so"] (FnSp ⟨K, ct⟩ 1 f_law_which)) (g_law_which : mg "_law_which" = some (.ref a_law_which)) (k_law_which : PySem.W.keepIn K (.ref a_law_which) = true) (b_law_which : Binds K d_law_which ["error_so"] []) {a_law_under : Addr} {d_law_under : FuncData} (G_law_under : FnOk P w K mg base CX0 1 a_law_under d_law_under ["error_so"] (FnSp ⟨K, ct⟩ 1 f_law_under)) (g_law_under : mg "_law_under" = some (.ref a_law_under)) (k_law_under : PySem.W.keepIn K (.ref a_law_under) = true) (b_law_under : Binds K d_law_under ["error_so"] []) {a_law_same : Addr} {d_law_same : FuncData} (G_law_same : FnOk P w K mg base CX0 6 a_law_same d_law_same ["got", "due"] (FnSp ⟨K, ct⟩ 2 f_law_same)) (g_law_same : mg "_law_same" = some (.ref a_law_same)) (k_law_same : PySem.W.keepIn K (.ref a_law_same) = true) (b_law_same : Binds K d_law_same ["got", "due"] []) : FnOk P w K mg base CX0 7 f fx ["number_so", "trail_so", "word_so"] (FnSp ⟨K, ct⟩ 3 f_law_made_right) :=
  fn_ok F sc_law_made_right rfl fun cdv A outer s H E hr => ⟨_, (ss_cons (sx_par rfl sc_law_made_right.nd (ax_cons (EA.fz (ea_add (K := K) (EA.fz (ea_add (K := K) (EA.fz (ea_lst (ax_cons ex_bl (ax_cons ex_bl ax_nil)))) (EA.fz (ea_mul (EA.fz (ea_lst (ax_cons ex_bl ax_nil))) ex_int)))) (EA.fz (ea_lst (ax_cons ex_bl ax_nil))))) (ax_cons (EA.fz (ea_add (K := K) (EA.fz (ea_add (K := K) (EA.fz (ea_lst (ax_cons ex_bl ax_nil))) (EA.fz (ea_mul (EA.fz (ea_lst (ax_cons ex_bl ax_nil))) ex_int)))) (EA.fz (ea_lst (ax_cons ex_bl ax_nil))))) ax_nil)) (i := 6) (j := 7))
    (ss_cons (sx_set 3 sc_law_made_right.nd (EA.fz (ea_lst (ax_cons (ex_mk 6 (X.T6) (hr.mono (by decide)) X.g6 X.b6 rfl (ex_var 0)) (ax_cons (ex_mk0 7 PySem.F.excBase_ValueError X.q7 X.g7 X.c7) (ax_cons (ex_mk 3 (X.T3) (hr.mono (by decide)) X.g3 X.b3 rfl (ex_var 0)) (ax_cons (ex_mk 4 (X.T4) (hr.mono (by decide)) X.g4 X.b4 rfl (ex_var 2)) (ax_cons (ex_mk 2 (X.T2) (hr.mono (by decide)) X.g2 X.b2 rfl (ex_var 1)) (ax_cons (ex_mk 0 (X.T0) (hr.mono (by decide)) X.g0 X.b0 rfl (ex_var 0)) (ax_cons (ex_mk 1 (X.T1) (hr.mono (by decide)) X.g1 X.b1 rfl (ex_var 0)) (ax_cons (ex_mk0 5 PySem.F.excBase_LookupError X.q5 X.g5 X.c5) (ax_cons (ex_mk0 8 PySem.F.excBase_ValueError X.q8 X.g8 X.c8) (ax_cons (ex_mk0 9 PySem.F.excBase_ValueError X.q9 X.g9 X.c9) ax_nil)))))))))))))
    (ss_cons (sx_setA 4 sc_law_made_right.nd (ea_lst (ax_cons (EA.fz (ea_lst (ax_cons (ex_xat (K := K) ks_number X.a_number (EA.fz (ea_ix (K := K) (ex_var 3) ex_int))) (ax_cons (ex_xat (K := K) ks_number X.a_number (EA.fz (ea_ix (K := K) (ex_var 3) ex_int))) (ax_cons (ex_xat (K := K) ks_name X.a_name (EA.fz (ea_ix (K := K) (ex_var 3) ex_int))) (ax_cons (ex_xat (K := K) ks_path X.a_path (EA.fz (ea_ix (K := K) (ex_var 3) ex_int))) (ax_cons (ex_xat (K := K) ks_number X.a_number (EA.fz (ea_ix (K := K) (ex_var 3) ex_int))) (ax_cons (ex_xat (K := K) ks_number X.a_number (EA.fz (ea_ix (K := K) (ex_var 3) ex_int))) ax_nil)))))))) ax_nil)))
    (ss_cons (sx_appendP 4 (EA.fz (ea_lst (ax_cons (ex_xat (K := K) ks_number X.a_number (ex_mkK 6 (X.T6) (hr.mono (by decide)) X.g6 X.d6 (ex_var 0))) (ax_cons (ex_xat (K := K) ks_number X.a_number (ex_mkK 3 (X.T3) (hr.mono (by decide)) X.g3 X.d3 (ex_var 0))) (ax_cons (ex_xat (K := K) ks_name X.a_name (ex_mkK 4 (X.T4) (hr.mono (by decide)) X.g4 X.d4 (ex_var 2))) (ax_cons (ex_xat (K := K) ks_path X.a_path (ex_mkK 2 (X.T2) (hr.mono (by decide)) X.g2 X.d2 (ex_var 1))) (ax_cons (ex_xat (K := K) ks_number X.a_number (ex_mkK 0 (X.T0) (hr.mono (by decide)) X.g0 X.d0 (ex_var 0))) (ax_cons (ex_xat (K := K) ks_number X.a_number (ex_mkK 1 (X.T1) (hr.mono (by decide)) X.g1 X.d1 (ex_var 0))) ax_nil)))))))))
    (ss_cons (sx_set 5 sc_law_made_right.nd (EA.fz (ea_mul (EA.fz (ea_lst (ax_cons (EA.fz (ea_lst (ax_cons (ex_var 0) (ax_cons (ex_var 0) (ax_cons (ex_var 2) (ax_cons (ex_var 1) (ax_cons (ex_var 0) (ax_cons (ex_var 0) ax_nil)))))))) ax_nil))) ex_int)))
    (ss_frz 4 (ss_cons (sx_for PassesOwn.never rfl (ix_enum (K := K) B.enumerate (ax_cons (ex_var 3) ax_nil)) (gx_tup (K := K) (gxs_cons (gx_name 8 sc_law_made_right.nd) (gxs_cons (gx_name 9 sc_law_made_right.nd) gxs_nil)))
    (ss_frz 4 (ss_cons (sx_setA 4 sc_law_made_right.nd (ea_add (K := K) (ex_var 4) (EA.fz (ea_lst (ax_cons (EA.fz (ea_call G_law_under (hr.mono (by decide)) g_law_under k_law_under b_law_under runF_len (ag_v (ex_var 9) ag_nil))) (ax_cons (EA.fz (ea_call G_law_which (hr.mono (by decide)) g_law_which k_law_which b_law_which runF_len (ag_v (ex_var 9) ag_nil))) ax_nil))))))
    (ss_one (sx_set 5 sc_law_made_right.nd (EA.fz (ea_add (K := K) (ex_var 5) (EA.fz (ea_lst (ax_cons (ex_if (tx_chain op_le op_le sr_le sr_le ex_int (ex_var 8) ex_int) (ex_var 7) (ex_var 6)) (ax_cons (EA.fz (ea_lc rfl sc_law_made_right.nd [("k", 10)] (ix_rng B.range (ax_cons ex_int ax_nil)) (blkOk_by (N := ["number_so", "trail_so", "word_so", "made_so", "got", "due_so", "value_so", "look_so", "at_so", "own", "k"]) (sc := defScope s_law_made_right) (by decide +kernel)) (fun _ _ _ _ _ => (gx_name 10 sc_law_made_right.nd)) (fun _ _ _ _ _ => tsx_nil) (fun _ _ _ _ _ => (EA.fz (ea_eq (ex_var 10) (ex_var 8)))))) ax_nil)))))))))))
    (ss_frz 4 (ss_one (sx_retA (ea_call G_law_same hr g_law_same k_law_same b_law_same fS_len (ag_v (ex_var 4) (ag_v (ex_var 5) ag_nil)))))))))))))⟩
theorem ok_law_right {f : Addr} {fx : FuncData} (B : Bt mg) (F : Fun K "_law_right" "_law_right" s_law_right f fx) {a_law_take : Addr} {d_law_take : FuncData} (G_law_take : FnOk P w K mg base CX0 1 a_law_take d_law_take ["tin", "below_so"] (FnSp ⟨K, ct⟩ 2 f_law_take)) (g_law_take : mg "_law_take" = some (.ref a_law_take)) (k_law_take : PySem.W.keepIn K (.ref a_law_take) = true) (b_law_take : Binds K d_law_take ["tin", "below_so"] []) {a_law_of : Addr} {d_law_of : FuncData} (G_law_of : FnOk P w K mg base CX0 2 a_law_of d_law_of ["tin", "goods_so"] (FnSp ⟨K, ct⟩ 2 f_law_of)) (g_law_of : mg "_law_of" = some (.ref a_law_of)) (k_law_of : PySem.W.keepIn K (.ref a_law_of) = true) (b_law_of : Binds K d_law_of ["tin", "goods_so"] []) {a_law_made_right : Addr} {d_law_made_right : FuncData} (G_law_made_right : FnOk P w K mg base CX0 7 a_law_made_right d_law_made_right ["number_so", "trail_so", "word_so"] (FnSp ⟨K, ct⟩ 3 f_law_made_right)) (g_law_made_right : mg "_law_made_right" = some (.ref a_law_made_right)) (k_law_made_right : PySem.W.keepIn K (.ref a_law_made_right) = true) (b_law_made_right : Binds K d_law_made_right ["number_so", "trail_so", "word_so"] []) : FnOk P w K mg base CX0 8 f fx ["tin"] (FnSp ⟨K, ct⟩ 1 f_law_right) :=
  fn_ok F sc_law_right rfl fun cdv A outer s H E hr => ⟨_, (ss_cons (sx_set 1 sc_law_right.nd (EA.fz (ea_mul (EA.fz (ea_sub (EA.fz (ea_call G_law_take (hr.mono (by decide)) g_law_take k_law_take b_law_take runF_len (ag_l 0 (ag_v ex_int ag_nil)))) ex_int)) (EA.fz (ea_call G_law_of (hr.mono (by decide)) g_law_of k_law_of b_law_of runF_len (ag_l 0 (ag_v (EA.fz (ea_lst (ax_cons ex_int (ax_cons ex_int (ax_cons ex_int (ax_cons (EA.fz (ea_pow ex_int ex_int)) (ax_cons (EA.fz (ea_call G_law_take (hr.mono (by decide)) g_law_take k_law_take b_law_take runF_len (ag_l 0 (ag_v ex_int ag_nil)))) ax_nil))))))) ag_nil)))))))
    (ss_cons (sx_set 2 sc_law_right.nd (EA.fz (ea_cty (r := rTupA K) call_tuple_of sc_tuple B.tuple (ax_cons (EA.fz (ea_lc rfl sc_law_right.nd [("lap", 3)] (ix_rng B.range (ax_cons (EA.fz (ea_call G_law_take (hr.mono (by decide)) g_law_take k_law_take b_law_take runF_len (ag_l 0 (ag_v ex_int ag_nil)))) ax_nil)) (blkOk_by (N := ["tin", "number_so", "trail_so", "lap"]) (sc := defScope s_law_right) (by decide +kernel)) (fun _ _ _ _ _ => (gx_name 3 sc_law_right.nd)) (fun _ _ _ _ _ => tsx_nil) (fun _ _ _ _ _ => (EA.fz (ea_call G_law_take (hr.mono (by decide)) g_law_take k_law_take b_law_take runF_len (ag_l 0 (ag_v ex_int ag_nil))))))) ax_nil))))
    (ss_one (sx_retA (ea_call G_law_made_right hr g_law_made_right k_law_made_right b_law_made_right runF_len (ag_v (ex_var 1) (ag_v (ex_var 2) (ag_v (EA.fz (ea_call G_law_of (hr.mono (by decide)) g_law_of k_law_of b_law_of runF_len (ag_l 0 (ag_v (EA.fz (ea_lst (ax_cons ex_str (ax_cons ex_str (ax_cons ex_str ax_nil))))) ag_nil)))) ag_nil))))))))⟩
theorem ok_law {f : Addr} {fx : FuncData} (B : Bt mg) (F : Fun K "law" "law" s_law f fx) {a_law_made_right : Addr} {d_law_made_right : FuncData} (G_law_made_right : FnOk P w K mg base CX0 7 a_law_made_right d_law_made_right ["number_so", "trail_so", "word_so"] (FnSp ⟨K, ct⟩ 3 f_law_made_right)) (g_law_made_right : mg "_law_made_right" = some (.ref a_law_made_right)) (k_law_made_right : PySem.W.keepIn K (.ref a_law_made_right) = true) (b_law_made_right : Binds K d_law_made_right ["number_so", "trail_so", "word_so"] []) {a_law_cells : Addr} {d_law_cells : FuncData} (G_law_cells : FnOk P w K mg base CX0 1 a_law_cells d_law_cells ["script", "most_so"] (FnSp ⟨K, ct⟩ 2 f_law_cells)) (g_law_cells : mg "_law_cells" = some (.ref a_law_cells)) (k_law_cells : PySem.W.keepIn K (.ref a_law_cells) = true) (b_law_cells : Binds K d_law_cells ["script", "most_so"] []) {a_law_right : Addr} {d_law_right : FuncData} (G_law_right : FnOk P w K mg base CX0 8 a_law_right d_law_right ["tin"] (FnSp ⟨K, ct⟩ 1 f_law_right)) (g_law_right : mg "_law_right" = some (.ref a_law_right)) (k_law_right : PySem.W.keepIn K (.ref a_law_right) = true) (b_law_right : Binds K d_law_right ["tin"] []) {a_law_box : Addr} {d_law_box : FuncData} (G_law_box : FnOk P w K mg base CX0 1 a_law_box d_law_box ["script", "k"] (FnSp ⟨K, ct⟩ 2 f_law_box)) (g_law_box : mg "_law_box" = some (.ref a_law_box)) (k_law_box : PySem.W.keepIn K (.ref a_law_box) = true) (b_law_box : Binds K d_law_box ["script", "k"] []) : FnOk P w K mg base CX0 9 f fx ["script"] (FnSp ⟨K, ct⟩ 1 f_law) :=
  fn_ok F sc_law rfl fun cdv A outer s H E hr => ⟨_, (ss_cons (sx_set 1 sc_law.nd (ex_tup (ax_cons (ex_tup (ax_cons ex_int (ax_cons (ex_tup ax_nil) (ax_cons ex_str ax_nil)))) (ax_cons (ex_tup (ax_cons (EA.fz (ex_neg ex_int)) (ax_cons (ex_tup (ax_cons ex_int ax_nil)) (ax_cons ex_str ax_nil)))) (ax_cons (ex_tup (ax_cons (EA.fz (ea_pow ex_int ex_int)) (ax_cons (ex_tup (ax_cons ex_int (ax_cons ex_int (ax_cons ex_int ax_nil)))) (ax_cons ex_str ax_nil)))) ax_nil)))))
    (ss_cons (sx_if (tx_not (tx_tru (K := K) (EX.et (EA.fz (ea_cb (r := rAll K) (cr_all rfl) sc_all B.all (ax_cons (EA.fz (ea_lc rfl sc_law.nd [("own", 4)] (ix_seq (K := K) (ex_var 1)) (blkOk_by (N := ["script", "cases_so", "cells", "nth_so", "own"]) (sc := defScope s_law) (by decide +kernel)) (fun _ _ _ _ _ => (gx_name 4 sc_law.nd)) (fun _ _ _ _ _ => tsx_nil) (fun _ _ _ _ _ => (EA.fz (ea_call G_law_made_right (hr.mono (by decide)) g_law_made_right k_law_made_right b_law_made_right runF_len (ag_v (EA.fz (ea_ix (K := K) (ex_var 4) ex_int)) (ag_v (EA.fz (ea_ix (K := K) (ex_var 4) ex_int)) (ag_v (EA.fz (ea_ix (K := K) (ex_var 4) ex_int)) ag_nil)))))))) ax_nil)))))) (ss_one (sx_ret ex_bl)) ss_nil)
    (ss_cons (sx_set 2 sc_law.nd (EA.fz (ea_call G_law_cells (hr.mono (by decide)) g_law_cells k_law_cells b_law_cells runF_len (ag_v (ex_var 0) (ag_v ex_int ag_nil)))))
    (ss_one (sx_retA (ea_cb (r := rAll K) (cr_all rfl) sc_all B.all (ax_cons (EA.fz (ea_lc rfl sc_law.nd [("nth_so", 3)] (ix_rng B.range (ax_cons (EA.fz (ea_cb (r := rLenA K) (orCall call_len_seq call_len_str) sc_len B.len (ax_cons (ex_var 2) ax_nil))) ax_nil)) (blkOk_by (N := ["script", "cases_so", "cells", "nth_so", "own"]) (sc := defScope s_law) (by decide +kernel)) (fun _ _ _ _ _ => (gx_name 3 sc_law.nd)) (fun _ _ _ _ _ => tsx_nil) (fun _ _ _ _ _ => (EA.fz (ea_call G_law_right hr g_law_right k_law_right b_law_right runF_len (ag_t (ea_call G_law_box (hr.mono (by decide)) g_law_box k_law_box b_law_box runF_len (ag_v (ex_var 2) (ag_v (ex_var 3) ag_nil))))))))) ax_nil)))))))⟩
end
end Q00

namespace Q00
open PySem L2 DL DLX
theorem fMod_i {i j : Int} (h : j ≠ 0) : fMod (.int i) (.int j) = some (.v (.int (i.fmod j))) := if_pos h
theorem fDiv_i {i j : Int} (h : CDivN i j) : fDiv (.int i) (.int j) = some (.v (.int (i.fdiv j))) := if_pos h
theorem fMul_i {i j : Int} (h : CMul i j) : fMul (.int i) (.int j) = some (.v (.int (i * j))) := if_pos h
theorem run_rt {n N : Nat} {body : M Fl} {as : List Ar} {e : DL.Env} {r : Ar} {z : Ar × Option O} (h1 : as.length = n) (h2 : body (entry as ++ List.replicate (N - n) none) = some (Fl.rt r, e)) (h3 : finF as e r = some z) : runF n N body as = some z := by
  unfold runF
  rw [if_pos h1, h2]
  exact h3
theorem take_big (a b c n : Int) (ha : 0 < a) (hn : 0 < n) (hn' : n ≤ 1000) :
    f_law_take [.o (.lst [.int a, .int b, .int c]), .v (.int n)] = some (.v (.int (a.fmod n)), some (.lst [.int (a.fdiv n), .int b, .int c])) := by
  have h1 : n ≠ 0 := by omega
  have h2 : CDivN a n := ⟨h1, by omega⟩
  have h3 : decide (0 < a) = true := decide_eq_true ha
  have e : m_law_take [some (.par 0 (.lst [.int a, .int b, .int c])), some (.val (.int n)), none, none, none, none] = some (.rt (.v (.int (a.fmod n))), [some (.par 0 (.lst [.int (a.fdiv n), .int b, .int c])), some (.val (.int n)), none, none, none, some (.val (.int (a.fmod n)))]) := by
    simp [m_law_take, mSeq, mIfS, mTestA, mBin, M.bnd, M.opt, M.ret, mIxO, ownL, Env.at, fGt, fIx, blA, h3, mSet, mCall, fMod_i h1, mCons, mNil, fInt, mVar, frzA, mSto, putO, fDiv_i h2, mRet, atI, ixN, ha]
  exact run_rt rfl e rfl
theorem fmod_bd (a : Int) {m : Int} (h : 0 < m) : 0 ≤ a.fmod m ∧ a.fmod m < m := ⟨Int.fmod_nonneg_of_pos a h, Int.fmod_lt_of_pos a h⟩
def t1 (b c : Int) : Int := ((b + 48271 * (c + 1)) * (39373 + (c + 1))).fmod 2147483647
def t2 (b c : Int) : Int := (t1 b c).fmod 40009 + 7
def t3 (b c : Int) : Int := ((t1 b c + (c + 1) + b.fdiv 1000003) * t2 b c).fmod 2147483629
def t4 (b c : Int) : Int := ((t3 b c * 48271 + t1 b c).fmod 2147483587).fdiv 64
theorem t2_bd (b c : Int) : 7 ≤ t2 b c ∧ t2 b c < 50000 := by
  have h := fmod_bd (t1 b c) (m := 40009) (by decide)
  unfold t2
  omega
theorem t3_bd (b c : Int) : 0 ≤ t3 b c ∧ t3 b c < 2147483629 := fmod_bd _ (by decide)
theorem take_small (a b c n : Int) (ha : ¬ 0 < a) (hn : 0 < n) (hc : 0 ≤ c) (hc' : c < 1000000) :
    f_law_take [.o (.lst [.int a, .int b, .int c]), .v (.int n)] = some (.v (.int ((t4 b c).fmod n)), some (.lst [.int a, .int b, .int (c + 1)])) := by
  have h1 : n ≠ 0 := by omega
  have h3 : decide (0 < a) = false := decide_eq_false ha
  have m1 : CMul (48271 : Int) (c + 1) := .inl (by decide)
  have m2 : CMul (b + 48271 * (c + 1)) (39373 + (c + 1)) := .inr (by constructor <;> omega)
  have q1 : (2147483647 : Int) ≠ 0 := by decide
  have q2 : (40009 : Int) ≠ 0 := by decide
  have q3 : CDivN b 1000003 := ⟨by decide, by decide⟩
  have b2 := t2_bd b c
  have b3 := t3_bd b c
  have m3 : CMul (t1 b c + (c + 1) + b.fdiv 1000003) (t2 b c) := .inr (by constructor <;> omega)
  have q4 : (2147483629 : Int) ≠ 0 := by decide
  have m4 : CMul (t3 b c) 48271 := .inr (by decide)
  have q5 : (2147483587 : Int) ≠ 0 := by decide
  have q6 : CDivN ((t3 b c * 48271 + t1 b c).fmod 2147483587) 64 := ⟨by decide, by decide⟩
  have x1 : ((b + 48271 * (c + 1)) * (39373 + (c + 1))).fmod 2147483647 = t1 b c := rfl
  have x2 : (t1 b c).fmod 40009 + 7 = t2 b c := rfl
  have x3 : ((t1 b c + (c + 1) + b.fdiv 1000003) * t2 b c).fmod 2147483629 = t3 b c := rfl
  have x4 : ((t3 b c * 48271 + t1 b c).fmod 2147483587).fdiv 64 = t4 b c := rfl
  have e : ∃ env, m_law_take [some (.par 0 (.lst [.int a, .int b, .int c])), some (.val (.int n)), none, none, none, none] = some (.rt (.v (.int ((t4 b c).fmod n))), some (.par 0 (.lst [.int a, .int b, .int (c + 1)])) :: env) := by
    exact ⟨[some (.val (.int n)), some (.val (.int (t1 b c))), some (.val (.int (t2 b c))), some (.val (.int (t3 b c))), none], by
      simp [m_law_take, mSeq, mIfS, mTestA, mBin, M.bnd, M.opt, M.ret, mIxO, ownL, Env.at, fGt, fIx, blA, h3, mSet, mCall, fMod_i h1, mCons, mNil, fInt, mVar, frzA, mSto, putO, mRet, mRetA, atI, ixN, ha, fAdd, fMul_i m1, fMul_i m2, fMod_i q1, fMod_i q2, fDiv_i q3, x1, x2, fMul_i m3, fMod_i q4, x3, fMul_i m4, fMod_i q5, fDiv_i q6, x4]⟩
  obtain ⟨env, e⟩ := e
  exact run_rt rfl e rfl
theorem take_any (a b c n : Int) (hn : 0 < n) (hn' : n ≤ 1000) (hc : 0 ≤ c) (hc' : c < 1000000) : ∃ r a' c', 0 ≤ r ∧ r < n ∧ c ≤ c' ∧ c' ≤ c + 1 ∧
    f_law_take [.o (.lst [.int a, .int b, .int c]), .v (.int n)] = some (.v (.int r), some (.lst [.int a', .int b, .int c'])) := by
  by_cases ha : 0 < a
  · exact ⟨_, _, _, (fmod_bd a hn).1, (fmod_bd a hn).2, by omega, by omega, take_big a b c n ha hn hn'⟩
  · exact ⟨_, _, _, (fmod_bd _ hn).1, (fmod_bd _ hn).2, by omega, by omega, take_small a b c n ha hn hc hc'⟩
theorem atI_ok {ds : List D} {r : Int} (h : 0 ≤ r) (h2 : r < ds.length) : ∃ d, d ∈ ds ∧ L2.atI ds r = some d := by
  obtain ⟨n, rfl⟩ := Int.eq_ofNat_of_zero_le h
  have hn : n < ds.length := by omega
  refine ⟨ds[n], List.getElem_mem hn, ?_⟩
  have hx : ixN ds.length (n : Int) = some n := by
    unfold ixN
    simp [hn]
  show (ixN ds.length (n : Int)).bind (fun j => ds[j]?) = some ds[n]
  rw [hx]
  exact List.getElem?_eq_getElem hn
theorem of_any (a b c : Int) (ds : List D) (hn : 0 < ds.length) (hn' : ds.length ≤ 1000) (hc : 0 ≤ c) (hc' : c < 1000000) : ∃ d a' c', d ∈ ds ∧ c ≤ c' ∧ c' ≤ c + 1 ∧
    f_law_of [.o (.lst [.int a, .int b, .int c]), .v (.lst ds)] = some (.v d, some (.lst [.int a', .int b, .int c'])) := by
  obtain ⟨r, a', c', h1, h2, h3, h4, h⟩ := take_any a b c ds.length (by omega) (by omega) hc hc'
  obtain ⟨d, hd, hi⟩ := atI_ok h1 h2
  refine ⟨d, a', c', hd, h3, h4, ?_⟩
  have hz : ds.length ≤ 100000 := by omega
  have e : m_law_of [some (.par 0 (.lst [.int a, .int b, .int c])), some (.val (.lst ds))] = some (Fl.rt (.v d), [some (.par 0 (.lst [.int a', .int b, .int c'])), some (.val (.lst ds))]) := by
    simp [m_law_of, mRetA, mBin, M.bnd, M.opt, mVar, Env.at, mCallF, agL, oneO, agV, mCall, mCons, mNil, M.ret, fLen, frzA, agNil, arsOf, h, putA, putO, fIx, hi, hz]
  exact run_rt rfl e rfl
theorem box_any (xs : List Int) (k : Nat) (hk : k < xs.length) : ∃ a b, f_law_box [.v (.lst (xs.map .int)), .v (.int k)] = some (.o (.lst [.int a, .int b, .int 0]), none) := by
  have h1 : decide ((k : Int) < (xs.length : Int)) = true := decide_eq_true (by omega)
  have h1' : k < xs.length := hk
  have hx : L2.atI (xs.map D.int) (k : Int) = some (.int xs[k]) := by
    have hx : ixN (xs.map D.int).length (k : Int) = some k := by
      unfold ixN
      simp [hk]
    show (ixN (xs.map D.int).length (k : Int)).bind (fun j => (xs.map D.int)[j]?) = some (.int xs[k])
    rw [hx]
    show (xs.map D.int)[k]? = _
    rw [List.getElem?_map, List.getElem?_eq_getElem hk]
    rfl
  have p1 : fPow (.int 10) (.int 18) = some (.v (.int 1000000000000000000)) := rfl
  have m1 : ∀ (x : Int) (p : Prop) [Decidable p], fMul (.int x) (.int (if p then 1 else 0)) = some (.v (.int (x * if p then 1 else 0))) := fun x p _ => fMul_i (.inr (by split <;> decide))
  have m2 : CMul (39373 : Int) (k : Int) := .inl (by decide)
  have q1 : (2305843009213693951 : Int) ≠ 0 := by decide
  generalize hc : xs[k] = c at hx
  have e : ∃ a b env, m_law_box [some (.val (.lst (xs.map .int))), some (.val (.int k)), none] = some (Fl.rt (.o (.lst [.int a, .int b, .int 0])), env) := by
    simp [m_law_box, mSeq, mSet, mIf, mTestA, mBin, M.bnd, M.opt, M.ret, mVar, Env.at, mCall, mCons, mNil, fLen, frzA, fLt, blA, h1', fIx, hx, mRetA, mLst, fAbs, fInt, fGe, p1, m1, fMul_i m2, fMod_i q1, fAdd]
  obtain ⟨a, b, env, e⟩ := e
  exact ⟨a, b, run_rt rfl e rfl⟩
def cBody : M Fl := mSeq (mSet 5 (M.opt (mBin fMod (M.opt (mCall fInt (mCons (mVar 3) mNil)) frzA) (mVar 1)) frzA))
    (mSto 2 (mVar 5) (M.opt (mBin fAdd (mIxO 2 (mVar 5)) (M.opt (mBin fMul (mVar 4) (M.opt (mBin fAdd (mVar 3) (M.ret (.int 2))) frzA)) frzA)) frzA))
def cPut : D → DL.Env → Option DL.Env := gmTup 2 (gmCons (gmName 3) (gmCons (gmName 4) gmNil))
theorem m_law_cells_eq : m_law_cells = (mSeq (mSetA 2 (mOrV (mCall fList (mCons (M.opt (mSl (mVar 0) (M.ret none) (mInt? (mVar 1))) frzA) mNil)) (mLst (mCons (M.ret (.int 0)) mNil))))
    (mSeq (mFor (M.opt (mCons (M.opt (mSl (mVar 0) (mInt? (mVar 1)) (mInt? (M.ret (.int 63)))) frzA) mNil) fEnum) cPut cBody) (mRetO 2))) := rfl
theorem cells_turn (f s : Option C) (x y c : Int) (i : Nat) (hi : i < 1000) : ∃ x' y' s5, cBody [f, some (.val (.int 2)), some (.own (.lst [.int x, .int y])), some (.val (.int (i : Int))), some (.val (.int c)), s] =
    some (Fl.nx, [f, some (.val (.int 2)), some (.own (.lst [.int x', .int y'])), some (.val (.int (i : Int))), some (.val (.int c)), s5]) := by
  have m1 : CMul c ((i : Int) + 2) := .inr (by constructor <;> omega)
  have q1 : (2 : Int) ≠ 0 := by decide
  rcases Nat.mod_two_eq_zero_or_one i with h | h
  · have h' : (i : Int).fmod 2 = 0 := by
      rw [Int.fmod_eq_emod_of_nonneg _ (by decide)]
      omega
    refine ⟨x + c * (i + 2), y, some (.val (.int 0)), ?_⟩
    simp [cBody, mSeq, mSet, mBin, M.bnd, M.opt, M.ret, mVar, Env.at, mCall, mCons, mNil, frzA, fInt, fMod_i q1, h', mSto, ownL, mIxO, L2.atI, ixN, fAdd, fMul_i m1, putO]
  · have h' : (i : Int).fmod 2 = 1 := by
      rw [Int.fmod_eq_emod_of_nonneg _ (by decide)]
      omega
    refine ⟨x, y + c * (i + 2), some (.val (.int 1)), ?_⟩
    simp [cBody, mSeq, mSet, mBin, M.bnd, M.opt, M.ret, mVar, Env.at, mCall, mCons, mNil, frzA, fInt, fMod_i q1, h', mSto, ownL, mIxO, L2.atI, ixN, fAdd, fMul_i m1, putO]
theorem cells_loop (f : Option C) : ∀ (cs : List Int) (k : Nat) (x y : Int) (s3 s4 s5 : Option C), k + cs.length < 1000 → ∃ x' y' t3 t4 t5,
    forL cPut cBody ((cs.map D.int).mapIdx fun i d => D.tup [.int ((i + k : Nat) : Int), d]) [f, some (.val (.int 2)), some (.own (.lst [.int x, .int y])), s3, s4, s5] =
      some (Fl.nx, [f, some (.val (.int 2)), some (.own (.lst [.int x', .int y'])), t3, t4, t5])
  | [], k, x, y, s3, s4, s5, _ => ⟨x, y, s3, s4, s5, rfl⟩
  | c :: cs, k, x, y, s3, s4, s5, h => by
    rw [List.length_cons] at h
    obtain ⟨x1, y1, t5, h1⟩ := cells_turn f s5 x y c k (by omega)
    obtain ⟨x', y', u3, u4, u5, h2⟩ := cells_loop f cs (k + 1) x1 y1 (some (.val (.int (k : Int)))) (some (.val (.int c))) t5 (by omega)
    refine ⟨x', y', u3, u4, u5, ?_⟩
    rw [List.map_cons, List.mapIdx_cons]
    have hz : ((0 + k : Nat) : Int) = (k : Int) := by omega
    have hg : cPut (.tup [.int ((0 + k : Nat) : Int), .int c]) [f, some (.val (.int 2)), some (.own (.lst [.int x, .int y])), s3, s4, s5] = some [f, some (.val (.int 2)), some (.own (.lst [.int x, .int y])), some (.val (.int (k : Int))), some (.val (.int c)), s5] := by
      rw [hz]
      rfl
    unfold forL
    rw [hg]
    show (match cBody _ with
      | none => none
      | some (.nx, e2) => _
      | some (.ct, e2) => _
      | some (.bk, e2) => _
      | some (.rt x, e2) => _) = _
    rw [h1]
    have he : (fun (i : Nat) (d : D) => D.tup [.int ((i + 1 + k : Nat) : Int), d]) = fun (i : Nat) (d : D) => D.tup [.int ((i + (k + 1) : Nat) : Int), d] := by
      funext i d
      rw [Nat.add_assoc, Nat.add_comm 1 k]
    show forL cPut cBody ((cs.map D.int).mapIdx fun i d => D.tup [.int ((i + 1 + k : Nat) : Int), d]) _ = _
    rw [he]
    exact h2
theorem cells_any (ns : List Int) : ∃ xs : List Int, 0 < xs.length ∧ xs.length ≤ 2 ∧ f_law_cells [.v (.fz (ns.map .int)), .v (.int 2)] = some (.o (.lst (xs.map .int)), none) := by
  match ns with
  | [] => exact ⟨[0], by decide, by decide, rfl⟩
  | [x] => exact ⟨[x], by simp, by simp, rfl⟩
  | x :: y :: rest =>
    have s2 : ∀ n d, HT.sIx n d (some 2) = min 2 n := fun n d => HT.sIx_nat n d 2
    have s63 : ∀ n d, HT.sIx n d (some 63) = min 63 n := fun n d => HT.sIx_nat n d 63
    obtain ⟨cs, hl, hc⟩ : ∃ cs : List Int, cs.length < 1000 ∧ cutD ((x :: y :: rest).map D.int) (some 2) (some 63) = cs.map D.int := by
      unfold cutD
      rw [List.length_map, s2, s63]
      refine ⟨((x :: y :: rest).drop (min 2 (x :: y :: rest).length)).take (min 63 (x :: y :: rest).length - min 2 (x :: y :: rest).length), ?_, ?_⟩
      · rw [List.length_take]
        omega
      · rw [List.map_take, List.map_drop]
    obtain ⟨x', y', t3, t4, t5, h⟩ := cells_loop (some (.val (.fz ((x :: y :: rest).map .int)))) cs 0 x y none none none (by omega)
    refine ⟨[x', y'], by simp, by simp, ?_⟩
    have h0 : cutD ((x :: y :: rest).map D.int) none (some 2) = [.int x, .int y] := by
      unfold cutD
      rw [List.length_map, s2, HT.sIx_none]
      have : min 2 (x :: y :: rest).length = 2 := by
        rw [List.length_cons, List.length_cons]
        omega
      rw [this]
      rfl
    have e : m_law_cells [some (.val (.fz ((x :: y :: rest).map .int))), some (.val (.int 2)), none, none, none, none] = some (Fl.rt (.o (.lst [.int x', .int y'])), [some (.val (.fz ((x :: y :: rest).map .int))), some (.val (.int 2)), none, t3, t4, t5]) := by
      generalize hds : (x :: y :: rest).map D.int = ds at h0 hc h ⊢
      have hh : forL cPut cBody (enumD (cs.map D.int)) [some (.val (.fz ds)), some (.val (.int 2)), some (.own (.lst [.int x, .int y])), none, none, none] = some (Fl.nx, [some (.val (.fz ds)), some (.val (.int 2)), some (.own (.lst [.int x', .int y'])), t3, t4, t5]) := h
      rw [m_law_cells_eq]
      simp [mSeq, mSetA, mOrV, mCall, h0, fList, truA, mFor, M.bnd, M.opt, mCons, mSl, mVar, Env.at, mInt?, M.ret, fSl, hc, frzA, mNil, fEnum, hh, mRetO]
    exact run_rt rfl e rfl
mutual
def plain : D → Nat → Bool
  | .non, _ => true
  | .bl _, _ => true
  | .int _, _ => true
  | .str _, _ => true
  | .lst ds, n + 1 => decide (ds.length ≤ 50000) && plainL ds n
  | .tup ds, n + 1 => decide (ds.length ≤ 50000) && plainL ds n
  | _, _ => false
def plainL : List D → Nat → Bool
  | [], _ => true
  | d :: ds, n => plain d n && plainL ds n
end
theorem plainL_mem {n : Nat} : ∀ {ds : List D}, plainL ds n = true → ∀ d ∈ ds, plain d n = true
  | d :: ds, h, x, hx => by
    unfold plainL at h
    rw [Bool.and_eq_true] at h
    rcases List.mem_cons.mp hx with rfl | hx
    · exact h.1
    · exact plainL_mem h.2 x hx
def sPut : D → DL.Env → Option DL.Env := gmTup 2 (gmCons (gmName 2) (gmCons (gmName 3) gmNil))
def sEl (rec_ : FM) : M D := M.opt (mCallF rec_ (agV (mVar 2) (agV (mVar 3) agNil))) frzA
theorem same_comp (rec_ : FM) (a b : Option C) : ∀ (ds : List D), (∀ d ∈ ds, rec_ [.v d, .v d] = some (.v (.bl true), none)) →
    compL sPut (M.ret true) (sEl rec_) [2, 3] (zipD ds ds) [a, b, none, none] = some (List.replicate ds.length (.bl true), [a, b, none, none])
  | [], _ => rfl
  | d :: ds, h => by
    have ih := same_comp rec_ a b ds fun x hx => h x (List.mem_cons_of_mem _ hx)
    have e1 : sPut (.tup [d, d]) (wipeE [a, b, none, none] [2, 3]) = some [a, b, some (.val d), some (.val d)] := rfl
    have e2 : sEl rec_ [a, b, some (.val d), some (.val d)] = some (.bl true, [a, b, some (.val d), some (.val d)]) := by
      simp [sEl, mCallF, M.opt, M.bnd, agV, mVar, Env.at, agNil, M.ret, arsOf, h d List.mem_cons_self, putA, frzA]
    show compL sPut (M.ret true) (sEl rec_) [2, 3] (.tup [d, d] :: zipD ds ds) [a, b, none, none] = _
    unfold compL
    rw [e1]
    show (match sEl rec_ [a, b, some (.val d), some (.val d)] with
      | none => none
      | some (y, e3) => _) = _
    rw [e2]
    show (match compL sPut (M.ret true) (sEl rec_) [2, 3] (zipD ds ds) [a, b, none, none] with
      | none => none
      | some (ys, e4) => _) = _
    rw [ih]
    rfl
theorem m_law_same_eq (rec_ : FM) : m_law_same rec_ = (mSeq (mIfS (mTru (M.opt (M.opt (mVar 1) (fIsi ["list", "tuple"])) frzA)) (mSeq (mIfS (mOrB (mTestA (mBin fNe (M.opt (M.opt (mVar 0) (fIsi ["list"])) frzA) (M.opt (M.opt (mVar 1) (fIsi ["list"])) frzA))) (mTestA (mBin fNe (M.opt (M.opt (mVar 0) (fIsi ["tuple"])) frzA) (M.opt (M.opt (mVar 1) (fIsi ["tuple"])) frzA)))) (mRet (M.ret (.bl false))) (M.ret .nx))
    (mRetA (mAndV (mBin fEq (M.opt (mCall fLen (mCons (mVar 0) mNil)) frzA) (M.opt (mCall fLen (mCons (mVar 1) mNil)) frzA)) (mCall fAll (mCons (M.opt (mLc (M.opt (mCons (mVar 0) (mCons (mVar 1) mNil)) fZip) sPut (M.ret true) (sEl rec_) [2, 3]) frzA) mNil))))) (M.ret .nx))
    (mSeq (mIfS (mOrB (mTestA (mBin fIsN (mVar 1) (M.ret .non))) (mTru (M.opt (M.opt (mVar 1) (fIsi ["bool", "str"])) frzA))) (mRetA (mAndV (mBin fEq (mVar 0) (mVar 1)) (mAndV (mBin fEq (M.opt (M.opt (mVar 0) (fIsi ["bool"])) frzA) (M.opt (M.opt (mVar 1) (fIsi ["bool"])) frzA)) (mBin fEq (M.opt (mBin fIsN (mVar 0) (M.ret .non)) frzA) (M.opt (mBin fIsN (mVar 1) (M.ret .non)) frzA))))) (M.ret .nx))
    (mRetA (mAndV (M.opt (mVar 0) (fIsi ["int"])) (mAndV (M.opt (mNotV (M.opt (M.opt (mVar 0) (fIsi ["bool"])) frzA)) fun d => some (.v d)) (mBin fEq (mVar 0) (mVar 1))))))) := rfl
theorem mapM_true : ∀ n : Nat, (List.replicate n (D.bl true)).mapM blD = some (List.replicate n true)
  | 0 => rfl
  | n + 1 => by
    rw [List.replicate_succ, List.mapM_cons, mapM_true n]
    rfl
theorem fAll_true (n : Nat) : fAll [.lst (List.replicate n (.bl true))] = some (.v (.bl true)) := by
  show ((List.replicate n (D.bl true)).mapM blD).map (fun bs => Ar.v (.bl (bs.all id))) = _
  rw [mapM_true]
  show some (Ar.v (D.bl ((List.replicate n true).all id))) = _
  rw [show (List.replicate n true).all id = true from List.all_eq_true.mpr fun x hx => (List.mem_replicate.mp hx).2]
theorem zipD_len (ds : List D) : (zipD ds ds).length = ds.length := by
  unfold zipD
  rw [List.length_map, List.length_zip]
  omega
theorem same_run (rec_ : FM) (d : D) (h : m_law_same rec_ [some (.val d), some (.val d), none, none] = some (Fl.rt (.v (.bl true)), [some (.val d), some (.val d), none, none])) : runF 2 4 (m_law_same rec_) [.v d, .v d] = some (.v (.bl true), none) := run_rt rfl h rfl
theorem tyk1 : tyOK "list" = true := by decide
theorem tyk2 : tyOK "tuple" = true := by decide
theorem tyk3 : tyOK "bool" = true := by decide
theorem tyk4 : tyOK "str" = true := by decide
theorem tyk5 : tyOK "int" = true := by decide
theorem same_ok : ∀ (n : Nat) (d : D), plain d n = true → fS (n + 1) [.v d, .v d] = some (.v (.bl true), none)
  | n, .non, _ => same_run _ _ rfl
  | n, .bl true, _ => same_run _ _ rfl
  | n, .bl false, _ => same_run _ _ rfl
  | n, .int i, _ => same_run _ _ (by
    simp [m_law_same_eq, mSeq, mIfS, mTru, M.opt, M.bnd, mVar, Env.at, fIsi, tyD, isTy, tyk1, tyk2, tyk3, tyk4, tyk5, frzA, truD, M.ret, mOrB, mTestA, mBin, fIsN, isNonD, blA, mRetA, mAndV, mNotV, fEq, scD, truA])
  | n, .str s, _ => same_run _ _ (by
    simp [m_law_same_eq, mSeq, mIfS, mTru, M.opt, M.bnd, mVar, Env.at, fIsi, tyD, isTy, tyk1, tyk2, tyk3, tyk4, tyk5, frzA, truD, M.ret, mOrB, mTestA, mBin, fIsN, isNonD, blA, mRetA, mAndV, mNotV, fEq, scD, truA])
  | n + 1, .lst ds, h => same_run _ _ (by
    unfold plain at h
    rw [Bool.and_eq_true] at h
    have hl : ds.length ≤ 50000 := of_decide_eq_true h.1
    have hc := same_comp (fS (n + 1)) (some (.val (.lst ds))) (some (.val (.lst ds))) ds fun d hd => same_ok n d (plainL_mem h.2 d hd)
    have hz := zipD_len ds
    have hn : noOwn [some (.val (.lst ds)), some (.val (.lst ds)), none, none] [2, 3] = true := rfl
    simp [m_law_same_eq, mSeq, mIfS, mTru, M.opt, M.bnd, mVar, Env.at, fIsi, tyD, isTy, tyk1, tyk2, tyk3, tyk4, tyk5, frzA, truD, M.ret, mOrB, mTestA, mBin, fNe, blA, mRetA, mAndV, fEq, scD, truA, mCall, mCons, mNil, fLen, mLc, fZip, hz, hl, hn, hc, fAll_true])
  | n + 1, .tup ds, h => same_run _ _ (by
    unfold plain at h
    rw [Bool.and_eq_true] at h
    have hl : ds.length ≤ 50000 := of_decide_eq_true h.1
    have hc := same_comp (fS (n + 1)) (some (.val (.tup ds))) (some (.val (.tup ds))) ds fun d hd => same_ok n d (plainL_mem h.2 d hd)
    have hz := zipD_len ds
    have hn : noOwn [some (.val (.tup ds)), some (.val (.tup ds)), none, none] [2, 3] = true := rfl
    simp [m_law_same_eq, mSeq, mIfS, mTru, M.opt, M.bnd, mVar, Env.at, fIsi, tyD, isTy, tyk1, tyk2, tyk3, tyk4, tyk5, frzA, truD, M.ret, mOrB, mTestA, mBin, fNe, blA, mRetA, mAndV, fEq, scD, truA, mCall, mCons, mNil, fLen, mLc, fZip, hz, hl, hn, hc, fAll_true])
def m_mr (F : FM) : M Fl :=
    (mSeq (mPar 6 7 (mCons (M.opt (mBin fAdd (M.opt (mBin fAdd (M.opt (mLst (mCons (M.ret (.bl false)) (mCons (M.ret (.bl true)) mNil))) frzA) (M.opt (mBin fMul (M.opt (mLst (mCons (M.ret (.bl false)) mNil)) frzA) (M.ret (.int 5))) frzA)) frzA) (M.opt (mLst (mCons (M.ret (.bl true)) mNil)) frzA)) frzA) (mCons (M.opt (mBin fAdd (M.opt (mBin fAdd (M.opt (mLst (mCons (M.ret (.bl true)) mNil)) frzA) (M.opt (mBin fMul (M.opt (mLst (mCons (M.ret (.bl false)) mNil)) frzA) (M.ret (.int 6))) frzA)) frzA) (M.opt (mLst (mCons (M.ret (.bl true)) mNil)) frzA)) frzA) mNil)))
    (mSeq (mSet 3 (M.opt (mLst (mCons (mMk 6 "number" (mVar 0)) (mCons (M.ret (.ex0 7)) (mCons (mMk 3 "number" (mVar 0)) (mCons (mMk 4 "name" (mVar 2)) (mCons (mMk 2 "path" (mVar 1)) (mCons (mMk 0 "number" (mVar 0)) (mCons (mMk 1 "number" (mVar 0)) (mCons (M.ret (.ex0 5)) (mCons (M.ret (.ex0 8)) (mCons (M.ret (.ex0 9)) mNil))))))))))) frzA))
    (mSeq (mSetA 4 (mLst (mCons (M.opt (mLst (mCons (mXat ks_number "number" (M.opt (mBin fIx (mVar 3) (M.ret (.int 0))) frzA)) (mCons (mXat ks_number "number" (M.opt (mBin fIx (mVar 3) (M.ret (.int 2))) frzA)) (mCons (mXat ks_name "name" (M.opt (mBin fIx (mVar 3) (M.ret (.int 3))) frzA)) (mCons (mXat ks_path "path" (M.opt (mBin fIx (mVar 3) (M.ret (.int 4))) frzA)) (mCons (mXat ks_number "number" (M.opt (mBin fIx (mVar 3) (M.ret (.int 5))) frzA)) (mCons (mXat ks_number "number" (M.opt (mBin fIx (mVar 3) (M.ret (.int 6))) frzA)) mNil))))))) frzA) mNil)))
    (mSeq (mApp 4 (M.opt (mLst (mCons (mXat ks_number "number" (mMk 6 "number" (mVar 0))) (mCons (mXat ks_number "number" (mMk 3 "number" (mVar 0))) (mCons (mXat ks_name "name" (mMk 4 "name" (mVar 2))) (mCons (mXat ks_path "path" (mMk 2 "path" (mVar 1))) (mCons (mXat ks_number "number" (mMk 0 "number" (mVar 0))) (mCons (mXat ks_number "number" (mMk 1 "number" (mVar 0))) mNil))))))) frzA))
    (mSeq (mSet 5 (M.opt (mBin fMul (M.opt (mLst (mCons (M.opt (mLst (mCons (mVar 0) (mCons (mVar 0) (mCons (mVar 2) (mCons (mVar 1) (mCons (mVar 0) (mCons (mVar 0) mNil))))))) frzA) mNil)) frzA) (M.ret (.int 2))) frzA))
    (mFrz 4 (mSeq (mFor (M.opt (mCons (mVar 3) mNil) fEnum) (gmTup 2 (gmCons (gmName 8) (gmCons (gmName 9) gmNil)))
    (mFrz 4 (mSeq (mSetA 4 (mBin fAdd (mVar 4) (M.opt (mLst (mCons (M.opt (mCallF f_law_under (agV (mVar 9) agNil)) frzA) (mCons (M.opt (mCallF f_law_which (agV (mVar 9) agNil)) frzA) mNil))) frzA)))
    (mSet 5 (M.opt (mBin fAdd (mVar 5) (M.opt (mLst (mCons (mIf (mTestA (mChain fLe fLe (M.ret (.int 2)) (mVar 8) (M.ret (.int 7)))) (mVar 7) (mVar 6)) (mCons (M.opt (mLc (M.opt (mCons (M.ret (.int 10)) mNil) fRng1) (gmName 10) (M.ret true) (M.opt (mBin fEq (mVar 10) (mVar 8)) frzA) [10]) frzA) mNil))) frzA)) frzA)))))
    (mFrz 4 (mRetA (mCallF F (agV (mVar 4) (agV (mVar 5) agNil))))))))))))
def rowD (z : Int) (t : D) (w : Str) : D := .lst [.int z, .int z, .str w, t, .int z, .int z]
def lookD (i : Nat) : D := if 2 ≤ i ∧ i ≤ 7 then .lst [.bl true, .bl false, .bl false, .bl false, .bl false, .bl false, .bl false, .bl true] else .lst [.bl false, .bl true, .bl false, .bl false, .bl false, .bl false, .bl false, .bl true]
def whichD (i : Nat) : D := .lst ((List.range 10).map fun k => .bl (k == i))
def allD (z : Int) (t : D) (w : Str) : D := .lst ([rowD z t w, rowD z t w] ++ (List.range 10).flatMap fun i => [lookD i, whichD i])
def madeD (z : Int) (t : D) (w : Str) : D := .lst [.ex1 6 "number" (.int z), .ex0 7, .ex1 3 "number" (.int z), .ex1 4 "name" (.str w), .ex1 2 "path" t, .ex1 0 "number" (.int z), .ex1 1 "number" (.int z), .ex0 5, .ex0 8, .ex0 9]
def mrEnv (z : Int) (t : D) (w : Str) : DL.Env := [some (.val (.int z)), some (.val t), some (.val (.str w)), some (.val (madeD z t w)), some (.val (allD z t w)), some (.val (allD z t w)), some (.val (lookD 0)), some (.val (lookD 2)), some (.val (.int 9)), some (.val (.ex0 9)), none]
theorem mr_run (F : FM) (z : Int) (t : D) (w : Str) : m_mr F [some (.val (.int z)), some (.val t), some (.val (.str w)), none, none, none, none, none, none, none, none] = mRetA (mCallF F (agV (mVar 4) (agV (mVar 5) agNil))) (mrEnv z t w) := by
  kernel_rfl
theorem mr_eq (F : FM) (z : Int) (t : D) (w : Str) (h : F [.v (allD z t w), .v (allD z t w)] = some (.v (.bl true), none)) : m_mr F [some (.val (.int z)), some (.val t), some (.val (.str w)), none, none, none, none, none, none, none, none] = some (Fl.rt (.v (.bl true)), mrEnv z t w) := by
  rw [mr_run]
  simp only [mrEnv]
  generalize allD z t w = a at h ⊢
  simp [mRetA, M.opt, mCallF, agV, M.bnd, mVar, Env.at, agNil, M.ret, arsOf, h, putA]
theorem made_ok (z : Int) (t : D) (w : Str) (h : plain (allD z t w) 5 = true) : f_law_made_right [.v (.int z), .v t, .v (.str w)] = some (.v (.bl true), none) :=
  run_rt rfl (mr_eq (fS 6) z t w (same_ok 5 _ h)) rfl
theorem plain_lst {ds : List D} {n : Nat} (h1 : ds.length ≤ 50000) (h2 : ∀ d ∈ ds, plain d n = true) : plain (.lst ds) (n + 1) = true := by
  unfold plain
  rw [decide_eq_true h1, Bool.true_and]
  clear h1
  induction ds with
  | nil => rfl
  | cons d ds ih =>
    unfold plainL
    rw [h2 d List.mem_cons_self, Bool.true_and]
    exact ih fun x hx => h2 x (List.mem_cons_of_mem _ hx)
theorem plain_ints (ts : List Int) (h : ts.length ≤ 50000) (n : Nat) : plain (.tup (ts.map .int)) (n + 1) = true := by
  unfold plain
  rw [List.length_map, decide_eq_true h, Bool.true_and]
  clear h
  induction ts with
  | nil => rfl
  | cons d ds ih =>
    rw [List.map_cons]
    unfold plainL
    rw [ih, Bool.and_true]
    rfl
theorem plain_row (z : Int) (t : D) (w : Str) (h : plain t 3 = true) : plain (rowD z t w) 4 = true := by
  refine plain_lst (show 6 ≤ 50000 by decide) fun d hd => ?_
  simp only [List.mem_cons, List.not_mem_nil, or_false] at hd
  rcases hd with rfl | rfl | rfl | rfl | rfl | rfl
  · rfl
  · rfl
  · rfl
  · exact h
  · rfl
  · rfl
theorem plain_bls {n : Nat} (bs : List Bool) (h : bs.length ≤ 50000) : plain (.lst (bs.map .bl)) (n + 1) = true :=
  plain_lst (by rw [List.length_map]; exact h) fun d hd => by
    obtain ⟨b, _, rfl⟩ := List.mem_map.mp hd
    rfl
theorem plain_all (z : Int) (t : D) (w : Str) (h : plain t 3 = true) : plain (allD z t w) 5 = true := by
  refine plain_lst ?_ fun d hd => ?_
  · show 22 ≤ 50000
    decide
  · rcases List.mem_append.mp hd with hd | hd
    · rcases List.mem_cons.mp hd with rfl | hd
      · exact plain_row z t w h
      · rw [List.mem_singleton.mp hd]
        exact plain_row z t w h
    · obtain ⟨i, _, hi⟩ := List.mem_flatMap.mp hd
      rcases List.mem_cons.mp hi with rfl | hi
      · unfold lookD
        split
        · exact plain_bls [true, false, false, false, false, false, false, true] (by decide)
        · exact plain_bls [false, true, false, false, false, false, false, true] (by decide)
      · rw [List.mem_singleton.mp hi]
        unfold whichD
        have e : ((List.range 10).map fun k => D.bl (k == i)) = ((List.range 10).map fun k => k == i).map D.bl := by rw [List.map_map]; rfl
        rw [e]
        exact plain_bls _ (by rw [List.length_map, List.length_range]; decide)
theorem made_any (z : Int) (ts : List Int) (w : Str) (h : ts.length ≤ 50000) : f_law_made_right [.v (.int z), .v (.tup (ts.map .int)), .v (.str w)] = some (.v (.bl true), none) := made_ok z _ w (plain_all z _ w (plain_ints ts h 2))
def take3 : M D := M.opt (mCallF f_law_take (agL 0 (agV (M.ret (.int 3)) agNil))) frzA
abbrev tinC (a b c : Int) : Option C := some (.par 0 (.lst [.int a, .int b, .int c]))
theorem take_call (a b c n : Int) (e : DL.Env) (hn : 0 < n) (hn' : n ≤ 1000) (hc : 0 ≤ c) (hc' : c < 1000000) : ∃ r a' c', 0 ≤ r ∧ r < n ∧ c ≤ c' ∧ c' ≤ c + 1 ∧
    mCallF f_law_take (agL 0 (agV (M.ret (.int n)) agNil)) (tinC a b c :: e) = some (.v (.int r), tinC a' b c' :: e) := by
  obtain ⟨r, a', c', h1, h2, h3, h4, h⟩ := take_any a b c n hn hn' hc hc'
  refine ⟨r, a', c', h1, h2, h3, h4, ?_⟩
  simp [mCallF, agL, Env.at, oneO, agV, M.ret, agNil, M.bnd, M.opt, arsOf, h, putA, putO]
theorem of_call (a b c : Int) (e : DL.Env) (ds : List D) (m : M D) (a1 c1 : Int) (hm : m (tinC a b c :: e) = some (.lst ds, tinC a1 b c1 :: e)) (hn : 0 < ds.length) (hn' : ds.length ≤ 1000) (hc : 0 ≤ c1) (hc' : c1 < 1000000) : ∃ d a' c', d ∈ ds ∧ c1 ≤ c' ∧ c' ≤ c1 + 1 ∧
    mCallF f_law_of (agL 0 (agV m agNil)) (tinC a b c :: e) = some (.v d, tinC a' b c' :: e) := by
  obtain ⟨d, a', c', h1, h3, h4, h⟩ := of_any a1 b c1 ds hn hn' hc hc'
  refine ⟨d, a', c', h1, h3, h4, ?_⟩
  simp [mCallF, agL, Env.at, oneO, agV, M.ret, agNil, M.bnd, M.opt, arsOf, h, putA, putO, hm]
theorem take3_comp (b : Int) (x : Option C) : ∀ (ds : List D) (a c : Int), 0 ≤ c → c + ds.length < 1000000 → ∃ (ts : List Int) (a' c' : Int), ts.length = ds.length ∧ c ≤ c' ∧ c' ≤ c + ds.length ∧
    compL (gmName 3) (M.ret true) take3 [3] ds [tinC a b c, x, none, none] = some (ts.map .int, [tinC a' b c', x, none, none])
  | [], a, c, _, _ => ⟨[], a, c, rfl, by omega, by simp, rfl⟩
  | d :: ds, a, c, h0, h => by
    rw [List.length_cons] at h
    obtain ⟨r, a1, c1, _, _, h3, h4, e1⟩ := take_call a b c 3 [x, none, some (.val d)] (by decide) (by decide) h0 (by omega)
    obtain ⟨ts, a2, c2, k1, k2, k3, e2⟩ := take3_comp b x ds a1 c1 (by omega) (by omega)
    refine ⟨r :: ts, a2, c2, by rw [List.length_cons, List.length_cons, k1], by omega, by rw [List.length_cons]; omega, ?_⟩
    have e3 : take3 [tinC a b c, x, none, some (.val d)] = some (.int r, [tinC a1 b c1, x, none, some (.val d)]) := by
      unfold take3 M.opt
      rw [e1]
      rfl
    unfold compL
    show (match take3 [tinC a b c, x, none, some (.val d)] with
      | none => none
      | some (y, e3) => _) = _
    rw [e3]
    show (match compL (gmName 3) (M.ret true) take3 [3] ds [tinC a1 b c1, x, none, none] with
      | none => none
      | some (ys, e4) => _) = _
    rw [e2]
    rfl
def tk (n : Int) : M Ar := mCallF f_law_take (agL 0 (agV (M.ret (.int n)) agNil))
def goodsN : M D := M.opt (mLst (mCons (M.ret (.int 0)) (mCons (M.ret (.int 1)) (mCons (M.ret (.int 7)) (mCons (M.opt (mBin fPow (M.ret (.int 10)) (M.ret (.int 6))) frzA) (mCons (M.opt (tk 1000) frzA) mNil)))))) frzA
def goodsS : M D := M.opt (mLst (mCons (M.ret (.str "a")) (mCons (M.ret (.str "x")) (mCons (M.ret (.str "z")) mNil)))) frzA
def ofD (m : M D) : M Ar := mCallF f_law_of (agL 0 (agV m agNil))
def trailD : M D := M.opt (mLc (M.opt (mCons (M.opt (tk 4) frzA) mNil) fRng1) (gmName 3) (M.ret true) take3 [3]) frzA
theorem m_law_right_eq : m_law_right = (mSeq (mSet 1 (M.opt (mBin fMul (M.opt (mBin fSub (M.opt (tk 3) frzA) (M.ret (.int 1))) frzA) (M.opt (ofD goodsN) frzA)) frzA))
    (mSeq (mSet 2 (M.opt (mCall fTuple (mCons trailD mNil)) frzA))
    (mRetA (mCallF f_law_made_right (agV (mVar 1) (agV (mVar 2) (agV (M.opt (ofD goodsS) frzA) agNil))))))) := rfl
theorem right_ok (a b : Int) : ∃ o, f_law_right [.o (.lst [.int a, .int b, .int 0])] = some (.v (.bl true), some o) := by
  obtain ⟨r1, a1, c1, p1, p2, p3, p4, e1⟩ := take_call a b 0 3 [none, none, none] (by decide) (by decide) (by decide) (by decide)
  obtain ⟨r2, a2, c2, q1, q2, q3, q4, e2⟩ := take_call a1 b c1 1000 [none, none, none] (by decide) (by decide) (by omega) (by omega)
  have g2 : goodsN [tinC a1 b c1, none, none, none] = some (.lst [.int 0, .int 1, .int 7, .int 1000000, .int r2], [tinC a2 b c2, none, none, none]) := by
    have e2' : tk 1000 [tinC a1 b c1, none, none, none] = some (.v (.int r2), [tinC a2 b c2, none, none, none]) := e2
    have pw : fPow (.int 10) (.int 6) = some (.v (.int 1000000)) := rfl
    simp [goodsN, M.opt, mLst, mCons, M.bnd, M.ret, mBin, pw, frzA, e2', mNil]
  obtain ⟨d3, a3, c3, hd3, k3, k3', e3⟩ := of_call a1 b c1 [none, none, none] _ goodsN a2 c2 g2 (by simp) (by simp) (by omega) (by omega)
  obtain ⟨v3, rfl⟩ : ∃ v, d3 = .int v := by
    simp only [List.mem_cons, List.not_mem_nil, or_false] at hd3
    rcases hd3 with rfl | rfl | rfl | rfl | rfl <;> exact ⟨_, rfl⟩
  have m1 : CMul (r1 - 1) v3 := .inl (by constructor <;> omega)
  obtain ⟨z, hz⟩ : ∃ z, z = (r1 - 1) * v3 := ⟨_, rfl⟩
  have s1 : mSet 1 (M.opt (mBin fMul (M.opt (mBin fSub (M.opt (tk 3) frzA) (M.ret (.int 1))) frzA) (M.opt (ofD goodsN) frzA)) frzA) [tinC a b 0, none, none, none] = some (Fl.nx, [tinC a3 b c3, some (.val (.int z)), none, none]) := by
    have e1' : tk 3 [tinC a b 0, none, none, none] = some (.v (.int r1), [tinC a1 b c1, none, none, none]) := e1
    have e3' : ofD goodsN [tinC a1 b c1, none, none, none] = some (.v (.int v3), [tinC a3 b c3, none, none, none]) := e3
    simp [mSet, M.opt, mBin, M.bnd, M.ret, e1', frzA, fSub, e3', fMul_i m1, hz]
  obtain ⟨r4, a4, c4, l1, l2, l3, l4, e4⟩ := take_call a3 b c3 4 [some (.val (.int z)), none, none] (by decide) (by decide) (by omega) (by omega)
  have hn : (rngD 0 r4.toNat).length = r4.toNat := by
    unfold rngD
    rw [List.length_map, List.length_range]
  obtain ⟨ts, a5, c5, n1, n2, n3, e5⟩ := take3_comp b (some (.val (.int z))) (rngD 0 r4.toNat) a4 c4 (by omega) (by rw [hn]; omega)
  rw [hn] at n1 n3
  have s2 : mSet 2 (M.opt (mCall fTuple (mCons trailD mNil)) frzA) [tinC a3 b c3, some (.val (.int z)), none, none] = some (Fl.nx, [tinC a5 b c5, some (.val (.int z)), some (.val (.tup (ts.map .int))), none]) := by
    have e4' : tk 4 [tinC a3 b c3, some (.val (.int z)), none, none] = some (.v (.int r4), [tinC a4 b c4, some (.val (.int z)), none, none]) := e4
    have hr : fRng1 [.int r4] = some (rngD 0 r4.toNat) := if_pos ⟨by omega, by omega⟩
    have hl : (rngD 0 r4.toNat).length ≤ 50000 ∧ noOwn [tinC a4 b c4, some (.val (.int z)), none, none] [3] = true := ⟨by rw [hn]; omega, rfl⟩
    have t : trailD [tinC a3 b c3, some (.val (.int z)), none, none] = some (.lst (ts.map .int), [tinC a5 b c5, some (.val (.int z)), none, none]) := by
      have h1 : (M.opt (mCons (M.opt (tk 4) frzA) mNil) fRng1) [tinC a3 b c3, some (.val (.int z)), none, none] = some (rngD 0 r4.toNat, [tinC a4 b c4, some (.val (.int z)), none, none]) := by
        simp [M.opt, mCons, M.bnd, e4', frzA, mNil, M.ret, hr]
      unfold trailD
      generalize (M.opt (mCons (M.opt (tk 4) frzA) mNil) fRng1) = m at h1
      simp only [M.opt, mLc, h1]
      rw [if_pos hl, e5]
      rfl
    simp [mSet, M.bnd, M.opt, mCall, mCons, t, mNil, M.ret, fTuple, frzA]
  obtain ⟨d6, a6, c6, hd6, k6, k6', e6⟩ := of_call a5 b c5 [some (.val (.int z)), some (.val (.tup (ts.map .int))), none] [.str "a", .str "x", .str "z"] goodsS a5 c5 rfl (by simp) (by simp) (by omega) (by omega)
  obtain ⟨w, rfl⟩ : ∃ v, d6 = .str v := by
    simp only [List.mem_cons, List.not_mem_nil, or_false] at hd6
    rcases hd6 with rfl | rfl | rfl <;> exact ⟨_, rfl⟩
  have e6' : ofD goodsS [tinC a5 b c5, some (.val (.int z)), some (.val (.tup (ts.map .int))), none] = some (.v (.str w), [tinC a6 b c6, some (.val (.int z)), some (.val (.tup (ts.map .int))), none]) := e6
  have hm := made_any z ts w (by omega)
  refine ⟨.lst [.int a6, .int b, .int c6], run_rt rfl (e := [tinC a6 b c6, some (.val (.int z)), some (.val (.tup (ts.map .int))), none]) (r := .v (.bl true)) ?_ rfl⟩
  show m_law_right [tinC a b 0, none, none, none] = _
  rw [m_law_right_eq]
  simp only [mSeq, s1, s2]
  simp [mRetA, M.opt, mCallF, agV, M.bnd, mVar, Env.at, e6', frzA, agNil, M.ret, arsOf, hm, putA]
def handD : M D := M.opt (mCallF f_law_made_right (agV (M.opt (mBin fIx (mVar 4) (M.ret (.int 0))) frzA) (agV (M.opt (mBin fIx (mVar 4) (M.ret (.int 1))) frzA) (agV (M.opt (mBin fIx (mVar 4) (M.ret (.int 2))) frzA) agNil)))) frzA
def turnD : M D := M.opt (mCallF f_law_right (agT (mCallF f_law_box (agV (mVar 2) (agV (mVar 3) agNil))))) frzA
def casesD : List D := [.tup [.int 0, .tup [], .str "a"], .tup [.int (-1), .tup [.int 0], .str "b"], .tup [.int 1000000, .tup [.int 2, .int 0, .int 1], .str "z"]]
def caseD : M D := (mTup (mCons (mTup (mCons (M.ret (.int 0)) (mCons (mTup mNil) (mCons (M.ret (.str "a")) mNil)))) (mCons (mTup (mCons (M.opt (mUn fNeg (M.ret (.int 1))) frzA) (mCons (mTup (mCons (M.ret (.int 0)) mNil)) (mCons (M.ret (.str "b")) mNil)))) (mCons (mTup (mCons (M.opt (mBin fPow (M.ret (.int 10)) (M.ret (.int 6))) frzA) (mCons (mTup (mCons (M.ret (.int 2)) (mCons (M.ret (.int 0)) (mCons (M.ret (.int 1)) mNil)))) (mCons (M.ret (.str "z")) mNil)))) mNil))))
theorem m_law_eq : m_law = (mSeq (mSet 1 caseD)
    (mSeq (mIfS (mNotB (mTru (M.opt (mCall fAll (mCons (M.opt (mLc (M.opt (mVar 1) seqD) (gmName 4) (M.ret true) handD [4]) frzA) mNil)) frzA))) (mRet (M.ret (.bl false))) (M.ret .nx))
    (mSeq (mSet 2 (M.opt (mCallF f_law_cells (agV (mVar 0) (agV (M.ret (.int 2)) agNil))) frzA))
    (mRetA (mCall fAll (mCons (M.opt (mLc (M.opt (mCons (M.opt (mCall fLen (mCons (mVar 2) mNil)) frzA) mNil) fRng1) (gmName 3) (M.ret true) turnD [3]) frzA) mNil)))))) := rfl
theorem hand_one (s x : Option C) (z : Int) (ts : List Int) (w : Str) (h : ts.length ≤ 50000) : handD [s, x, none, none, some (.val (.tup [.int z, .tup (ts.map .int), .str w]))] = some (.bl true, [s, x, none, none, some (.val (.tup [.int z, .tup (ts.map .int), .str w]))]) := by
  have hm := made_any z ts w h
  simp [handD, M.opt, mCallF, agV, M.bnd, mBin, mVar, Env.at, M.ret, fIx, L2.atI, ixN, frzA, agNil, arsOf, hm, putA]
theorem hand_all (s x : Option C) : compL (gmName 4) (M.ret true) handD [4] casesD [s, x, none, none, none] = some ([.bl true, .bl true, .bl true], [s, x, none, none, none]) := by
  have h1 := hand_one s x 0 [] "a" (by decide)
  have h2 := hand_one s x (-1) [0] "b" (by decide)
  have h3 := hand_one s x 1000000 [2, 0, 1] "z" (by decide)
  have e : ∀ (d : D) (ds : List D) (ys : List D), handD [s, x, none, none, some (.val d)] = some (.bl true, [s, x, none, none, some (.val d)]) → compL (gmName 4) (M.ret true) handD [4] ds [s, x, none, none, none] = some (ys, [s, x, none, none, none]) →
      compL (gmName 4) (M.ret true) handD [4] (d :: ds) [s, x, none, none, none] = some (.bl true :: ys, [s, x, none, none, none]) := fun d ds ys q1 q2 => by
    unfold compL
    show (match handD [s, x, none, none, some (.val d)] with
      | none => none
      | some (y, e3) => _) = _
    rw [q1]
    show (match compL (gmName 4) (M.ret true) handD [4] ds [s, x, none, none, none] with
      | none => none
      | some (ys, e4) => _) = _
    rw [q2]
  exact e _ _ _ h1 (e _ _ _ h2 (e _ _ _ h3 rfl))
theorem turn_one (s x : Option C) (xs : List Int) (k : Nat) (hk : k < xs.length) : turnD [s, x, some (.val (.lst (xs.map .int))), some (.val (.int (0 + (k : Int)))), none] = some (.bl true, [s, x, some (.val (.lst (xs.map .int))), some (.val (.int (0 + (k : Int)))), none]) := by
  obtain ⟨a, b, h1⟩ := box_any xs k hk
  obtain ⟨o, h2⟩ := right_ok a b
  rw [Int.zero_add]
  simp [turnD, M.opt, mCallF, agT, agV, M.bnd, mVar, Env.at, agNil, M.ret, arsOf, h1, putA, h2, frzA]
theorem turn_all (s x : Option C) (xs : List Int) : ∀ (ks : List Nat), (∀ k ∈ ks, k < xs.length) → compL (gmName 3) (M.ret true) turnD [3] (ks.map fun (k : Nat) => .int (0 + (k : Int))) [s, x, some (.val (.lst (xs.map .int))), none, none] = some (List.replicate ks.length (.bl true), [s, x, some (.val (.lst (xs.map .int))), none, none])
  | [], _ => rfl
  | k :: ks, h => by
    have ih := turn_all s x xs ks fun j hj => h j (List.mem_cons_of_mem _ hj)
    have h1 := turn_one s x xs k (h k List.mem_cons_self)
    rw [List.map_cons]
    unfold compL
    show (match turnD [s, x, some (.val (.lst (xs.map .int))), some (.val (.int (0 + (k : Int)))), none] with
      | none => none
      | some (y, e3) => _) = _
    rw [h1]
    show (match compL (gmName 3) (M.ret true) turnD [3] (ks.map fun (k : Nat) => .int (0 + (k : Int))) [s, x, some (.val (.lst (xs.map .int))), none, none] with
      | none => none
      | some (ys, e4) => _) = _
    rw [ih]
    rfl
theorem law_ok (ns : List Int) : f_law [.v (.fz (ns.map .int))] = some (.v (.bl true), none) := by
  obtain ⟨xs, x1, x2, hc⟩ := cells_any ns
  obtain ⟨sc, hs⟩ : ∃ sc, sc = D.fz (ns.map .int) := ⟨_, rfl⟩
  rw [← hs] at hc ⊢
  have s1 : mSet 1 caseD [some (.val sc), none, none, none, none] = some (Fl.nx, [some (.val sc), some (.val (.tup casesD)), none, none, none]) := rfl
  have hl : casesD.length ≤ 50000 ∧ noOwn [some (.val sc), some (.val (.tup casesD)), none, none, none] [4] = true := ⟨by decide, rfl⟩
  have s2 : (mIfS (mNotB (mTru (M.opt (mCall fAll (mCons (M.opt (mLc (M.opt (mVar 1) seqD) (gmName 4) (M.ret true) handD [4]) frzA) mNil)) frzA))) (mRet (M.ret (.bl false))) (M.ret .nx)) [some (.val sc), some (.val (.tup casesD)), none, none, none] = some (Fl.nx, [some (.val sc), some (.val (.tup casesD)), none, none, none]) := by
    have h1 : (M.opt (mVar 1) seqD) [some (.val sc), some (.val (.tup casesD)), none, none, none] = some (casesD, [some (.val sc), some (.val (.tup casesD)), none, none, none]) := rfl
    have h2 : (mLc (M.opt (mVar 1) seqD) (gmName 4) (M.ret true) handD [4]) [some (.val sc), some (.val (.tup casesD)), none, none, none] = some (.o (.lst [.bl true, .bl true, .bl true]), [some (.val sc), some (.val (.tup casesD)), none, none, none]) := by
      unfold mLc
      rw [h1]
      show (if casesD.length ≤ 50000 ∧ noOwn [some (.val sc), some (.val (.tup casesD)), none, none, none] [4] = true then _ else _) = _
      rw [if_pos hl, hand_all]
    have h3 : fAll [.lst [.bl true, .bl true, .bl true]] = some (.v (.bl true)) := rfl
    generalize (mLc (M.opt (mVar 1) seqD) (gmName 4) (M.ret true) handD [4]) = m at h2 ⊢
    simp [mIfS, mNotB, mTru, M.opt, M.bnd, mCall, mCons, h2, frzA, mNil, M.ret, h3, truD]
  have s3 : (mSet 2 (M.opt (mCallF f_law_cells (agV (mVar 0) (agV (M.ret (.int 2)) agNil))) frzA)) [some (.val sc), some (.val (.tup casesD)), none, none, none] = some (Fl.nx, [some (.val sc), some (.val (.tup casesD)), some (.val (.lst (xs.map .int))), none, none]) := by
    simp [mSet, M.bnd, M.opt, mCallF, agV, mVar, Env.at, M.ret, agNil, arsOf, hc, putA, frzA]
  have s4 : (mRetA (mCall fAll (mCons (M.opt (mLc (M.opt (mCons (M.opt (mCall fLen (mCons (mVar 2) mNil)) frzA) mNil) fRng1) (gmName 3) (M.ret true) turnD [3]) frzA) mNil))) [some (.val sc), some (.val (.tup casesD)), some (.val (.lst (xs.map .int))), none, none] = some (Fl.rt (.v (.bl true)), [some (.val sc), some (.val (.tup casesD)), some (.val (.lst (xs.map .int))), none, none]) := by
    have hr : fRng1 [.int (xs.length : Int)] = some (rngD 0 xs.length) := if_pos ⟨by omega, by omega⟩
    have h1 : (M.opt (mCons (M.opt (mCall fLen (mCons (mVar 2) mNil)) frzA) mNil) fRng1) [some (.val sc), some (.val (.tup casesD)), some (.val (.lst (xs.map .int))), none, none] = some (rngD 0 xs.length, [some (.val sc), some (.val (.tup casesD)), some (.val (.lst (xs.map .int))), none, none]) := by
      simp [M.opt, mCons, M.bnd, mCall, mVar, Env.at, mNil, M.ret, fLen, frzA, hr]
    have hl2 : (rngD 0 xs.length).length ≤ 50000 ∧ noOwn [some (.val sc), some (.val (.tup casesD)), some (.val (.lst (xs.map .int))), none, none] [3] = true := ⟨by
      unfold rngD
      rw [List.length_map, List.length_range]
      omega, rfl⟩
    have hk : ∀ k ∈ List.range xs.length, k < xs.length := fun k hk => List.mem_range.mp hk
    have h2 : (mLc (M.opt (mCons (M.opt (mCall fLen (mCons (mVar 2) mNil)) frzA) mNil) fRng1) (gmName 3) (M.ret true) turnD [3]) [some (.val sc), some (.val (.tup casesD)), some (.val (.lst (xs.map .int))), none, none] = some (.o (.lst (List.replicate xs.length (.bl true))), [some (.val sc), some (.val (.tup casesD)), some (.val (.lst (xs.map .int))), none, none]) := by
      have h := turn_all (some (.val sc)) (some (.val (.tup casesD))) xs (List.range xs.length) hk
      rw [List.length_range] at h
      unfold mLc
      rw [h1]
      show (if (rngD 0 xs.length).length ≤ 50000 ∧ noOwn [some (.val sc), some (.val (.tup casesD)), some (.val (.lst (xs.map .int))), none, none] [3] = true then _ else _) = _
      rw [if_pos hl2]
      show (match compL (gmName 3) (M.ret true) turnD [3] ((List.range xs.length).map fun (k : Nat) => .int (0 + (k : Int))) [some (.val sc), some (.val (.tup casesD)), some (.val (.lst (xs.map .int))), none, none] with
        | none => none
        | some (ys, e2) => _) = _
      rw [h]
    generalize (mLc (M.opt (mCons (M.opt (mCall fLen (mCons (mVar 2) mNil)) frzA) mNil) fRng1) (gmName 3) (M.ret true) turnD [3]) = m at h2 ⊢
    simp [mRetA, mCall, mCons, M.opt, M.bnd, h2, frzA, mNil, M.ret, fAll_true]
  refine run_rt rfl (e := [some (.val sc), some (.val (.tup casesD)), some (.val (.lst (xs.map .int))), none, none]) (r := .v (.bl true)) ?_ rfl
  show m_law [some (.val sc), none, none, none, none] = _
  rw [m_law_eq]
  simp only [mSeq, s1, s2, s3, s4]
end Q00

namespace Q00
open PySem L2 DL DLX
def ctOf (cs : List Addr) (k : Nat) : Addr := cs.getD k 0
def bsL : List Value := [.type "LookupError", .type "Exception", .type "BaseException", .type "object"]
def bsV : List Value := [.type "ValueError", .type "Exception", .type "BaseException", .type "object"]
def ksB (p : Nat → Bool) : Bool := (List.range 10).all p
theorem ksB_ok {p : Nat → Bool} (h : ksB p = true) {k : Nat} (hk : ksA k = true) : p k = true := List.all_eq_true.mp h k (List.mem_range.mpr (of_decide_eq_true hk))
def xcsB (K : PySem.W.Frag) (cs : List Addr) : Bool := ksB fun k => if k < 6 then xcB K (ctOf cs k) "LookupError.__new__" bsL else xcB K (ctOf cs k) "ValueError.__new__" bsV
theorem xcs_ok {K : PySem.W.Frag} {cs : List Addr} (h : xcsB K cs = true) (k : Nat) (hk : ksA k = true) : XC K (ctOf cs k) := by
  have h2 := ksB_ok h hk
  by_cases h6 : k < 6
  · rw [if_pos h6] at h2
    exact xcB_ok PySem.F.excBase_LookupError PySem.F.store_LookupError h2
  · rw [if_neg h6] at h2
    exact xcB_ok PySem.F.excBase_ValueError PySem.F.store_ValueError h2
def kitB (K : PySem.W.Frag) (cs : List Addr) (v : Value) (tb : Nat → Bool) : Bool := ksB fun k => decide (PySem.W.kitOne K (.ref (ctOf cs k)) v = some (tb k))
theorem kit_ok {K : PySem.W.Frag} {cs : List Addr} (x : xcsB K cs = true) {v : Value} {tb : Nat → Bool} (h : kitB K cs v tb = true) (k : Nat) (hk : ksA k = true) : XC K (ctOf cs k) ∧ PySem.W.kitOne K (.ref (ctOf cs k)) v = some (tb k) := ⟨xcs_ok x k hk, of_decide_eq_true (ksB_ok h hk)⟩
def fndB (K : PySem.W.Frag) (cs : List Addr) (ks : Nat → Bool) (f : Str) : Bool := ksB fun k => !ks k || decide (PySem.W.findIn K (.ref (ctOf cs k)) f = some none)
theorem fnd_ok {K : PySem.W.Frag} {cs : List Addr} (x : xcsB K cs = true) {ks : Nat → Bool} {f : Str} (hs : ∀ k, ks k = true → ksA k = true) (h : fndB K cs ks f = true) (k : Nat) (hk : ks k = true) : XC K (ctOf cs k) ∧ PySem.W.findIn K (.ref (ctOf cs k)) f = some none := by
  have h2 := ksB_ok h (hs k hk)
  rw [hk] at h2
  exact ⟨xcs_ok x k (hs k hk), of_decide_eq_true h2⟩
theorem sub_number : ∀ k, ks_number k = true → ksA k = true := fun k h => by
  simp only [ks_number, List.contains_eq_mem, List.mem_cons, List.not_mem_nil, or_false, decide_eq_true_eq] at h
  rcases h with rfl | rfl | rfl | rfl <;> rfl
theorem sub_name : ∀ k, ks_name k = true → ksA k = true := fun k h => by
  simp only [ks_name, List.contains_eq_mem, List.mem_cons, List.not_mem_nil, or_false, decide_eq_true_eq] at h
  subst h
  rfl
theorem sub_path : ∀ k, ks_path k = true → ksA k = true := fun k h => by
  simp only [ks_path, List.contains_eq_mem, List.mem_cons, List.not_mem_nil, or_false, decide_eq_true_eq] at h
  subst h
  rfl
theorem sc_init0 : FnScope ["self", "number"] ["self", "number"] (defScope s_init0) := ⟨rfl, rfl, rfl, by decide +kernel, rfl, by decide +kernel, by decide +kernel⟩
theorem sc_init1 : FnScope ["self", "number"] ["self", "number"] (defScope s_init1) := ⟨rfl, rfl, rfl, by decide +kernel, rfl, by decide +kernel, by decide +kernel⟩
theorem sc_init2 : FnScope ["self", "path"] ["self", "path"] (defScope s_init2) := ⟨rfl, rfl, rfl, by decide +kernel, rfl, by decide +kernel, by decide +kernel⟩
theorem sc_init3 : FnScope ["self", "number"] ["self", "number"] (defScope s_init3) := ⟨rfl, rfl, rfl, by decide +kernel, rfl, by decide +kernel, by decide +kernel⟩
theorem sc_init4 : FnScope ["self", "name"] ["self", "name"] (defScope s_init4) := ⟨rfl, rfl, rfl, by decide +kernel, rfl, by decide +kernel, by decide +kernel⟩
theorem sc_init6 : FnScope ["self", "number"] ["self", "number"] (defScope s_init6) := ⟨rfl, rfl, rfl, by decide +kernel, rfl, by decide +kernel, by decide +kernel⟩
theorem all_mk {l : PySem.W.OpenLaw} {w : World} {K : PySem.W.Frag} {h : Heap} {mg : Str → Option Value} {fa : Addr} {C0 C1 C2 C3 C4 C5 C6 C7 C8 C9 : Addr} (X : K.In h) (G : h.Ns mainGlobals mg) (hfa : mg "law" = some (.ref fa))
    {ocd0 kVd0 dcd0 pmd0 cdd0 ctd0 : Value} {odd0 and0 : Option Addr} {sld0 : Array (Option Value)} {f0 : Addr}
    {ocd1 kVd1 dcd1 pmd1 cdd1 ctd1 : Value} {odd1 and1 : Option Addr} {sld1 : Array (Option Value)} {f1 : Addr}
    {ocd2 kVd2 dcd2 pmd2 cdd2 ctd2 : Value} {odd2 and2 : Option Addr} {sld2 : Array (Option Value)} {f2 : Addr}
    {ocd3 kVd3 dcd3 pmd3 cdd3 ctd3 : Value} {odd3 and3 : Option Addr} {sld3 : Array (Option Value)} {f3 : Addr}
    {ocd4 kVd4 dcd4 pmd4 cdd4 ctd4 : Value} {odd4 and4 : Option Addr} {sld4 : Array (Option Value)} {f4 : Addr}
    {ocd5 kVd5 dcd5 pmd5 cdd5 ctd5 : Value} {odd5 and5 : Option Addr} {sld5 : Array (Option Value)} {f5 : Addr}
    {ocd6 kVd6 dcd6 pmd6 cdd6 ctd6 : Value} {odd6 and6 : Option Addr} {sld6 : Array (Option Value)} {f6 : Addr}
    {ocd7 kVd7 dcd7 pmd7 cdd7 ctd7 : Value} {odd7 and7 : Option Addr} {sld7 : Array (Option Value)} {f7 : Addr}
    {ocd8 kVd8 dcd8 pmd8 cdd8 ctd8 : Value} {odd8 and8 : Option Addr} {sld8 : Array (Option Value)} {f8 : Addr}
    {ocd9 kVd9 dcd9 pmd9 cdd9 ctd9 : Value} {odd9 and9 : Option Addr} {sld9 : Array (Option Value)} {f9 : Addr}
    {oci0 kVi0 dci0 pmi0 cdi0 cti0 : Value} {odi0 ani0 : Option Addr} {sli0 : Array (Option Value)} {g0 : Addr}
    {oci1 kVi1 dci1 pmi1 cdi1 cti1 : Value} {odi1 ani1 : Option Addr} {sli1 : Array (Option Value)} {g1 : Addr}
    {oci2 kVi2 dci2 pmi2 cdi2 cti2 : Value} {odi2 ani2 : Option Addr} {sli2 : Array (Option Value)} {g2 : Addr}
    {oci3 kVi3 dci3 pmi3 cdi3 cti3 : Value} {odi3 ani3 : Option Addr} {sli3 : Array (Option Value)} {g3 : Addr}
    {oci4 kVi4 dci4 pmi4 cdi4 cti4 : Value} {odi4 ani4 : Option Addr} {sli4 : Array (Option Value)} {g4 : Addr}
    {oci6 kVi6 dci6 pmi6 cdi6 cti6 : Value} {odi6 ani6 : Option Addr} {sli6 : Array (Option Value)} {g6 : Addr}
    (a0 : PySem.W.nsIn K mainGlobals "_law_box" = some (some (.ref f0)))
    (l0 : K.lookup f0 = some ⟨ocd0, odd0, .func (PySem.W.fnOf "_law_box" "_law_box" (defArgs s_law_box) (defBody s_law_box) (defScope s_law_box) .none kVd0 dcd0 pmd0 and0 cdd0 ctd0), sld0⟩)
    (c0 : PySem.W.codeIn K cdd0 "_law_box" = true)
    (k0 : PySem.W.keepIn K (.ref f0) = true)
    (a1 : PySem.W.nsIn K mainGlobals "_law_take" = some (some (.ref f1)))
    (l1 : K.lookup f1 = some ⟨ocd1, odd1, .func (PySem.W.fnOf "_law_take" "_law_take" (defArgs s_law_take) (defBody s_law_take) (defScope s_law_take) .none kVd1 dcd1 pmd1 and1 cdd1 ctd1), sld1⟩)
    (c1 : PySem.W.codeIn K cdd1 "_law_take" = true)
    (k1 : PySem.W.keepIn K (.ref f1) = true)
    (a2 : PySem.W.nsIn K mainGlobals "_law_cells" = some (some (.ref f2)))
    (l2 : K.lookup f2 = some ⟨ocd2, odd2, .func (PySem.W.fnOf "_law_cells" "_law_cells" (defArgs s_law_cells) (defBody s_law_cells) (defScope s_law_cells) .none kVd2 dcd2 pmd2 and2 cdd2 ctd2), sld2⟩)
    (c2 : PySem.W.codeIn K cdd2 "_law_cells" = true)
    (k2 : PySem.W.keepIn K (.ref f2) = true)
    (a3 : PySem.W.nsIn K mainGlobals "_law_of" = some (some (.ref f3)))
    (l3 : K.lookup f3 = some ⟨ocd3, odd3, .func (PySem.W.fnOf "_law_of" "_law_of" (defArgs s_law_of) (defBody s_law_of) (defScope s_law_of) .none kVd3 dcd3 pmd3 and3 cdd3 ctd3), sld3⟩)
    (c3 : PySem.W.codeIn K cdd3 "_law_of" = true)
    (k3 : PySem.W.keepIn K (.ref f3) = true)
    (a4 : PySem.W.nsIn K mainGlobals "_law_same" = some (some (.ref f4)))
    (l4 : K.lookup f4 = some ⟨ocd4, odd4, .func (PySem.W.fnOf "_law_same" "_law_same" (defArgs s_law_same) (defBody s_law_same) (defScope s_law_same) .none kVd4 dcd4 pmd4 and4 cdd4 ctd4), sld4⟩)
    (c4 : PySem.W.codeIn K cdd4 "_law_same" = true)
    (k4 : PySem.W.keepIn K (.ref f4) = true)
    (a5 : PySem.W.nsIn K mainGlobals "_law_under" = some (some (.ref f5)))
    (l5 : K.lookup f5 = some ⟨ocd5, odd5, .func (PySem.W.fnOf "_law_under" "_law_under" (defArgs s_law_under) (defBody s_law_under) (defScope s_law_under) .none kVd5 dcd5 pmd5 and5 cdd5 ctd5), sld5⟩)
    (c5 : PySem.W.codeIn K cdd5 "_law_under" = true)
    (k5 : PySem.W.keepIn K (.ref f5) = true)
    (a6 : PySem.W.nsIn K mainGlobals "_law_which" = some (some (.ref f6)))
    (l6 : K.lookup f6 = some ⟨ocd6, odd6, .func (PySem.W.fnOf "_law_which" "_law_which" (defArgs s_law_which) (defBody s_law_which) (defScope s_law_which) .none kVd6 dcd6 pmd6 and6 cdd6 ctd6), sld6⟩)
    (c6 : PySem.W.codeIn K cdd6 "_law_which" = true)
    (k6 : PySem.W.keepIn K (.ref f6) = true)
    (a7 : PySem.W.nsIn K mainGlobals "_law_made_right" = some (some (.ref f7)))
    (l7 : K.lookup f7 = some ⟨ocd7, odd7, .func (PySem.W.fnOf "_law_made_right" "_law_made_right" (defArgs s_law_made_right) (defBody s_law_made_right) (defScope s_law_made_right) .none kVd7 dcd7 pmd7 and7 cdd7 ctd7), sld7⟩)
    (c7 : PySem.W.codeIn K cdd7 "_law_made_right" = true)
    (k7 : PySem.W.keepIn K (.ref f7) = true)
    (a8 : PySem.W.nsIn K mainGlobals "_law_right" = some (some (.ref f8)))
    (l8 : K.lookup f8 = some ⟨ocd8, odd8, .func (PySem.W.fnOf "_law_right" "_law_right" (defArgs s_law_right) (defBody s_law_right) (defScope s_law_right) .none kVd8 dcd8 pmd8 and8 cdd8 ctd8), sld8⟩)
    (c8 : PySem.W.codeIn K cdd8 "_law_right" = true)
    (k8 : PySem.W.keepIn K (.ref f8) = true)
    (a9 : PySem.W.nsIn K mainGlobals "law" = some (some (.ref f9)))
    (l9 : K.lookup f9 = some ⟨ocd9, odd9, .func (PySem.W.fnOf "law" "law" (defArgs s_law) (defBody s_law) (defScope s_law) .none kVd9 dcd9 pmd9 and9 cdd9 ctd9), sld9⟩)
    (c9 : PySem.W.codeIn K cdd9 "law" = true)
    (k9 : PySem.W.keepIn K (.ref f9) = true)
    (C0a : PySem.W.nsIn K mainGlobals "NoProcedure" = some (some (.ref C0)))
    (C1a : PySem.W.nsIn K mainGlobals "NoRule" = some (some (.ref C1)))
    (C2a : PySem.W.nsIn K mainGlobals "NoPath" = some (some (.ref C2)))
    (C3a : PySem.W.nsIn K mainGlobals "NoEvent" = some (some (.ref C3)))
    (C4a : PySem.W.nsIn K mainGlobals "NoName" = some (some (.ref C4)))
    (C5a : PySem.W.nsIn K mainGlobals "NothingDone" = some (some (.ref C5)))
    (C6a : PySem.W.nsIn K mainGlobals "BadLine" = some (some (.ref C6)))
    (C7a : PySem.W.nsIn K mainGlobals "CanNot" = some (some (.ref C7)))
    (C8a : PySem.W.nsIn K mainGlobals "TooMany" = some (some (.ref C8)))
    (C9a : PySem.W.nsIn K mainGlobals "Unfit" = some (some (.ref C9)))
    (i0 : PySem.W.findIn K (.ref C0) "__init__" = some (some (.ref g0)))
    (t0 : PySem.W.typeIn K (.ref g0) = some (.type "function"))
    (m0 : K.lookup g0 = some ⟨oci0, odi0, .func (PySem.W.fnOf "__init__" "NoProcedure.__init__" (defArgs s_init0) (defBody s_init0) (defScope s_init0) .none kVi0 dci0 pmi0 ani0 cdi0 cti0), sli0⟩)
    (n0 : PySem.W.codeIn K cdi0 "NoProcedure.__init__" = true)
    (p0 : PySem.W.keepIn K (.ref g0) = true)
    (q0 : PySem.W.takerIn K C0 "number" = some none)
    (i1 : PySem.W.findIn K (.ref C1) "__init__" = some (some (.ref g1)))
    (t1 : PySem.W.typeIn K (.ref g1) = some (.type "function"))
    (m1 : K.lookup g1 = some ⟨oci1, odi1, .func (PySem.W.fnOf "__init__" "NoRule.__init__" (defArgs s_init1) (defBody s_init1) (defScope s_init1) .none kVi1 dci1 pmi1 ani1 cdi1 cti1), sli1⟩)
    (n1 : PySem.W.codeIn K cdi1 "NoRule.__init__" = true)
    (p1 : PySem.W.keepIn K (.ref g1) = true)
    (q1 : PySem.W.takerIn K C1 "number" = some none)
    (i2 : PySem.W.findIn K (.ref C2) "__init__" = some (some (.ref g2)))
    (t2 : PySem.W.typeIn K (.ref g2) = some (.type "function"))
    (m2 : K.lookup g2 = some ⟨oci2, odi2, .func (PySem.W.fnOf "__init__" "NoPath.__init__" (defArgs s_init2) (defBody s_init2) (defScope s_init2) .none kVi2 dci2 pmi2 ani2 cdi2 cti2), sli2⟩)
    (n2 : PySem.W.codeIn K cdi2 "NoPath.__init__" = true)
    (p2 : PySem.W.keepIn K (.ref g2) = true)
    (q2 : PySem.W.takerIn K C2 "path" = some none)
    (i3 : PySem.W.findIn K (.ref C3) "__init__" = some (some (.ref g3)))
    (t3 : PySem.W.typeIn K (.ref g3) = some (.type "function"))
    (m3 : K.lookup g3 = some ⟨oci3, odi3, .func (PySem.W.fnOf "__init__" "NoEvent.__init__" (defArgs s_init3) (defBody s_init3) (defScope s_init3) .none kVi3 dci3 pmi3 ani3 cdi3 cti3), sli3⟩)
    (n3 : PySem.W.codeIn K cdi3 "NoEvent.__init__" = true)
    (p3 : PySem.W.keepIn K (.ref g3) = true)
    (q3 : PySem.W.takerIn K C3 "number" = some none)
    (i4 : PySem.W.findIn K (.ref C4) "__init__" = some (some (.ref g4)))
    (t4 : PySem.W.typeIn K (.ref g4) = some (.type "function"))
    (m4 : K.lookup g4 = some ⟨oci4, odi4, .func (PySem.W.fnOf "__init__" "NoName.__init__" (defArgs s_init4) (defBody s_init4) (defScope s_init4) .none kVi4 dci4 pmi4 ani4 cdi4 cti4), sli4⟩)
    (n4 : PySem.W.codeIn K cdi4 "NoName.__init__" = true)
    (p4 : PySem.W.keepIn K (.ref g4) = true)
    (q4 : PySem.W.takerIn K C4 "name" = some none)
    (p5 : PySem.W.keepIn K (.ref C5) = true)
    (q5 : PySem.W.excIn K C5 bsL "LookupError.__new__" = true)
    (i6 : PySem.W.findIn K (.ref C6) "__init__" = some (some (.ref g6)))
    (t6 : PySem.W.typeIn K (.ref g6) = some (.type "function"))
    (m6 : K.lookup g6 = some ⟨oci6, odi6, .func (PySem.W.fnOf "__init__" "BadLine.__init__" (defArgs s_init6) (defBody s_init6) (defScope s_init6) .none kVi6 dci6 pmi6 ani6 cdi6 cti6), sli6⟩)
    (n6 : PySem.W.codeIn K cdi6 "BadLine.__init__" = true)
    (p6 : PySem.W.keepIn K (.ref g6) = true)
    (q6 : PySem.W.takerIn K C6 "number" = some none)
    (p7 : PySem.W.keepIn K (.ref C7) = true)
    (q7 : PySem.W.excIn K C7 bsV "ValueError.__new__" = true)
    (p8 : PySem.W.keepIn K (.ref C8) = true)
    (q8 : PySem.W.excIn K C8 bsV "ValueError.__new__" = true)
    (p9 : PySem.W.keepIn K (.ref C9) = true)
    (q9 : PySem.W.excIn K C9 bsV "ValueError.__new__" = true)
    (xs : xcsB K [C0, C1, C2, C3, C4, C5, C6, C7, C8, C9] = true)
    (o0 : kitB K [C0, C1, C2, C3, C4, C5, C6, C7, C8, C9] (.ref C0) (fun k => k == 0) = true)
    (o1 : kitB K [C0, C1, C2, C3, C4, C5, C6, C7, C8, C9] (.ref C1) (fun k => k == 1) = true)
    (o2 : kitB K [C0, C1, C2, C3, C4, C5, C6, C7, C8, C9] (.ref C2) (fun k => k == 2) = true)
    (o3 : kitB K [C0, C1, C2, C3, C4, C5, C6, C7, C8, C9] (.ref C3) (fun k => k == 3) = true)
    (o4 : kitB K [C0, C1, C2, C3, C4, C5, C6, C7, C8, C9] (.ref C4) (fun k => k == 4) = true)
    (o5 : kitB K [C0, C1, C2, C3, C4, C5, C6, C7, C8, C9] (.ref C5) (fun k => k == 5) = true)
    (o6 : kitB K [C0, C1, C2, C3, C4, C5, C6, C7, C8, C9] (.ref C6) (fun k => k == 6) = true)
    (o7 : kitB K [C0, C1, C2, C3, C4, C5, C6, C7, C8, C9] (.ref C7) (fun k => k == 7) = true)
    (o8 : kitB K [C0, C1, C2, C3, C4, C5, C6, C7, C8, C9] (.ref C8) (fun k => k == 8) = true)
    (o9 : kitB K [C0, C1, C2, C3, C4, C5, C6, C7, C8, C9] (.ref C9) (fun k => k == 9) = true)
    (e_LookupError : kitB K [C0, C1, C2, C3, C4, C5, C6, C7, C8, C9] (.type "LookupError") tb_LookupError = true)
    (e_ValueError : kitB K [C0, C1, C2, C3, C4, C5, C6, C7, C8, C9] (.type "ValueError") tb_ValueError = true)
    (e_TypeError : kitB K [C0, C1, C2, C3, C4, C5, C6, C7, C8, C9] (.type "TypeError") tb_TypeError = true)
    (e_KeyError : kitB K [C0, C1, C2, C3, C4, C5, C6, C7, C8, C9] (.type "KeyError") tb_KeyError = true)
    (e_IndexError : kitB K [C0, C1, C2, C3, C4, C5, C6, C7, C8, C9] (.type "IndexError") tb_IndexError = true)
    (e_RuntimeError : kitB K [C0, C1, C2, C3, C4, C5, C6, C7, C8, C9] (.type "RuntimeError") tb_RuntimeError = true)
    (e_AttributeError : kitB K [C0, C1, C2, C3, C4, C5, C6, C7, C8, C9] (.type "AttributeError") tb_AttributeError = true)
    (e_Exception : kitB K [C0, C1, C2, C3, C4, C5, C6, C7, C8, C9] (.type "Exception") tb_Exception = true)
    (s_number : fndB K [C0, C1, C2, C3, C4, C5, C6, C7, C8, C9] ks_number "number" = true)
    (s_name : fndB K [C0, C1, C2, C3, C4, C5, C6, C7, C8, C9] ks_name "name" = true)
    (s_path : fndB K [C0, C1, C2, C3, C4, C5, C6, C7, C8, C9] ks_path "path" = true)
    (z_AttributeError : PySem.W.nsIn K mainGlobals "AttributeError" = some none)
    (z_Exception : PySem.W.nsIn K mainGlobals "Exception" = some none)
    (z_IndexError : PySem.W.nsIn K mainGlobals "IndexError" = some none)
    (z_KeyError : PySem.W.nsIn K mainGlobals "KeyError" = some none)
    (z_LookupError : PySem.W.nsIn K mainGlobals "LookupError" = some none)
    (z_RuntimeError : PySem.W.nsIn K mainGlobals "RuntimeError" = some none)
    (z_TypeError : PySem.W.nsIn K mainGlobals "TypeError" = some none)
    (z_ValueError : PySem.W.nsIn K mainGlobals "ValueError" = some none)
    (z_abs : PySem.W.nsIn K mainGlobals "abs" = some none)
    (z_all : PySem.W.nsIn K mainGlobals "all" = some none)
    (z_bool : PySem.W.nsIn K mainGlobals "bool" = some none)
    (z_enumerate : PySem.W.nsIn K mainGlobals "enumerate" = some none)
    (z_int : PySem.W.nsIn K mainGlobals "int" = some none)
    (z_isinstance : PySem.W.nsIn K mainGlobals "isinstance" = some none)
    (z_len : PySem.W.nsIn K mainGlobals "len" = some none)
    (z_list : PySem.W.nsIn K mainGlobals "list" = some none)
    (z_range : PySem.W.nsIn K mainGlobals "range" = some none)
    (z_str : PySem.W.nsIn K mainGlobals "str" = some none)
    (z_tuple : PySem.W.nsIn K mainGlobals "tuple" = some none)
    (z_zip : PySem.W.nsIn K mainGlobals "zip" = some none)
    : ∃ (ct : Nat → Addr) (fd : FuncData), (∀ (s : Shared) (v : Value), BindsTo s fd ⟨[v], []⟩ [("script", v)]) ∧ ∀ base : Heap, K.In base → base.Ns mainGlobals mg → FnOk l.prog w K mg base CX0 9 fa fd ["script"] (FnSp ⟨K, ct⟩ 1 f_law) := by
  have e := hfa.symm.trans (PySem.W.mg_of X G a9)
  cases e
  have F0 := fun_mk (st := s_law_box) l0 c0 k0
  have F1 := fun_mk (st := s_law_take) l1 c1 k1
  have F2 := fun_mk (st := s_law_cells) l2 c2 k2
  have F3 := fun_mk (st := s_law_of) l3 c3 k3
  have F4 := fun_mk (st := s_law_same) l4 c4 k4
  have F5 := fun_mk (st := s_law_under) l5 c5 k5
  have F6 := fun_mk (st := s_law_which) l6 c6 k6
  have F7 := fun_mk (st := s_law_made_right) l7 c7 k7
  have F8 := fun_mk (st := s_law_right) l8 c8 k8
  have F9 := fun_mk (st := s_law) l9 c9 k9
  have I0 := fun_mk (st := s_init0) m0 n0 p0
  have I1 := fun_mk (st := s_init1) m1 n1 p1
  have I2 := fun_mk (st := s_init2) m2 n2 p2
  have I3 := fun_mk (st := s_init3) m3 n3 p3
  have I4 := fun_mk (st := s_init4) m4 n4 p4
  have I6 := fun_mk (st := s_init6) m6 n6 p6
  have b0 := F0.binds (ps := ["script", "k"]) fun _ _ _ _ _ _ us hl => match us, hl with | [_, _], _ => rfl
  have b1 := F1.binds (ps := ["tin", "below_so"]) fun _ _ _ _ _ _ us hl => match us, hl with | [_, _], _ => rfl
  have b2 := F2.binds (ps := ["script", "most_so"]) fun _ _ _ _ _ _ us hl => match us, hl with | [_, _], _ => rfl
  have b3 := F3.binds (ps := ["tin", "goods_so"]) fun _ _ _ _ _ _ us hl => match us, hl with | [_, _], _ => rfl
  have b4 := F4.binds (ps := ["got", "due"]) fun _ _ _ _ _ _ us hl => match us, hl with | [_, _], _ => rfl
  have b5 := F5.binds (ps := ["error_so"]) fun _ _ _ _ _ _ us hl => match us, hl with | [_], _ => rfl
  have b6 := F6.binds (ps := ["error_so"]) fun _ _ _ _ _ _ us hl => match us, hl with | [_], _ => rfl
  have b7 := F7.binds (ps := ["number_so", "trail_so", "word_so"]) fun _ _ _ _ _ _ us hl => match us, hl with | [_, _, _], _ => rfl
  have b8 := F8.binds (ps := ["tin"]) fun _ _ _ _ _ _ us hl => match us, hl with | [_], _ => rfl
  have B0 := I0.binds (ps := ["self", "number"]) fun _ _ _ _ _ _ us hl => match us, hl with | [_, _], _ => rfl
  have B1 := I1.binds (ps := ["self", "number"]) fun _ _ _ _ _ _ us hl => match us, hl with | [_, _], _ => rfl
  have B2 := I2.binds (ps := ["self", "path"]) fun _ _ _ _ _ _ us hl => match us, hl with | [_, _], _ => rfl
  have B3 := I3.binds (ps := ["self", "number"]) fun _ _ _ _ _ _ us hl => match us, hl with | [_, _], _ => rfl
  have B4 := I4.binds (ps := ["self", "name"]) fun _ _ _ _ _ _ us hl => match us, hl with | [_, _], _ => rfl
  have B6 := I6.binds (ps := ["self", "number"]) fun _ _ _ _ _ _ us hl => match us, hl with | [_, _], _ => rfl
  refine ⟨(ctOf [C0, C1, C2, C3, C4, C5, C6, C7, C8, C9]), PySem.W.fnOf "law" "law" (defArgs s_law) (defBody s_law) (defScope s_law) .none kVd9 dcd9 pmd9 and9 cdd9 ctd9, fun s v => .of_eq rfl, fun base _ _ => ?_⟩
  have B : Bt mg := ⟨PySem.W.mg_none_of X G z_AttributeError, PySem.W.mg_none_of X G z_Exception, PySem.W.mg_none_of X G z_IndexError, PySem.W.mg_none_of X G z_KeyError, PySem.W.mg_none_of X G z_LookupError, PySem.W.mg_none_of X G z_RuntimeError, PySem.W.mg_none_of X G z_TypeError, PySem.W.mg_none_of X G z_ValueError, PySem.W.mg_none_of X G z_abs, PySem.W.mg_none_of X G z_all, PySem.W.mg_none_of X G z_bool, PySem.W.mg_none_of X G z_enumerate, PySem.W.mg_none_of X G z_int, PySem.W.mg_none_of X G z_isinstance, PySem.W.mg_none_of X G z_len, PySem.W.mg_none_of X G z_list, PySem.W.mg_none_of X G z_range, PySem.W.mg_none_of X G z_str, PySem.W.mg_none_of X G z_tuple, PySem.W.mg_none_of X G z_zip⟩
  have xc := xcs_ok xs
  have E : Ex l.prog w K mg base (ctOf [C0, C1, C2, C3, C4, C5, C6, C7, C8, C9]) (fun k => match k with | 0 => PySem.W.fnOf "__init__" "NoProcedure.__init__" (defArgs s_init0) (defBody s_init0) (defScope s_init0) .none kVi0 dci0 pmi0 ani0 cdi0 cti0 | 1 => PySem.W.fnOf "__init__" "NoRule.__init__" (defArgs s_init1) (defBody s_init1) (defScope s_init1) .none kVi1 dci1 pmi1 ani1 cdi1 cti1 | 2 => PySem.W.fnOf "__init__" "NoPath.__init__" (defArgs s_init2) (defBody s_init2) (defScope s_init2) .none kVi2 dci2 pmi2 ani2 cdi2 cti2 | 3 => PySem.W.fnOf "__init__" "NoEvent.__init__" (defArgs s_init3) (defBody s_init3) (defScope s_init3) .none kVi3 dci3 pmi3 ani3 cdi3 cti3 | 4 => PySem.W.fnOf "__init__" "NoName.__init__" (defArgs s_init4) (defBody s_init4) (defScope s_init4) .none kVi4 dci4 pmi4 ani4 cdi4 cti4 | 6 => PySem.W.fnOf "__init__" "BadLine.__init__" (defArgs s_init6) (defBody s_init6) (defScope s_init6) .none kVi6 dci6 pmi6 ani6 cdi6 cti6 | _ => PySem.W.fnOf "__init__" "NoProcedure.__init__" (defArgs s_init0) (defBody s_init0) (defScope s_init0) .none kVi0 dci0 pmi0 ani0 cdi0 cti0) (ctOf [g0, g1, g2, g3, g4, 0, g6, 0, 0, 0]) := ⟨PySem.W.mg_of X G C0a,
    ⟨xc 0 rfl, i0, t0, init_ok (xc 0 rfl) q0 I0 sc_init0 rfl fun cdv A outer s H E => pss_one (ps_xset (pv 0) (pv 1))⟩,
    B0,
    fun s self u _ => .of_eq rfl,
    kit_ok xs o0,
    PySem.W.mg_of X G C1a,
    ⟨xc 1 rfl, i1, t1, init_ok (xc 1 rfl) q1 I1 sc_init1 rfl fun cdv A outer s H E => pss_one (ps_xset (pv 0) (pv 1))⟩,
    B1,
    fun s self u _ => .of_eq rfl,
    kit_ok xs o1,
    PySem.W.mg_of X G C2a,
    ⟨xc 2 rfl, i2, t2, init_ok (xc 2 rfl) q2 I2 sc_init2 rfl fun cdv A outer s H E => pss_one (ps_xset (pv 0) (pv 1))⟩,
    B2,
    fun s self u _ => .of_eq rfl,
    kit_ok xs o2,
    PySem.W.mg_of X G C3a,
    ⟨xc 3 rfl, i3, t3, init_ok (xc 3 rfl) q3 I3 sc_init3 rfl fun cdv A outer s H E => pss_one (ps_xset (pv 0) (pv 1))⟩,
    B3,
    fun s self u _ => .of_eq rfl,
    kit_ok xs o3,
    PySem.W.mg_of X G C4a,
    ⟨xc 4 rfl, i4, t4, init_ok (xc 4 rfl) q4 I4 sc_init4 rfl fun cdv A outer s H E => pss_one (ps_xset (pv 0) (pv 1))⟩,
    B4,
    fun s self u _ => .of_eq rfl,
    kit_ok xs o4,
    PySem.W.mg_of X G C5a,
    p5,
    q5,
    kit_ok xs o5,
    PySem.W.mg_of X G C6a,
    ⟨xc 6 rfl, i6, t6, init_ok (xc 6 rfl) q6 I6 sc_init6 rfl fun cdv A outer s H E => pss_one (ps_xset (pv 0) (pv 1))⟩,
    B6,
    fun s self u _ => .of_eq rfl,
    kit_ok xs o6,
    PySem.W.mg_of X G C7a,
    p7,
    q7,
    kit_ok xs o7,
    PySem.W.mg_of X G C8a,
    p8,
    q8,
    kit_ok xs o8,
    PySem.W.mg_of X G C9a,
    p9,
    q9,
    kit_ok xs o9,
    fnd_ok xs sub_number s_number,
    fnd_ok xs sub_name s_name,
    fnd_ok xs sub_path s_path,
    kit_ok xs e_LookupError,
    kit_ok xs e_ValueError,
    kit_ok xs e_TypeError,
    kit_ok xs e_KeyError,
    kit_ok xs e_IndexError,
    kit_ok xs e_RuntimeError,
    kit_ok xs e_AttributeError,
    kit_ok xs e_Exception⟩
  have G0 := ok_law_box (P := l.prog) (w := w) (base := base) (ct := (ctOf [C0, C1, C2, C3, C4, C5, C6, C7, C8, C9])) B F0 
  have G1 := ok_law_take (P := l.prog) (w := w) (base := base) (ct := (ctOf [C0, C1, C2, C3, C4, C5, C6, C7, C8, C9])) B F1 
  have G2 := ok_law_cells (P := l.prog) (w := w) (base := base) (ct := (ctOf [C0, C1, C2, C3, C4, C5, C6, C7, C8, C9])) B F2 
  have G3 := ok_law_of (P := l.prog) (w := w) (base := base) (ct := (ctOf [C0, C1, C2, C3, C4, C5, C6, C7, C8, C9])) B F3 G1 (PySem.W.mg_of X G a1) k1 b1
  have G4 := ok_law_same (P := l.prog) (w := w) (base := base) (ct := (ctOf [C0, C1, C2, C3, C4, C5, C6, C7, C8, C9])) B F4 (PySem.W.mg_of X G a4) b4 6
  have G5 := ok_law_under (P := l.prog) (w := w) (base := base) (ct := (ctOf [C0, C1, C2, C3, C4, C5, C6, C7, C8, C9])) B E F5 
  have G6 := ok_law_which (P := l.prog) (w := w) (base := base) (ct := (ctOf [C0, C1, C2, C3, C4, C5, C6, C7, C8, C9])) B E F6 
  have G7 := ok_law_made_right (P := l.prog) (w := w) (base := base) (ct := (ctOf [C0, C1, C2, C3, C4, C5, C6, C7, C8, C9])) B E F7 G6 (PySem.W.mg_of X G a6) k6 b6 G5 (PySem.W.mg_of X G a5) k5 b5 G4 (PySem.W.mg_of X G a4) k4 b4
  have G8 := ok_law_right (P := l.prog) (w := w) (base := base) (ct := (ctOf [C0, C1, C2, C3, C4, C5, C6, C7, C8, C9])) B F8 G1 (PySem.W.mg_of X G a1) k1 b1 G3 (PySem.W.mg_of X G a3) k3 b3 G7 (PySem.W.mg_of X G a7) k7 b7
  exact ok_law B F9 G7 (PySem.W.mg_of X G a7) k7 b7 G2 (PySem.W.mg_of X G a2) k2 b2 G8 (PySem.W.mg_of X G a8) k8 b8 G0 (PySem.W.mg_of X G a0) k0 b0
theorem rp_ints {c : Cn} {H : Hp} : ∀ ns : List Int, RpL c H (ns.map .int) (ns.map V.int)
  | [] => RpL.nil
  | n :: ns => RpL.cons rfl (rp_ints ns)
theorem law_sp {K : PySem.W.Frag} {ct : Nat → Addr} {H : Hp} {a : Addr} {ns : List Int} (hS : SqL K H a (ns.map V.int)) : FnSp ⟨K, ct⟩ 1 f_law [.ref a] H (fun v _ => v = .bl true) fun _ _ _ => False := by
  refine ⟨H, fun _ => none, [.v (.fz (ns.map .int))], none, _, _, rfl, law_ok ns, ⟨Same.refl _, (fun _ _ e => nomatch e), (fun _ _ e => nomatch e)⟩, ⟨.ref a, [], rfl, ⟨a, ns.map V.int, rfl, hS, ?_⟩, rfl, rfl⟩, fun g' v _ _ _ r => r⟩
  exact rp_ints ns
theorem mkE {l : PySem.W.OpenLaw} {w : World} {K : PySem.W.Frag} {h : Heap} {mg : Str → Option Value} {fa : Addr} (X : K.In h)
    (T : ∃ (ct : Nat → Addr) (fd : FuncData), (∀ (s : Shared) (v : Value), BindsTo s fd ⟨[v], []⟩ [("script", v)]) ∧ ∀ base : Heap, K.In base → base.Ns mainGlobals mg → FnOk l.prog w K mg base CX0 9 fa fd ["script"] (FnSp ⟨K, ct⟩ 1 f_law)) :
    ∃ (K : PySem.W.Frag) (fd : FuncData) (sp : Sp), K.In h ∧ (∀ (s : Shared) (u : Value), BindsTo s fd ⟨[u], []⟩ [("script", u)]) ∧
        (∀ (H : Hp) (a : Addr) (ns : List Int), ns.length ≤ 63 → Only H → SqL K H a (ns.map V.int) → sp [.ref a] H (fun v _ => v = .bl true) fun _ _ _ => False) ∧
        ∀ base : Heap, K.In base → base.Ns mainGlobals mg → FnOk l.prog w K mg base CX0 9 fa fd ["script"] sp := by
  obtain ⟨ct, fd, h1, h2⟩ := T
  exact ⟨K, fd, _, X, h1, fun H a ns _ _ hS => law_sp hS, h2⟩
end Q00
open PySem PySem.W PyProof.Rows
set_option maxHeartbeats 0 in
theorem PySem.Challenge.cw_crossnest_k00_errors_made_by_hand_holds : PySem.Challenge.rw_crossnest_k00_errors_made_by_hand.Holds := by
  w_on; o_law; k_head; (case hw => w_witness2)
  k_fill
  refine L2.walk_ofE (l := PySem.Challenge.rw_crossnest_k00_errors_made_by_hand) (n := 63) (k := 9) (x := "script") (CX := L2.CX0) rfl (by decide) rfl ⟨rfl, by decide, by decide⟩ ?F (fun _ _ _ _ z => z)
  case F =>
    intro w mg fa h Y G hmg
    have KX := PySem.W.kIn_of Y
    refine' Q00.mkE KX (Q00.all_mk (l := PySem.Challenge.rw_crossnest_k00_errors_made_by_hand) (w := w) KX G hmg ?a0 ?l0 ?c0 ?k0 ?a1 ?l1 ?c1 ?k1 ?a2 ?l2 ?c2 ?k2 ?a3 ?l3 ?c3 ?k3 ?a4 ?l4 ?c4 ?k4 ?a5 ?l5 ?c5 ?k5 ?a6 ?l6 ?c6 ?k6 ?a7 ?l7 ?c7 ?k7 ?a8 ?l8 ?c8 ?k8 ?a9 ?l9 ?c9 ?k9 ?C0a ?C1a ?C2a ?C3a ?C4a ?C5a ?C6a ?C7a ?C8a ?C9a ?i0 ?t0 ?m0 ?n0 ?p0 ?q0 ?i1 ?t1 ?m1 ?n1 ?p1 ?q1 ?i2 ?t2 ?m2 ?n2 ?p2 ?q2 ?i3 ?t3 ?m3 ?n3 ?p3 ?q3 ?i4 ?t4 ?m4 ?n4 ?p4 ?q4 ?p5 ?q5 ?i6 ?t6 ?m6 ?n6 ?p6 ?q6 ?p7 ?q7 ?p8 ?q8 ?p9 ?q9 ?xs ?o0 ?o1 ?o2 ?o3 ?o4 ?o5 ?o6 ?o7 ?o8 ?o9 ?e_LookupError ?e_ValueError ?e_TypeError ?e_KeyError ?e_IndexError ?e_RuntimeError ?e_AttributeError ?e_Exception ?s_number ?s_name ?s_path ?z_AttributeError ?z_Exception ?z_IndexError ?z_KeyError ?z_LookupError ?z_RuntimeError ?z_TypeError ?z_ValueError ?z_abs ?z_all ?z_bool ?z_enumerate ?z_int ?z_isinstance ?z_len ?z_list ?z_range ?z_str ?z_tuple ?z_zip)
    (case a0 => k_is)
    (case l0 => k_is)
    (case c0 => k_is)
    (case k0 => k_is)
    (case a1 => k_is)
    (case l1 => k_is)
    (case c1 => k_is)
    (case k1 => k_is)
    (case a2 => k_is)
    (case l2 => k_is)
    (case c2 => k_is)
    (case k2 => k_is)
    (case a3 => k_is)
    (case l3 => k_is)
    (case c3 => k_is)
    (case k3 => k_is)
    (case a4 => k_is)
    (case l4 => k_is)
    (case c4 => k_is)
    (case k4 => k_is)
    (case a5 => k_is)
    (case l5 => k_is)
    (case c5 => k_is)
    (case k5 => k_is)
    (case a6 => k_is)
    (case l6 => k_is)
    (case c6 => k_is)
    (case k6 => k_is)
    (case a7 => k_is)
    (case l7 => k_is)
    (case c7 => k_is)
    (case k7 => k_is)
    (case a8 => k_is)
    (case l8 => k_is)
    (case c8 => k_is)
    (case k8 => k_is)
    (case a9 => k_is)
    (case l9 => k_is)
    (case c9 => k_is)
    (case k9 => k_is)
    (case C0a => k_is)
    (case C1a => k_is)
    (case C2a => k_is)
    (case C3a => k_is)
    (case C4a => k_is)
    (case C5a => k_is)
    (case C6a => k_is)
    (case C7a => k_is)
    (case C8a => k_is)
    (case C9a => k_is)
    (case i0 => k_is)
    (case t0 => k_is)
    (case m0 => k_is)
    (case n0 => k_is)
    (case p0 => k_is)
    (case q0 => k_is)
    (case i1 => k_is)
    (case t1 => k_is)
    (case m1 => k_is)
    (case n1 => k_is)
    (case p1 => k_is)
    (case q1 => k_is)
    (case i2 => k_is)
    (case t2 => k_is)
    (case m2 => k_is)
    (case n2 => k_is)
    (case p2 => k_is)
    (case q2 => k_is)
    (case i3 => k_is)
    (case t3 => k_is)
    (case m3 => k_is)
    (case n3 => k_is)
    (case p3 => k_is)
    (case q3 => k_is)
    (case i4 => k_is)
    (case t4 => k_is)
    (case m4 => k_is)
    (case n4 => k_is)
    (case p4 => k_is)
    (case q4 => k_is)
    (case p5 => k_is)
    (case q5 => kernel_rfl)
    (case i6 => k_is)
    (case t6 => k_is)
    (case m6 => k_is)
    (case n6 => k_is)
    (case p6 => k_is)
    (case q6 => k_is)
    (case p7 => k_is)
    (case q7 => kernel_rfl)
    (case p8 => k_is)
    (case q8 => kernel_rfl)
    (case p9 => k_is)
    (case q9 => kernel_rfl)
    (case xs => kernel_rfl)
    (case o0 => kernel_rfl)
    (case o1 => kernel_rfl)
    (case o2 => kernel_rfl)
    (case o3 => kernel_rfl)
    (case o4 => kernel_rfl)
    (case o5 => kernel_rfl)
    (case o6 => kernel_rfl)
    (case o7 => kernel_rfl)
    (case o8 => kernel_rfl)
    (case o9 => kernel_rfl)
    (case e_LookupError => kernel_rfl)
    (case e_ValueError => kernel_rfl)
    (case e_TypeError => kernel_rfl)
    (case e_KeyError => kernel_rfl)
    (case e_IndexError => kernel_rfl)
    (case e_RuntimeError => kernel_rfl)
    (case e_AttributeError => kernel_rfl)
    (case e_Exception => kernel_rfl)
    (case s_number => kernel_rfl)
    (case s_name => kernel_rfl)
    (case s_path => kernel_rfl)
    (case z_AttributeError => k_is)
    (case z_Exception => k_is)
    (case z_IndexError => k_is)
    (case z_KeyError => k_is)
    (case z_LookupError => k_is)
    (case z_RuntimeError => k_is)
    (case z_TypeError => k_is)
    (case z_ValueError => k_is)
    (case z_abs => k_is)
    (case z_all => k_is)
    (case z_bool => k_is)
    (case z_enumerate => k_is)
    (case z_int => k_is)
    (case z_isinstance => k_is)
    (case z_len => k_is)
    (case z_list => k_is)
    (case z_range => k_is)
    (case z_str => k_is)
    (case z_tuple => k_is)
    (case z_zip => k_is)

