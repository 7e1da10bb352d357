import PyProof.Rows.All
import Wide.All
import OpenK.AllK
import Wide.FinOn
import HandS.ForMost
import HandS.TupAny
import HandS.TupMul
import HandS.IsInst
import HandS.RaiseMore
import HandS.Conv
import PyProof.ReprRoads
import HandS.Style
import KE.GoesEnum
import HandS.Text
import HandS.More
import HandS.Deep
import HandS.SortInts
import PyProof.P3In
import PySem.Challenge.RW_baylines_k02_whole_things_that_stand_ahe
set_option Elab.async false
set_option linter.all false
set_option autoImplicit false
set_option maxRecDepth 100000
namespace DL
open PySem PySem.Spec L2
/-! ## data in a heap -/
def kD : Key → PyData
  | .inl i => .int i
  | .inr x => .str x
mutual
inductive Is (K : PySem.W.Frag) (G : Hp) : V → PyData → Prop
  | non : Is K G .non .none
  | bl (b : Bool) : Is K G (.bl b) (.bool b)
  | int (i : Int) : Is K G (.int i) (.int i)
  | str (x : Str) : Is K G (.str x) (.str x)
  | lst {a : Addr} {vs : List V} {ds : List PyData} (s : G a = some (.lst vs)) (h : Iss K G vs ds) : Is K G (.ref a) (.list ds)
  | tup {a : Addr} {vs : List V} {ds : List PyData} (s : SqT K G a vs) (h : Iss K G vs ds) : Is K G (.ref a) (.tuple ds)
  | dct {a : Addr} {kvs : List (Key × V)} {ps : List (PyData × PyData)} (s : G a = some (.dK kvs)) (h : Isd K G kvs ps) : Is K G (.ref a) (.dict ps)
inductive Iss (K : PySem.W.Frag) (G : Hp) : List V → List PyData → Prop
  | nil : Iss K G [] []
  | cons {v : V} {vs : List V} {d : PyData} {ds : List PyData} (h : Is K G v d) (t : Iss K G vs ds) : Iss K G (v :: vs) (d :: ds)
inductive Isd (K : PySem.W.Frag) (G : Hp) : List (Key × V) → List (PyData × PyData) → Prop
  | nil : Isd K G [] []
  | cons {k : Key} {v : V} {kvs : List (Key × V)} {d : PyData} {ps : List (PyData × PyData)} (h : Is K G v d) (t : Isd K G kvs ps) : Isd K G ((k, v) :: kvs) ((kD k, d) :: ps)
end
abbrev Sub (G H : Hp) : Prop := Same G H
theorem Sub.seqT {K : PySem.W.Frag} {G G' : Hp} {a : Addr} {xs : List V} (e : Sub G G') (h : SqT K G a xs) : SqT K G' a xs := by
  rcases h with (h | ⟨o, h⟩) | h
  · exact .inl (.inl (e _ _ h))
  · exact .inl (.inr ⟨o, e _ _ h⟩)
  · exact .inr h
mutual
theorem Is.mono {K : PySem.W.Frag} {G G' : Hp} (e : Sub G G') : ∀ {v : V} {d : PyData}, Is K G v d → Is K G' v d
  | _, _, .non => .non
  | _, _, .bl b => .bl b
  | _, _, .int i => .int i
  | _, _, .str x => .str x
  | _, _, .lst s h => .lst (e _ _ s) (Iss.mono e h)
  | _, _, .tup s h => .tup (e.seqT s) (Iss.mono e h)
  | _, _, .dct s h => .dct (e _ _ s) (Isd.mono e h)
theorem Iss.mono {K : PySem.W.Frag} {G G' : Hp} (e : Sub G G') : ∀ {vs : List V} {ds : List PyData}, Iss K G vs ds → Iss K G' vs ds
  | _, _, .nil => .nil
  | _, _, .cons h t => .cons (Is.mono e h) (Iss.mono e t)
theorem Isd.mono {K : PySem.W.Frag} {G G' : Hp} (e : Sub G G') : ∀ {kvs : List (Key × V)} {ps : List (PyData × PyData)}, Isd K G kvs ps → Isd K G' kvs ps
  | _, _, .nil => .nil
  | _, _, .cons h t => .cons (Is.mono e h) (Isd.mono e t)
end
section
variable {K : PySem.W.Frag} {G : Hp}
theorem Iss.length : ∀ {vs : List V} {ds : List PyData}, Iss K G vs ds → vs.length = ds.length
  | _, _, .nil => rfl
  | _, _, .cons _ t => congrArg (· + 1) (Iss.length t)
theorem Iss.append : ∀ {vs : List V} {ds : List PyData} {us : List V} {es : List PyData}, Iss K G vs ds → Iss K G us es → Iss K G (vs ++ us) (ds ++ es)
  | _, _, _, _, .nil, h => h
  | _, _, _, _, .cons h t, q => .cons h (Iss.append t q)
theorem Iss.get : ∀ {vs : List V} {ds : List PyData} {i : Nat} {d : PyData}, Iss K G vs ds → ds[i]? = some d → ∃ v, vs[i]? = some v ∧ Is K G v d
  | _, _, 0, _, .cons h _, e => ⟨_, rfl, by simp at e; subst e; exact h⟩
  | _, _, i + 1, _, .cons _ t, e => by
    obtain ⟨v, h1, h2⟩ := Iss.get (i := i) t (by simpa using e)
    exact ⟨v, by simpa using h1, h2⟩
theorem Iss.getV : ∀ {vs : List V} {ds : List PyData} {i : Nat} {v : V}, Iss K G vs ds → vs[i]? = some v → ∃ d, ds[i]? = some d ∧ Is K G v d
  | _, _, 0, _, .cons h _, e => ⟨_, rfl, by simp at e; subst e; exact h⟩
  | _, _, i + 1, _, .cons _ t, e => by
    obtain ⟨v, h1, h2⟩ := Iss.getV (i := i) t (by simpa using e)
    exact ⟨v, by simpa using h1, h2⟩
theorem Iss.take : ∀ {vs : List V} {ds : List PyData} (n : Nat), Iss K G vs ds → Iss K G (vs.take n) (ds.take n)
  | _, _, 0, _ => .nil
  | _, _, _ + 1, .nil => .nil
  | _, _, n + 1, .cons h t => .cons h (Iss.take n t)
theorem Iss.drop : ∀ {vs : List V} {ds : List PyData} (n : Nat), Iss K G vs ds → Iss K G (vs.drop n) (ds.drop n)
  | _, _, 0, h => h
  | _, _, _ + 1, .nil => .nil
  | _, _, n + 1, .cons _ t => Iss.drop n t
theorem Iss.ints : ∀ ns : List Int, Iss K G (ns.map V.int) (ns.map PyData.int)
  | [] => .nil
  | n :: r => .cons (.int n) (Iss.ints r)
theorem Iss.set {v : V} {d : PyData} (h : Is K G v d) : ∀ {vs : List V} {ds : List PyData} (i : Nat), Iss K G vs ds → Iss K G (vs.set i v) (ds.set i d)
  | _, _, _, .nil => .nil
  | _, _, 0, .cons _ t => .cons h t
  | _, _, i + 1, .cons q t => .cons q (Iss.set h i t)
end
/-! ## slots -/
inductive Sl where
  | un
  | d (x : PyData)
  | own (x : PyData)
  | loom
  | scr (ns : List Int)
abbrev Sls := List Sl
abbrev WK := PyData → Sls → Prop
abbrev WE := Sls → WK → Prop
/-- an owned cell: its own object in the heap, what it holds in the part that stays -/
inductive Own1 (K : PySem.W.Frag) (G : Hp) : HO → PyData → Prop
  | lst {vs : List V} {ds : List PyData} (h : Iss K G vs ds) : Own1 K G (.lst vs) (.list ds)
  | dct {kvs : List (Key × V)} {ps : List (PyData × PyData)} (h : Isd K G kvs ps) : Own1 K G (.dK kvs) (.dict ps)
theorem Own1.mono {K : PySem.W.Frag} {G G' : Hp} (e : Sub G G') {o : HO} {x : PyData} : Own1 K G o x → Own1 K G' o x
  | .lst h => .lst (h.mono e)
  | .dct h => .dct (h.mono e)
theorem Own1.is {K : PySem.W.Frag} {G : Hp} {a : Addr} {o : HO} {x : PyData} (s : G a = some o) : Own1 K G o x → Is K G (.ref a) x
  | .lst h => .lst s h
  | .dct h => .dct s h
structure Bs where
  H0 : Hp
  G0 : Hp
  fp : List Addr
  la : Addr := 0
  has : Bool := false
end DL
namespace DL
open PySem PySem.Spec L2
/-- a resource that defs hand on and change: what is true of it hangs on its own addresses alone -/
structure Res where
  ok : Hp → Addr → List Addr → Prop
  loc : ∀ H H' a fp, (∀ b ∈ fp, H' b = H b) → ok H a fp → ok H' a fp
  there : ∀ H a fp, ok H a fp → ∀ b ∈ fp, H b ≠ none
  rd : ∀ H a fp, ok H a fp → a ∈ fp
/-- the resource in hand: where it stands, what is its own -/
structure LoomAt (R : Res) (B : Bs) (G : Hp) (ρ : Sls) (σ : L2.St) (H : Hp) (la : Addr) (fp : List Addr) : Prop where
  pl : ∀ (i : Nat), ρ[i]? = some .loom → σ[i]? = some (some (.ref la))
  ok : ((∃ i : Nat, ρ[i]? = some .loom) ∨ B.has = true) → R.ok H la fp
  pf : ∀ b ∈ fp, G b = none ∧ H b ≠ none ∧ (B.H0 b = none ∨ b ∈ B.fp) ∧ ∀ (j : Nat) (y : PyData), ρ[j]? = some (.own y) → σ[j]? ≠ some (some (.ref b))
  tie : B.has = true → la = B.la ∧ fp = B.fp
structure Rel (R : Res) (K : PySem.W.Frag) (B : Bs) (G : Hp) (ρ : Sls) (σ : L2.St) (H : Hp) : Prop where
  sub : Sub G H
  len : ρ.length = σ.length
  g0 : Sub B.G0 G
  new : ∀ b, B.H0 b ≠ none → G b ≠ none → B.G0 b ≠ none
  fr : ∀ b o, B.H0 b = some o → b ∉ B.fp → H b = some o
  fp0 : ∀ b ∈ B.fp, G b = none ∧ B.H0 b ≠ none ∧ H b ≠ none
  d : ∀ (i : Nat) (x : PyData), ρ[i]? = some (.d x) → ∃ v, σ[i]? = some (some v) ∧ Is K G v x
  s : ∀ (i : Nat) (ns : List Int), ρ[i]? = some (.scr ns) → ∃ a, σ[i]? = some (some (.ref a)) ∧ SqL K G a (ns.map V.int)
  o : ∀ (i : Nat) (x : PyData), ρ[i]? = some (.own x) → ∃ a ho, σ[i]? = some (some (.ref a)) ∧ G a = none ∧ B.H0 a = none ∧ H a = some ho ∧ Own1 K G ho x ∧ ∀ (j : Nat) (y : PyData), ρ[j]? = some (.own y) → σ[j]? = some (some (.ref a)) → j = i
  l : ∃ la fp, LoomAt R B G ρ σ H la fp
section
variable {R : Res} {K : PySem.W.Frag} {B : Bs} {G : Hp} {ρ : Sls} {σ : L2.St} {H : Hp}
theorem upd_new {G : Hp} {a : Addr} {ho : HO} (n : G a = none) : Sub G (upd G a ho) := fun b o e => by
  rw [upd_ne (ne_of_none e n)]
  exact e
/-- the owned cell of a slot is let go: nobody writes it any more -/
theorem Rel.freeze (r : Rel R K B G ρ σ H) {i : Nat} {x : PyData} (h : ρ[i]? = some (.own x)) : ∃ v G', Sub G G' ∧ σ[i]? = some (some v) ∧ Is K G' v x ∧ Rel R K B G' (ρ.set i (.d x)) σ H := by
  obtain ⟨a, ho, e1, e2, e3, e4, e5, e6⟩ := r.o i x h
  have hil : i < ρ.length := (List.getElem?_eq_some_iff.mp h).1
  have sg : Sub G (upd G a ho) := upd_new e2
  have isx : Is K (upd G a ho) (.ref a) x := (e5.mono sg).is upd_same
  have own_ne : ∀ (j : Nat) (y : PyData), (ρ.set i (.d x))[j]? = some (.own y) → j ≠ i ∧ ρ[j]? = some (.own y) := fun j y e => by
    by_cases hj : i = j
    · subst hj
      rw [List.getElem?_set_self hil] at e
      cases e
    · rw [List.getElem?_set_ne hj] at e
      exact ⟨fun z => hj z.symm, e⟩
  refine ⟨.ref a, upd G a ho, sg, e1, isx, ?_⟩
  refine ⟨fun b o e => ?_, by rw [List.length_set]; exact r.len, fun b o e => sg _ _ (r.g0 b o e), fun b h1 h2 => ?_, r.fr, fun b hb => ?_, fun j y e => ?_, fun j y e => ?_, fun j y e => ?_, ?_⟩
  · by_cases hb : b = a
    · subst hb
      rw [upd_same] at e
      cases e
      exact e4
    · rw [upd_ne hb] at e
      exact r.sub b o e
  · by_cases hb : b = a
    · subst hb
      exact absurd e3 h1
    · rw [upd_ne hb] at h2
      exact r.new b h1 h2
  · by_cases hba : b = a
    · subst hba
      exact absurd e3 (r.fp0 b hb).2.1
    · rw [upd_ne hba]
      exact r.fp0 b hb
  · by_cases hj : i = j
    · subst hj
      rw [List.getElem?_set_self hil] at e
      cases e
      exact ⟨.ref a, e1, isx⟩
    · rw [List.getElem?_set_ne hj] at e
      obtain ⟨v, q1, q2⟩ := r.d j y e
      exact ⟨v, q1, q2.mono sg⟩
  · by_cases hj : i = j
    · subst hj
      rw [List.getElem?_set_self hil] at e
      cases e
    · rw [List.getElem?_set_ne hj] at e
      obtain ⟨a', q1, q2⟩ := r.s j y e
      exact ⟨a', q1, sg.seq q2⟩
  · obtain ⟨nj, e'⟩ := own_ne j y e
    obtain ⟨a', ho', q1, q2, q3, q4, q5, q6⟩ := r.o j y e'
    have na : a' ≠ a := fun z => by
      subst z
      exact nj (e6 j y e' q1)
    exact ⟨a', ho', q1, by rw [upd_ne na]; exact q2, q3, q4, q5.mono sg, fun l z h1 h2 => q6 l z (own_ne l z h1).2 h2⟩
  · obtain ⟨la, fp, q⟩ := r.l
    have lo : ∀ (j : Nat), (ρ.set i (.d x))[j]? = some .loom → ρ[j]? = some .loom := fun j e => by
      by_cases hj : i = j
      · subst hj
        rw [List.getElem?_set_self hil] at e
        cases e
      · rw [List.getElem?_set_ne hj] at e
        exact e
    refine ⟨la, fp, fun j e => q.pl j (lo j e), fun z => q.ok (z.imp (fun ⟨j, e⟩ => ⟨j, lo j e⟩) id), fun b hb => ?_, q.tie⟩
    obtain ⟨z1, z0, z2, z3⟩ := q.pf b hb
    have nb : b ≠ a := fun z => by
      subst z
      exact z3 i x h e1
    exact ⟨by rw [upd_ne nb]; exact z1, z0, z2, fun j y e => z3 j y (own_ne j y e).2⟩
end
end DL
namespace DL
open PySem PySem.Spec L2
/-! ## new objects -/
section
variable {R : Res} {K : PySem.W.Frag} {B : Bs} {G : Hp} {ρ : Sls} {σ : L2.St} {H : Hp}
theorem Sub.laid {G H : Hp} {p : Addr} {o : HO} (s : Sub G H) (n : H p = none) : Sub (upd G p o) (upd H p o) := fun b u e => by
  by_cases hb : b = p
  · subst hb
    rw [upd_same] at e ⊢
    exact e
  · rw [upd_ne hb] at e ⊢
    exact s b u e
theorem Sub.up {G H : Hp} {p : Addr} {o : HO} (s : Sub G H) (n : G p = none) : Sub G (upd H p o) := fun b u e => by
  rw [upd_ne (ne_of_none e n)]
  exact s b u e
/-- a new object that stays as it is -/
theorem Rel.laid (r : Rel R K B G ρ σ H) {p : Addr} {o : HO} (n : H p = none) : Rel R K B (upd G p o) ρ σ (upd H p o) := by
  have gn : G p = none := r.sub.free n
  have sg : Sub G (upd G p o) := upd_new gn
  have hne : ∀ b u, H b = some u → b ≠ p := fun b u e => ne_of_none e n
  refine ⟨r.sub.laid n, r.len, fun b u e => sg _ _ (r.g0 b u e), fun b h1 h2 => ?_, fun b u e hb => ?_, fun b hb => ?_, fun i x e => ?_, fun i x e => ?_, fun i x e => ?_, ?_⟩
  · by_cases hb : b = p
    · subst hb
      cases q : B.H0 b with
      | none => exact absurd q h1
      | some u =>
        by_cases hf : b ∈ B.fp
        · exact absurd n (r.fp0 b hf).2.2
        · have := r.fr b u q hf
          rw [n] at this
          cases this
    · rw [upd_ne hb] at h2
      exact r.new b h1 h2
  · have q := r.fr b u e hb
    rw [upd_ne (hne b u q)]
    exact q
  · have hb' : b ≠ p := fun z => (r.fp0 b hb).2.2 (by rw [z]; exact n)
    rw [upd_ne hb', upd_ne hb']
    exact r.fp0 b hb
  · obtain ⟨v, e1, e2⟩ := r.d i x e
    exact ⟨v, e1, e2.mono sg⟩
  · obtain ⟨a, q1, q2⟩ := r.s i x e
    exact ⟨a, q1, sg.seq q2⟩
  · obtain ⟨a, ho, e1, e2, e3, e4, e5, e6⟩ := r.o i x e
    have na := hne a ho e4
    exact ⟨a, ho, e1, by rw [upd_ne na]; exact e2, e3, by rw [upd_ne na]; exact e4, e5.mono sg, e6⟩
  · obtain ⟨la, fp, q⟩ := r.l
    have nb : ∀ b ∈ fp, b ≠ p := fun b hb z => (q.pf b hb).2.1 (by rw [z]; exact n)
    refine ⟨la, fp, q.pl, fun z => R.loc H _ la fp (fun b hb => upd_ne (nb b hb)) (q.ok z), fun b hb => ?_, q.tie⟩
    rw [upd_ne (nb b hb), upd_ne (nb b hb)]
    exact q.pf b hb
end
end DL
namespace DL
open PySem PySem.Spec L2
section
variable {R : Res} {K : PySem.W.Frag} {B : Bs} {G : Hp} {ρ : Sls} {σ : L2.St} {H : Hp}
/-- a new object that is not (yet) part of what stays -/
theorem Rel.up (r : Rel R K B G ρ σ H) {p : Addr} {o : HO} (n : H p = none) : Rel R K B G ρ σ (upd H p o) := by
  have gn : G p = none := r.sub.free n
  have hne : ∀ b u, H b = some u → b ≠ p := fun b u e => ne_of_none e n
  refine ⟨r.sub.up gn, r.len, r.g0, r.new, fun b u e hb => ?_, fun b hb => ?_, r.d, r.s, fun i x e => ?_, ?_⟩
  · have q := r.fr b u e hb
    rw [upd_ne (hne b u q)]
    exact q
  · have hb' : b ≠ p := fun z => (r.fp0 b hb).2.2 (by rw [z]; exact n)
    rw [upd_ne hb']
    exact r.fp0 b hb
  · obtain ⟨a, ho, e1, e2, e3, e4, e5, e6⟩ := r.o i x e
    have na := hne a ho e4
    exact ⟨a, ho, e1, e2, e3, by rw [upd_ne na]; exact e4, e5, e6⟩
  · obtain ⟨la, fp, q⟩ := r.l
    have nb : ∀ b ∈ fp, b ≠ p := fun b hb z => (q.pf b hb).2.1 (by rw [z]; exact n)
    refine ⟨la, fp, q.pl, fun z => R.loc H _ la fp (fun b hb => upd_ne (nb b hb)) (q.ok z), fun b hb => ?_, q.tie⟩
    rw [upd_ne (nb b hb)]
    exact q.pf b hb
/-- what stands nowhere but at a fresh place was not there at the entry -/
theorem Rel.h0 (r : Rel R K B G ρ σ H) {p : Addr} (n : H p = none) : B.H0 p = none := by
  cases q : B.H0 p with
  | none => rfl
  | some u =>
    by_cases hf : p ∈ B.fp
    · exact absurd n (r.fp0 p hf).2.2
    · have := r.fr p u q hf
      rw [n] at this
      cases this
end
/-! ## data that can be read: in what stays, or an owned cell -/
inductive IsH (K : PySem.W.Frag) (G H : Hp) : V → PyData → Prop
  | non : IsH K G H .non .none
  | bl (b : Bool) : IsH K G H (.bl b) (.bool b)
  | int (i : Int) : IsH K G H (.int i) (.int i)
  | str (x : Str) : IsH K G H (.str x) (.str x)
  | lst {a : Addr} {vs : List V} {ds : List PyData} (s : H a = some (.lst vs)) (h : Iss K G vs ds) : IsH K G H (.ref a) (.list ds)
  | tup {a : Addr} {vs : List V} {ds : List PyData} (s : SqT K G a vs) (h : Iss K G vs ds) : IsH K G H (.ref a) (.tuple ds)
  | dct {a : Addr} {kvs : List (Key × V)} {ps : List (PyData × PyData)} (s : H a = some (.dK kvs)) (h : Isd K G kvs ps) : IsH K G H (.ref a) (.dict ps)
theorem Is.h {K : PySem.W.Frag} {G H : Hp} (s : Sub G H) {v : V} {d : PyData} : Is K G v d → IsH K G H v d
  | .non => .non
  | .bl b => .bl b
  | .int i => .int i
  | .str x => .str x
  | .lst q h => .lst (s _ _ q) h
  | .tup q h => .tup q h
  | .dct q h => .dct (s _ _ q) h
theorem Own1.h {K : PySem.W.Frag} {G H : Hp} {a : Addr} {o : HO} {x : PyData} (s : H a = some o) : Own1 K G o x → IsH K G H (.ref a) x
  | .lst h => .lst s h
  | .dct h => .dct s h
/-- the data of a slot -/
@[simp] def rdS (ρ : Sls) (i : Nat) : Option PyData := match ρ[i]? with
  | some (.d x) => some x
  | some (.own x) => some x
  | _ => none
theorem Rel.rd {R : Res} {K : PySem.W.Frag} {B : Bs} {G : Hp} {ρ : Sls} {σ : L2.St} {H : Hp} (r : Rel R K B G ρ σ H) {i : Nat} {x : PyData} (h : rdS ρ i = some x) : ∃ v, σ[i]? = some (some v) ∧ IsH K G H v x := by
  unfold rdS at h
  split at h
  · rename_i y e
    cases h
    obtain ⟨v, e1, e2⟩ := r.d i x e
    exact ⟨v, e1, e2.h r.sub⟩
  · rename_i y e
    cases h
    obtain ⟨a, ho, e1, _, _, e4, e5, _⟩ := r.o i x e
    exact ⟨.ref a, e1, e5.h e4⟩
  · cases h
/-! ## judgements -/
def liftE (R : Res) (K : PySem.W.Frag) (B : Bs) (w : WE) : TE := fun σ H Q => ∃ ρ G, Rel R K B G ρ σ H ∧ w ρ fun d ρ' => ∀ v G' H', Sub G G' → Rel R K B G' ρ' σ H' → Is K G' v d → Q v H'
def MonoE (w : WE) : Prop := ∀ (ρ : Sls) (Q Q' : WK), (∀ d ρ', Q d ρ' → Q' d ρ') → w ρ Q → w ρ Q'
structure SE (R : Res) (X : Cx) (e : Expr) (w : WE) : Prop where
  pe : ∀ B, PE X e (liftE R X.K B w)
  mono : MonoE w
theorem PE.imp {X : Cx} {e : Expr} {t t' : TE} (h : PE X e t) (f : ∀ σ H Q, t' σ H Q → t σ H Q) : PE X e t' :=
  ⟨fun pins s σ H Q I q => h.run pins s σ H Q I (f σ H Q q)⟩
theorem PT.imp {X : Cx} {e : Expr} {t t' : TT} (h : PT X e t) (f : ∀ σ H Q, t' σ H Q → t σ H Q) : PT X e t' :=
  ⟨fun pins s σ H Q I q => h.run pins s σ H Q I (f σ H Q q)⟩
theorem PS.imp {X : Cx} {st : Stmt} {t t' : TS} (h : PS X st t) (f : ∀ D σ H, t' D σ H → t D σ H) : PS X st t' :=
  ⟨fun pins s σ H D I q => h.run pins s σ H D I (f D σ H q)⟩
theorem PSs.imp {X : Cx} {st : List Stmt} {t t' : TS} (h : PSs X st t) (f : ∀ D σ H, t' D σ H → t D σ H) : PSs X st t' :=
  ⟨fun pins s σ H D I q => h.run pins s σ H D I (f D σ H q)⟩
theorem PA.imp {X : Cx} {es : List Expr} {t t' : TA} (h : PA X es t) (f : ∀ σ H Q, t' σ H Q → t σ H Q) : PA X es t' :=
  ⟨fun pos pins s σ H Q I q => h.run pos pins s σ H Q I (f σ H Q q)⟩
/-- an operand that is only read: a slot (read when the operation is done), or an expression's value -/
inductive Od where
  | s (i : Nat)
  | v (w : WE)
@[simp] def Od.run : Od → Sls → ((Sls → Option PyData) → Sls → Prop) → Prop
  | .s i, ρ, Q => (∃ x, rdS ρ i = some x) ∧ Q (fun ρ' => rdS ρ' i) ρ
  | .v w, ρ, Q => w ρ fun d ρ' => Q (fun _ => some d) ρ'
def Od.Mono : Od → Prop
  | .s _ => True
  | .v w => MonoE w
theorem Od.Mono.run {o : Od} (m : o.Mono) {ρ : Sls} {Q Q' : (Sls → Option PyData) → Sls → Prop} (f : ∀ g ρ', Q g ρ' → Q' g ρ') (h : o.run ρ Q) : o.run ρ Q' := by
  cases o with
  | s i => exact ⟨h.1, f _ _ h.2⟩
  | v w => exact m ρ _ _ (fun d ρ' q => f _ _ q) h
def liftO (R : Res) (K : PySem.W.Frag) (B : Bs) : Od → TE
  | .s i => tVar i
  | .v w => liftE R K B w
structure SO (R : Res) (X : Cx) (e : Expr) (o : Od) : Prop where
  pe : ∀ B, PE X e (liftO R X.K B o)
  mono : o.Mono
/-- how the operand's value is told, as long as what stays stays -/
def OdIs (K : PySem.W.Frag) (G : Hp) (σ : L2.St) (o : Od) (g : Sls → Option PyData) (v : V) : Prop :=
  match o with
  | .s i => σ[i]? = some (some v) ∧ g = fun ρ' => rdS ρ' i
  | .v _ => ∃ d, Is K G v d ∧ g = fun _ => some d
theorem OdIs.mono {K : PySem.W.Frag} {G G' : Hp} {σ : L2.St} {o : Od} {g : Sls → Option PyData} {v : V} (e : Sub G G') (h : OdIs K G σ o g v) : OdIs K G' σ o g v := by
  cases o with
  | s i => exact h
  | v w =>
    obtain ⟨d, h1, h2⟩ := h
    exact ⟨d, h1.mono e, h2⟩
theorem OdIs.at {R : Res} {K : PySem.W.Frag} {B : Bs} {G : Hp} {ρ : Sls} {σ : L2.St} {H : Hp} {o : Od} {g : Sls → Option PyData} {v : V} {x : PyData} (h : OdIs K G σ o g v) (r : Rel R K B G ρ σ H) (e : g ρ = some x) : IsH K G H v x := by
  cases o with
  | s i =>
    obtain ⟨h1, rfl⟩ := h
    obtain ⟨v', e1, e2⟩ := r.rd e
    rw [h1] at e1
    cases e1
    exact e2
  | v w =>
    obtain ⟨d, h1, rfl⟩ := h
    cases e
    exact h1.h r.sub
/-- THE STEP of an operand -/
theorem od_step {R : Res} {K : PySem.W.Frag} {B : Bs} {G : Hp} {ρ : Sls} {σ : L2.St} {H : Hp} {o : Od} {Q : VK} (m : o.Mono) (r : Rel R K B G ρ σ H) {P : (Sls → Option PyData) → Sls → Prop} (h : o.run ρ P)
    (f : ∀ g ρ' v G' H', Sub G G' → Rel R K B G' ρ' σ H' → OdIs K G' σ o g v → P g ρ' → Q v H') : liftO R K B o σ H Q := by
  cases o with
  | s i =>
    obtain ⟨⟨x, hx⟩, h⟩ := h
    obtain ⟨v, e, _⟩ := r.rd hx
    exact ⟨v, e, f _ ρ v G H (Same.refl G) r ⟨e, rfl⟩ h⟩
  | v w => exact ⟨ρ, G, r, m ρ _ _ (fun d ρ' q v G' H' s r' i => f _ ρ' v G' H' s r' ⟨d, i, rfl⟩ q) h⟩
end DL
namespace DL
open PySem PySem.Spec L2
/-! ## operations -/
abbrev D1 := PyData → (PyData → Prop) → Prop
abbrev D2 := PyData → PyData → (PyData → Prop) → Prop
def Aft (R : Res) (K : PySem.W.Frag) (B : Bs) (G : Hp) (ρ : Sls) (σ : L2.St) (Q : VK) (z : PyData) : Prop := ∀ v G' H', Sub G G' → Rel R K B G' ρ σ H' → Is K G' v z → Q v H'
structure Lk2 (R : Res) (K : PySem.W.Frag) (r : R2) (f : D2) : Prop where
  to : ∀ (B : Bs) (G : Hp) (ρ : Sls) (σ : L2.St) (H : Hp) (v u : V) (x y : PyData) (Q : VK), Rel R K B G ρ σ H → IsH K G H v x → IsH K G H u y → f x y (Aft R K B G ρ σ Q) → r v u H Q
  mono : ∀ x y (q q' : PyData → Prop), (∀ z, q z → q' z) → f x y q → f x y q'
structure Lk1 (R : Res) (K : PySem.W.Frag) (r : V → Hp → VK → Prop) (f : D1) : Prop where
  to : ∀ (B : Bs) (G : Hp) (ρ : Sls) (σ : L2.St) (H : Hp) (v : V) (x : PyData) (Q : VK), Rel R K B G ρ σ H → IsH K G H v x → f x (Aft R K B G ρ σ Q) → r v H Q
  mono : ∀ x (q q' : PyData → Prop), (∀ z, q z → q' z) → f x q → f x q'
@[simp] def wOp2 (f : D2) (a b : Od) : WE := fun ρ Q => a.run ρ fun ga ρ1 => b.run ρ1 fun gb ρ2 => ∃ x y, ga ρ2 = some x ∧ gb ρ2 = some y ∧ f x y fun z => Q z ρ2
@[simp] def wOp1 (f : D1) (a : Od) : WE := fun ρ Q => a.run ρ fun ga ρ1 => ∃ x, ga ρ1 = some x ∧ f x fun z => Q z ρ1
section
variable {R : Res} {K : PySem.W.Frag} {B : Bs} {σ : L2.St} {H : Hp} {Q : VK} {a b : Od}
theorem mono_op2 {f : D2} (mf : ∀ x y (q q' : PyData → Prop), (∀ z, q z → q' z) → f x y q → f x y q') (ma : a.Mono) (mb : b.Mono) : MonoE (wOp2 f a b) := fun ρ Q Q' h => ma.run fun _ _ q => mb.run (fun _ _ ⟨x, y, e1, e2, q⟩ => ⟨x, y, e1, e2, mf x y _ _ (fun z => h z _) q⟩) q
theorem mono_op1 {f : D1} (mf : ∀ x (q q' : PyData → Prop), (∀ z, q z → q' z) → f x q → f x q') (ma : a.Mono) : MonoE (wOp1 f a) := fun ρ Q Q' h => ma.run fun _ _ ⟨x, e1, q⟩ => ⟨x, e1, mf x _ _ (fun z => h z _) q⟩
theorem op2 {r : R2} {f : D2} (L : Lk2 R K r f) (ma : a.Mono) (mb : b.Mono) (h : liftE R K B (wOp2 f a b) σ H Q) : tOp r (liftO R K B a) (liftO R K B b) σ H Q := by
  obtain ⟨ρ, G, rl, h⟩ := h
  refine od_step ma rl h fun ga ρ1 v G1 H1 s1 r1 i1 h1 => ?_
  refine od_step mb r1 h1 fun gb ρ2 u G2 H2 s2 r2 i2 h2 => ?_
  obtain ⟨x, y, e1, e2, q⟩ := h2
  exact L.to B G2 ρ2 σ H2 v u x y Q r2 ((i1.mono s2).at r2 e1) (i2.at r2 e2) (L.mono _ _ _ _ (fun z q v' G' H' s r' i => q v' G' H' ((s1.trans s2).trans s) r' i) q)
theorem op1 {r : V → Hp → VK → Prop} {f : D1} (L : Lk1 R K r f) (ma : a.Mono) (h : liftE R K B (wOp1 f a) σ H Q) : liftO R K B a σ H fun x H1 => r x H1 Q := by
  obtain ⟨ρ, G, rl, h⟩ := h
  refine od_step ma rl h fun ga ρ1 v G1 H1 s1 r1 i1 h1 => ?_
  obtain ⟨x, e1, q⟩ := h1
  exact L.to B G1 ρ1 σ H1 v x Q r1 (i1.at r1 e1) (L.mono _ _ _ (fun z q v' G' H' s r' i => q v' G' H' (s1.trans s) r' i) q)
end
section
variable {R : Res} {X : Cx} {e1 e2 : Expr} {a b : Od} {pos : Pos}
theorem se_bin {op : Operator} {r : R2} {f : D2} (ho : OpR X (binaryOp op) r) (L : Lk2 R X.K r f) (ha : SO R X e1 a) (hb : SO R X e2 b) : SE R X (.BinOp e1 op e2 pos) (wOp2 f a b) :=
  ⟨fun B => PE.imp (pe_op ho (ha.pe B) (hb.pe B)) fun σ H Q h => op2 L ha.mono hb.mono h, mono_op2 L.mono ha.mono hb.mono⟩
theorem se_cmp {op : CmpOp} {r : R2} {f : D2} (ho : OpR X (compareOp op) r) (L : Lk2 R X.K r f) (ha : SO R X e1 a) (hb : SO R X e2 b) (hm : behindInMarks op e2 = false) : SE R X (.Compare e1 [op] [e2] pos) (wOp2 f a b) :=
  ⟨fun B => PE.imp (pe_cmpR ho (ha.pe B) (hb.pe B) hm) fun σ H Q h => op2 L ha.mono hb.mono h, mono_op2 L.mono ha.mono hb.mono⟩
theorem se_un {op : UnaryOp} {r : V → Hp → VK → Prop} {f : D1} (ho : UnR X (unaryOp op) r) (L : Lk1 R X.K r f) (ha : SO R X e1 a) : SE R X (.UnaryOp op e1 pos) (wOp1 f a) :=
  ⟨fun B => PE.imp (pe_un ho (ha.pe B)) fun σ H Q h => op1 L ha.mono h, mono_op1 L.mono ha.mono⟩
theorem se_ix {r : R2} {f : D2} (ho : IxR X r) (L : Lk2 R X.K r f) (ha : SO R X e1 a) (hb : SO R X e2 b) (hs : PlainIx e2) : SE R X (.Subscript e1 e2 pos) (wOp2 f a b) :=
  ⟨fun B => PE.imp (pe_ix ho (ha.pe B) (hb.pe B) hs) fun σ H Q h => op2 L ha.mono hb.mono h, mono_op2 L.mono ha.mono hb.mono⟩
/-! ### names and constants -/
@[simp] def wVar (i : Nat) : WE := fun ρ Q => match ρ[i]? with
  | some (.d x) => Q x ρ
  | some (.own x) => Q x (ρ.set i (.d x))
  | _ => False
@[simp] def wC (d : PyData) : WE := fun ρ Q => Q d ρ
theorem so_var {i : Nat} {x : Str} (h : PE X (.Name x pos) (tVar i)) : SO R X (.Name x pos) (.s i) := ⟨fun _ => h, trivial⟩
theorem so_val {w : WE} (h : SE R X e1 w) : SO R X e1 (.v w) := ⟨fun B => h.pe B, h.mono⟩
theorem se_var {i : Nat} {x : Str} (h : PE X (.Name x pos) (tVar i)) : SE R X (.Name x pos) (wVar i) := by
  refine ⟨fun B => PE.imp h fun σ H Q ⟨ρ, G, r, q⟩ => ?_, fun ρ Q Q' hq q => ?_⟩
  · unfold wVar at q
    split at q
    · rename_i y e
      obtain ⟨v, e1, e2⟩ := r.d i y e
      exact ⟨v, e1, q v G H (Same.refl G) r e2⟩
    · rename_i y e
      obtain ⟨v, G', s, e1, e2, r'⟩ := r.freeze e
      exact ⟨v, e1, q v G' H s r' e2⟩
    · exact q.elim
  · unfold wVar at q ⊢
    split at q
    · exact hq _ _ q
    · exact hq _ _ q
    · exact q.elim
theorem se_c {d : PyData} {v : V} (h : PE X e1 (tC v)) (hv : ∀ G, Is X.K G v d) : SE R X e1 (wC d) :=
  ⟨fun B => PE.imp h fun σ H Q ⟨ρ, G, r, q⟩ => q v G H (Same.refl G) r (hv G), fun ρ Q Q' hq q => hq _ _ q⟩
/-! ### tests -/
abbrev WT := Sls → (Bool → Sls → Prop) → Prop
def liftT (R : Res) (K : PySem.W.Frag) (B : Bs) (w : WT) : TT := fun σ H Q => ∃ ρ G, Rel R K B G ρ σ H ∧ w ρ fun c ρ' => ∀ G' H', Sub G G' → Rel R K B G' ρ' σ H' → Q c H'
def MonoT (w : WT) : Prop := ∀ (ρ : Sls) (Q Q' : Bool → Sls → Prop), (∀ d ρ', Q d ρ' → Q' d ρ') → w ρ Q → w ρ Q'
structure ST (R : Res) (X : Cx) (e : Expr) (w : WT) : Prop where
  pt : ∀ B, PT X e (liftT R X.K B w)
  mono : MonoT w
structure SW (R : Res) (X : Cx) (e : Expr) (w : WT) : Prop where
  pw : ∀ B, PW X e (liftT R X.K B w)
  mono : MonoT w
@[simp] def wTst (w : WE) : WT := fun ρ Q => w ρ fun d ρ' => ∃ c, d = .bool c ∧ Q c ρ'
theorem mono_tst {w : WE} (m : MonoE w) : MonoT (wTst w) := fun ρ Q Q' h => m ρ _ _ fun d ρ' ⟨c, e, q⟩ => ⟨c, e, h _ _ q⟩
theorem Is.bool {K : PySem.W.Frag} {G : Hp} {v : V} {c : Bool} (h : Is K G v (.bool c)) : v = .bl c := by cases h; rfl
theorem tst_lift {B : Bs} {K : PySem.W.Frag} {w : WE} {σ : L2.St} {H : Hp} {Q : Bool → Hp → Prop} (m : MonoE w) (h : liftT R K B (wTst w) σ H Q) : liftE R K B w σ H fun x H1 => ∃ c, x = .bl c ∧ Q c H1 := by
  obtain ⟨ρ, G, r, h⟩ := h
  refine ⟨ρ, G, r, m ρ _ _ (fun d ρ' ⟨c, e, q⟩ v G' H' s r' i => ?_) h⟩
  subst e
  exact ⟨c, i.bool, q G' H' s r'⟩
theorem st_val {w : WE} (h : SE R X e1 w) (he : ∀ whole, isTrue e1 X.env whole = (do let v ← whole; standAt e1.pos; holding [v] (truthy v)) := by intro _; rfl) : ST R X e1 (wTst w) :=
  ⟨fun B => PT.imp (pt_val (h.pe B) he) fun σ H Q q => tst_lift h.mono q, mono_tst h.mono⟩
theorem st_cmp {op : CmpOp} {r : R2} {f : D2} (ho : OpR X (compareOp op) r) (L : Lk2 R X.K r f) (ha : SO R X e1 a) (hb : SO R X e2 b) (hm : behindInMarks op e2 = false) : ST R X (.Compare e1 [op] [e2] pos) (wTst (wOp2 f a b)) :=
  ⟨fun B => PT.imp (pt_cmpR ho (ha.pe B) (hb.pe B) hm) fun σ H Q q => op2 L ha.mono hb.mono (tst_lift (mono_op2 L.mono ha.mono hb.mono) q), mono_tst (mono_op2 L.mono ha.mono hb.mono)⟩
@[simp] def wAnd (t u : WT) : WT := fun ρ Q => t ρ fun c ρ1 => if c = true then u ρ1 Q else Q false ρ1
@[simp] def wOr (t u : WT) : WT := fun ρ Q => t ρ fun c ρ1 => if c = true then Q true ρ1 else u ρ1 Q
@[simp] def wNot (t : WT) : WT := fun ρ Q => t ρ fun c ρ1 => Q (!c) ρ1
variable {t u : WT} {rest : List Expr}
theorem mono_and (m1 : MonoT t) (m2 : MonoT u) : MonoT (wAnd t u) := fun ρ Q Q' h => m1 ρ _ _ fun c ρ1 q => by
  cases c with
  | true => exact m2 ρ1 _ _ h q
  | false => exact h _ _ q
theorem mono_or (m1 : MonoT t) (m2 : MonoT u) : MonoT (wOr t u) := fun ρ Q Q' h => m1 ρ _ _ fun c ρ1 q => by
  cases c with
  | true => exact h _ _ q
  | false => exact m2 ρ1 _ _ h q
theorem sw_and1 (h : ST R X e1 t) : SW R X (.BoolOp .And [e1] pos) t := ⟨fun B => pw_and1 (h.pt B), h.mono⟩
theorem sw_or1 (h : ST R X e1 t) : SW R X (.BoolOp .Or [e1] pos) t := ⟨fun B => pw_or1 (h.pt B), h.mono⟩
theorem PW.imp {X : Cx} {e : Expr} {t t' : TT} (h : PW X e t) (f : ∀ σ H Q, t' σ H Q → t σ H Q) : PW X e t' :=
  ⟨fun wh pins s σ H Q I q => h.run wh pins s σ H Q I (f σ H Q q)⟩
theorem sw_and (h1 : ST R X e1 t) (h2 : SW R X (.BoolOp .And (e2 :: rest) pos) u) : SW R X (.BoolOp .And (e1 :: e2 :: rest) pos) (wAnd t u) := by
  refine ⟨fun B => PW.imp (pw_and (h1.pt B) (h2.pw B)) fun σ H Q ⟨ρ, G, r, h⟩ => ⟨ρ, G, r, h1.mono ρ _ _ (fun c ρ1 q G' H' s r' => ?_) h⟩, mono_and h1.mono h2.mono⟩
  cases c with
  | true => exact ⟨ρ1, G', r', h2.mono ρ1 _ _ (fun d ρ2 q G2 H2 s2 r2 => q G2 H2 (s.trans s2) r2) q⟩
  | false => exact q G' H' s r'
theorem sw_or (h1 : ST R X e1 t) (h2 : SW R X (.BoolOp .Or (e2 :: rest) pos) u) : SW R X (.BoolOp .Or (e1 :: e2 :: rest) pos) (wOr t u) := by
  refine ⟨fun B => PW.imp (pw_or (h1.pt B) (h2.pw B)) fun σ H Q ⟨ρ, G, r, h⟩ => ⟨ρ, G, r, h1.mono ρ _ _ (fun c ρ1 q G' H' s r' => ?_) h⟩, mono_or h1.mono h2.mono⟩
  cases c with
  | true => exact q G' H' s r'
  | false => exact ⟨ρ1, G', r', h2.mono ρ1 _ _ (fun d ρ2 q G2 H2 s2 r2 => q G2 H2 (s.trans s2) r2) q⟩
theorem SW.st {e : Expr} (h : SW R X e t) : ST R X e t := ⟨fun B => (h.pw B).pt, h.mono⟩
theorem st_not (h : ST R X e1 t) : ST R X (.UnaryOp .Not e1 pos) (wNot t) :=
  ⟨fun B => PT.imp (pt_not (h.pt B)) fun σ H Q ⟨ρ, G, r, q⟩ => ⟨ρ, G, r, q⟩, fun ρ Q Q' hq => h.mono ρ _ _ fun c ρ1 q => hq _ _ q⟩
/-! ### .. as values -/
@[simp] def wAndV (t u : WE) : WE := fun ρ Q => t ρ fun d ρ1 => ∃ c, d = .bool c ∧ if c = true then u ρ1 Q else Q (.bool false) ρ1
@[simp] def wOrV (t u : WE) : WE := fun ρ Q => t ρ fun d ρ1 => ∃ c, d = .bool c ∧ if c = true then Q (.bool true) ρ1 else u ρ1 Q
@[simp] def wNotV (t : WE) : WE := fun ρ Q => t ρ fun d ρ1 => ∃ c, d = .bool c ∧ Q (.bool (!c)) ρ1
variable {wa wb : WE}
theorem se_one {op} (h : SE R X e1 wa) : SE R X (.BoolOp op [e1] pos) wa := ⟨fun B => pe_one (h.pe B), h.mono⟩
theorem se_and (h1 : SE R X e1 wa) (h2 : SE R X (.BoolOp .And (e2 :: rest) pos) wb) : SE R X (.BoolOp .And (e1 :: e2 :: rest) pos) (wAndV wa wb) := by
  refine ⟨fun B => PE.imp (pe_and (h1.pe B) (h2.pe B)) fun σ H Q ⟨ρ, G, r, h⟩ => ⟨ρ, G, r, h1.mono ρ _ _ (fun d ρ1 ⟨c, e, q⟩ v G' H' s r' i => ?_) h⟩, fun ρ Q Q' hq => h1.mono ρ _ _ fun d ρ1 ⟨c, e, q⟩ => ⟨c, e, ?_⟩⟩
  · subst e
    refine ⟨c, i.bool, ?_⟩
    cases c with
    | true => exact ⟨ρ1, G', r', h2.mono ρ1 _ _ (fun d ρ2 q v2 G2 H2 s2 r2 i2 => q v2 G2 H2 (s.trans s2) r2 i2) q⟩
    | false => exact q _ G' H' s r' (.bl false)
  · cases c with
    | true => exact h2.mono ρ1 _ _ hq q
    | false => exact hq _ _ q
theorem se_or (h1 : SE R X e1 wa) (h2 : SE R X (.BoolOp .Or (e2 :: rest) pos) wb) : SE R X (.BoolOp .Or (e1 :: e2 :: rest) pos) (wOrV wa wb) := by
  refine ⟨fun B => PE.imp (pe_or (h1.pe B) (h2.pe B)) fun σ H Q ⟨ρ, G, r, h⟩ => ⟨ρ, G, r, h1.mono ρ _ _ (fun d ρ1 ⟨c, e, q⟩ v G' H' s r' i => ?_) h⟩, fun ρ Q Q' hq => h1.mono ρ _ _ fun d ρ1 ⟨c, e, q⟩ => ⟨c, e, ?_⟩⟩
  · subst e
    refine ⟨c, i.bool, ?_⟩
    cases c with
    | true => exact q _ G' H' s r' (.bl true)
    | false => exact ⟨ρ1, G', r', h2.mono ρ1 _ _ (fun d ρ2 q v2 G2 H2 s2 r2 i2 => q v2 G2 H2 (s.trans s2) r2 i2) q⟩
  · cases c with
    | true => exact hq _ _ q
    | false => exact h2.mono ρ1 _ _ hq q
theorem se_not (h : SE R X e1 wa) : SE R X (.UnaryOp .Not e1 pos) (wNotV wa) := by
  refine ⟨fun B => PE.imp (pe_not (h.pe B)) fun σ H Q ⟨ρ, G, r, q⟩ => ⟨ρ, G, r, h.mono ρ _ _ (fun d ρ1 ⟨c, e, q⟩ v G' H' s r' i => ?_) q⟩, fun ρ Q Q' hq => h.mono ρ _ _ fun d ρ1 ⟨c, e, q⟩ => ⟨c, e, hq _ _ q⟩⟩
  subst e
  exact ⟨c, i.bool, q _ G' H' s r' (.bl _)⟩
@[simp] def wIf (t : WT) (a b : WE) : WE := fun ρ Q => t ρ fun c ρ1 => if c = true then a ρ1 Q else b ρ1 Q
theorem se_if {c : Expr} (ht : ST R X c t) (h1 : SE R X e1 wa) (h2 : SE R X e2 wb) : SE R X (.IfExp c e1 e2 pos) (wIf t wa wb) := by
  refine ⟨fun B => PE.imp (pe_ifExp (ht.pt B) (h1.pe B) (h2.pe B)) fun σ H Q ⟨ρ, G, r, h⟩ => ⟨ρ, G, r, ht.mono ρ _ _ (fun c ρ1 q G' H' s r' => ?_) h⟩, fun ρ Q Q' hq => ht.mono ρ _ _ fun c ρ1 q => ?_⟩
  · cases c with
    | true => exact ⟨ρ1, G', r', h1.mono ρ1 _ _ (fun d ρ2 q v2 G2 H2 s2 r2 i2 => q v2 G2 H2 (s.trans s2) r2 i2) q⟩
    | false => exact ⟨ρ1, G', r', h2.mono ρ1 _ _ (fun d ρ2 q v2 G2 H2 s2 r2 i2 => q v2 G2 H2 (s.trans s2) r2 i2) q⟩
  · cases c with
    | true => exact h1.mono ρ1 _ _ hq q
    | false => exact h2.mono ρ1 _ _ hq q
/-- a < b < c -/
@[simp] def wChain (f g : D2) (a b c : Od) : WE := fun ρ Q => a.run ρ fun ga ρ1 => b.run ρ1 fun gb ρ2 => ∃ x y, ga ρ2 = some x ∧ gb ρ2 = some y ∧ f x y fun z => ∃ k, z = .bool k ∧
  if k = true then c.run ρ2 fun gc ρ3 => ∃ y' x', gb ρ3 = some y' ∧ gc ρ3 = some x' ∧ g y' x' fun z' => Q z' ρ3 else Q (.bool false) ρ2
end
end DL
namespace DL
open PySem PySem.Spec L2
section
variable {R : Res} {X : Cx} {e1 e2 e3 : Expr} {a b c : Od} {pos : Pos}
theorem chain_lift {B : Bs} {K : PySem.W.Frag} {r r' : R2} {f g : D2} {σ : L2.St} {H : Hp} {Q : VK} (L : Lk2 R K r f) (L' : Lk2 R K r' g) (ma : a.Mono) (mb : b.Mono) (mc : c.Mono) (h : liftE R K B (wChain f g a b c) σ H Q) :
    tChain r r' (liftO R K B a) (liftO R K B b) (liftO R K B c) σ H Q := by
  obtain ⟨ρ, G, rl, h⟩ := h
  refine od_step ma rl h fun ga ρ1 v G1 H1 s1 r1 i1 h1 => ?_
  refine od_step mb r1 h1 fun gb ρ2 u G2 H2 s2 r2 i2 h2 => ?_
  obtain ⟨x, y, e1, e2, q⟩ := h2
  refine L.to B G2 ρ2 σ H2 v u x y _ r2 ((i1.mono s2).at r2 e1) (i2.at r2 e2) (L.mono _ _ _ _ (fun z q v' G3 H3 s3 r3 iz => ?_) q)
  obtain ⟨k, rfl, q⟩ := q
  refine ⟨k, iz.bool, ?_⟩
  cases k with
  | false => exact q _ G3 H3 ((s1.trans s2).trans s3) r3 (.bl false)
  | true =>
    refine od_step mc r3 q fun gc ρ4 w G4 H4 s4 r4 i4 h4 => ?_
    obtain ⟨y', x', e3, e4, q⟩ := h4
    exact L'.to B G4 ρ4 σ H4 u w y' x' Q r4 ((i2.mono (s3.trans s4)).at r4 e3) (i4.at r4 e4) (L'.mono _ _ _ _ (fun z q v' G' H' s r' i => q v' G' H' (((s1.trans s2).trans (s3.trans s4)).trans s) r' i) q)
theorem mono_chain {K : PySem.W.Frag} {r r' : R2} {f g : D2} (L : Lk2 R K r f) (L' : Lk2 R K r' g) (ma : a.Mono) (mb : b.Mono) (mc : c.Mono) : MonoE (wChain f g a b c) := fun ρ Q Q' h =>
  ma.run fun _ _ q => mb.run (fun _ _ ⟨x, y, h1, h2, q⟩ => ⟨x, y, h1, h2, L.mono _ _ _ _ (fun z ⟨k, e, q⟩ => ⟨k, e, by
    cases k with
    | false => exact h _ _ q
    | true => exact mc.run (fun _ _ ⟨y', x', h3, h4, q⟩ => ⟨y', x', h3, h4, L'.mono _ _ _ _ (fun z q => h z _ q) q⟩) q⟩) q⟩) q
theorem se_chain {op op' : CmpOp} {r r' : R2} {f g : D2} (ho : OpR X (compareOp op) r) (L : Lk2 R X.K r f) (ho' : OpR X (compareOp op') r') (L' : Lk2 R X.K r' g) (ha : SO R X e1 a) (hb : SO R X e2 b) (hc : SO R X e3 c)
    (hm : lastMarks [op, op'] [e2, e3] = false := by with_unfolding_all rfl) : SE R X (.Compare e1 [op, op'] [e2, e3] pos) (wChain f g a b c) :=
  ⟨fun B => PE.imp (pe_chain ho ho' (ha.pe B) (hb.pe B) (hc.pe B) hm) fun σ H Q h => chain_lift L L' ha.mono hb.mono hc.mono h, mono_chain L L' ha.mono hb.mono hc.mono⟩
theorem st_chain {op op' : CmpOp} {r r' : R2} {f g : D2} (ho : OpR X (compareOp op) r) (L : Lk2 R X.K r f) (ho' : OpR X (compareOp op') r') (L' : Lk2 R X.K r' g) (ha : SO R X e1 a) (hb : SO R X e2 b) (hc : SO R X e3 c)
    (hm : lastMarks [op, op'] [e2, e3] = false := by with_unfolding_all rfl) : ST R X (.Compare e1 [op, op'] [e2, e3] pos) (wTst (wChain f g a b c)) :=
  ⟨fun B => PT.imp (pt_chain ho ho' (ha.pe B) (hb.pe B) (hc.pe B) hm) fun σ H Q h => chain_lift L L' ha.mono hb.mono hc.mono (tst_lift (mono_chain L L' ha.mono hb.mono hc.mono) h), mono_tst (mono_chain L L' ha.mono hb.mono hc.mono)⟩
/-! ### argument lists: data, the resource -/
inductive Ag where
  | loom (i : Nat)
  | scr (i : Nat)
  | e (w : WE)
@[simp] def wAgs : List Ag → Sls → (List Sl → Sls → Prop) → Prop
  | [], ρ, Q => Q [] ρ
  | .loom i :: r, ρ, Q => ρ[i]? = some .loom ∧ wAgs r ρ fun as ρ' => Q (.loom :: as) ρ'
  | .scr i :: r, ρ, Q => ∃ ns, ρ[i]? = some (.scr ns) ∧ wAgs r ρ fun as ρ' => Q (.scr ns :: as) ρ'
  | .e w :: r, ρ, Q => w ρ fun d ρ1 => wAgs r ρ1 fun as ρ' => Q (.d d :: as) ρ'
def MonoA : List Ag → Prop
  | [] => True
  | .e w :: r => MonoE w ∧ MonoA r
  | _ :: r => MonoA r
theorem MonoA.run : ∀ {gs : List Ag}, MonoA gs → ∀ {ρ : Sls} {Q Q' : List Sl → Sls → Prop}, (∀ as ρ', Q as ρ' → Q' as ρ') → wAgs gs ρ Q → wAgs gs ρ Q'
  | [], _, _, _, _, f, h => f _ _ h
  | .loom i :: r, m, _, _, _, f, h => ⟨h.1, MonoA.run (gs := r) m (fun _ _ q => f _ _ q) h.2⟩
  | .scr i :: r, m, _, _, _, f, h => let ⟨ns, h1, h2⟩ := h; ⟨ns, h1, MonoA.run (gs := r) m (fun _ _ q => f _ _ q) h2⟩
  | .e w :: r, m, ρ, _, _, f, h => m.1 ρ _ _ (fun d ρ1 q => MonoA.run (gs := r) m.2 (fun _ _ q => f _ _ q) q) h
/-- the values of arguments -/
def ArgsV (K : PySem.W.Frag) (G : Hp) (σ : L2.St) : List Ag → List V → List Sl → Prop
  | [], vs, as => vs = [] ∧ as = []
  | .loom i :: r, vs, as => ∃ v vs' as', vs = v :: vs' ∧ as = .loom :: as' ∧ σ[i]? = some (some v) ∧ ArgsV K G σ r vs' as'
  | .scr i :: r, vs, as => ∃ v vs' as' ns a, vs = v :: vs' ∧ as = .scr ns :: as' ∧ v = .ref a ∧ SqL K G a (ns.map V.int) ∧ ArgsV K G σ r vs' as'
  | .e _ :: r, vs, as => ∃ v vs' as' d, vs = v :: vs' ∧ as = .d d :: as' ∧ Is K G v d ∧ ArgsV K G σ r vs' as'
def liftA (R : Res) (K : PySem.W.Frag) (B : Bs) (gs : List Ag) : TA := fun σ H Q => ∃ ρ G, Rel R K B G ρ σ H ∧ wAgs gs ρ fun as ρ' => ∀ vs G' H', Sub G G' → Rel R K B G' ρ' σ H' → ArgsV K G' σ gs vs as → Q vs H'
structure SA (R : Res) (X : Cx) (es : List Expr) (gs : List Ag) : Prop where
  pa : ∀ B, PA X es (liftA R X.K B gs)
  mono : MonoA gs
variable {es : List Expr} {gs : List Ag}
theorem sa_nil : SA R X [] [] := ⟨fun B => PA.imp pa_nil fun σ H Q ⟨ρ, G, r, q⟩ => q [] G H (Same.refl G) r ⟨rfl, rfl⟩, trivial⟩
theorem sa_cons {w : WE} (h : SE R X e1 w) (ht : SA R X es gs) (hs : starEach (e1 :: es) X.env = (false, eval e1 X.env) :: starEach es X.env := by rfl) : SA R X (e1 :: es) (.e w :: gs) := by
  refine ⟨fun B => PA.imp (pa_cons (h.pe B) (ht.pa B) hs) fun σ H Q ⟨ρ, G, r, q⟩ => ?_, ⟨h.mono, ht.mono⟩⟩
  refine ⟨ρ, G, r, h.mono ρ _ _ (fun d ρ1 q v G1 H1 s1 r1 i1 => ?_) q⟩
  refine ⟨ρ1, G1, r1, ht.mono.run (fun as ρ2 q vs G2 H2 s2 r2 i2 => ?_) q⟩
  exact q (v :: vs) G2 H2 (s1.trans s2) r2 ⟨v, vs, as, d, rfl, rfl, i1.mono s2, i2⟩
theorem sa_loom {i : Nat} {x : Str} {p : Pos} (h : PE X (.Name x p) (tVar i)) (ht : SA R X es gs) (hs : starEach (.Name x p :: es) X.env = (false, eval (.Name x p) X.env) :: starEach es X.env := by rfl) : SA R X (.Name x p :: es) (.loom i :: gs) := by
  refine ⟨fun B => PA.imp (pa_cons h (ht.pa B) hs) fun σ H Q ⟨ρ, G, r, q⟩ => ?_, ht.mono⟩
  obtain ⟨e, q⟩ := q
  obtain ⟨la, fp, q1⟩ := r.l
  have e1 := q1.pl i e
  refine ⟨_, e1, ρ, G, r, ht.mono.run (fun as ρ2 q vs G2 H2 s2 r2 i2 => ?_) q⟩
  exact q (_ :: vs) G2 H2 s2 r2 ⟨_, vs, as, rfl, rfl, e1, i2⟩
theorem sa_scr {i : Nat} {x : Str} {p : Pos} (h : PE X (.Name x p) (tVar i)) (ht : SA R X es gs) (hs : starEach (.Name x p :: es) X.env = (false, eval (.Name x p) X.env) :: starEach es X.env := by rfl) : SA R X (.Name x p :: es) (.scr i :: gs) := by
  refine ⟨fun B => PA.imp (pa_cons h (ht.pa B) hs) fun σ H Q ⟨ρ, G, r, q⟩ => ?_, ht.mono⟩
  obtain ⟨ns, e, q⟩ := q
  obtain ⟨a, e1, e2⟩ := r.s i ns e
  refine ⟨_, e1, ρ, G, r, ht.mono.run (fun as ρ2 q vs G2 H2 s2 r2 i2 => ?_) q⟩
  exact q (_ :: vs) G2 H2 s2 r2 ⟨_, vs, as, ns, a, rfl, rfl, rfl, s2.seq e2, i2⟩
/-- data alone -/
@[simp] def wEs : List WE → Sls → (List PyData → Sls → Prop) → Prop
  | [], ρ, Q => Q [] ρ
  | w :: r, ρ, Q => w ρ fun d ρ1 => wEs r ρ1 fun ds ρ' => Q (d :: ds) ρ'
def MonoEs : List WE → Prop
  | [] => True
  | w :: r => MonoE w ∧ MonoEs r
theorem MonoEs.run : ∀ {ws : List WE}, MonoEs ws → ∀ {ρ : Sls} {Q Q' : List PyData → Sls → Prop}, (∀ as ρ', Q as ρ' → Q' as ρ') → wEs ws ρ Q → wEs ws ρ Q'
  | [], _, _, _, _, f, h => f _ _ h
  | w :: r, m, ρ, _, _, f, h => m.1 ρ _ _ (fun d ρ1 q => MonoEs.run (ws := r) m.2 (fun _ _ q => f _ _ q) q) h
def liftEs (R : Res) (K : PySem.W.Frag) (B : Bs) (ws : List WE) : TA := fun σ H Q => ∃ ρ G, Rel R K B G ρ σ H ∧ wEs ws ρ fun ds ρ' => ∀ vs G' H', Sub G G' → Rel R K B G' ρ' σ H' → Iss K G' vs ds → Q vs H'
structure SEs (R : Res) (X : Cx) (es : List Expr) (ws : List WE) : Prop where
  pa : ∀ B, PA X es (liftEs R X.K B ws)
  mono : MonoEs ws
variable {ws : List WE}
theorem ses_nil : SEs R X [] [] := ⟨fun B => PA.imp pa_nil fun σ H Q ⟨ρ, G, r, q⟩ => q [] G H (Same.refl G) r .nil, trivial⟩
theorem ses_cons {w : WE} (h : SE R X e1 w) (ht : SEs R X es ws) (hs : starEach (e1 :: es) X.env = (false, eval e1 X.env) :: starEach es X.env := by rfl) : SEs R X (e1 :: es) (w :: ws) := by
  refine ⟨fun B => PA.imp (pa_cons (h.pe B) (ht.pa B) hs) fun σ H Q ⟨ρ, G, r, q⟩ => ?_, ⟨h.mono, ht.mono⟩⟩
  refine ⟨ρ, G, r, h.mono ρ _ _ (fun d ρ1 q v G1 H1 s1 r1 i1 => ?_) q⟩
  refine ⟨ρ1, G1, r1, ht.mono.run (fun as ρ2 q vs G2 H2 s2 r2 i2 => ?_) q⟩
  exact q (v :: vs) G2 H2 (s1.trans s2) r2 (.cons (i1.mono s2) i2)
/-! ### displays -/
@[simp] def wTup (ws : List WE) : WE := fun ρ Q => wEs ws ρ fun ds ρ' => ds.length ≤ sizeLine ∧ Q (.tuple ds) ρ'
@[simp] def wLst (ws : List WE) : WE := fun ρ Q => wEs ws ρ fun ds ρ' => ds.length ≤ sizeLine ∧ Q (.list ds) ρ'
theorem se_tup {k} (h : SEs R X es ws) : SE R X (.Tuple es k pos) (wTup ws) := by
  refine ⟨fun B => PE.imp (pe_tup (h.pa B)) fun σ H Q ⟨ρ, G, r, q⟩ => ⟨ρ, G, r, h.mono.run (fun ds ρ1 ⟨z, q⟩ vs G1 H1 s1 r1 i1 => ?_) q⟩, fun ρ Q Q' hq => h.mono.run fun ds ρ1 ⟨z, q⟩ => ⟨z, hq _ _ q⟩⟩
  refine ⟨by rw [i1.length]; exact z, fun p np => ?_⟩
  have sg : Sub G1 (upd G1 p (.tup vs)) := upd_new (r1.sub.free np)
  exact q _ _ _ (s1.trans sg) (r1.laid np) (.tup (.inl (.inl upd_same)) (i1.mono sg))
theorem se_lst (h : SEs R X es ws) : SE R X (.List es pos) (wLst ws) := by
  refine ⟨fun B => PE.imp (pe_lst (h.pa B)) fun σ H Q ⟨ρ, G, r, q⟩ => ⟨ρ, G, r, h.mono.run (fun ds ρ1 ⟨z, q⟩ vs G1 H1 s1 r1 i1 => ?_) q⟩, fun ρ Q Q' hq => h.mono.run fun ds ρ1 ⟨z, q⟩ => ⟨z, hq _ _ q⟩⟩
  refine ⟨by rw [i1.length]; exact z, fun p np => ?_⟩
  have sg : Sub G1 (upd G1 p (.lst vs)) := upd_new (r1.sub.free np)
  exact q _ _ _ (s1.trans sg) (r1.laid np) (.lst upd_same (i1.mono sg))
/-! ### a fresh cell -/
def IsNew (R : Res) (K : PySem.W.Frag) (B : Bs) (G : Hp) (σ : L2.St) (ρ : Sls) (H : Hp) (v : V) (x : PyData) : Prop :=
  ∃ a ho, v = .ref a ∧ G a = none ∧ B.H0 a = none ∧ H a = some ho ∧ Own1 K G ho x ∧ (∀ (j : Nat) (y : PyData), ρ[j]? = some (.own y) → σ[j]? ≠ some (some (.ref a))) ∧
    ∃ la fp, LoomAt R B G ρ σ H la fp ∧ a ∉ fp
def liftF (R : Res) (K : PySem.W.Frag) (B : Bs) (w : WE) : TE := fun σ H Q => ∃ ρ G, Rel R K B G ρ σ H ∧ w ρ fun d ρ' => ∀ v G' H', Sub G G' → Rel R K B G' ρ' σ H' → IsNew R K B G' σ ρ' H' v d → Q v H'
structure SF (R : Res) (X : Cx) (e : Expr) (w : WE) : Prop where
  pe : ∀ B, PE X e (liftF R X.K B w)
  mono : MonoE w
theorem IsNew.of {B : Bs} {K : PySem.W.Frag} {G : Hp} {ρ : Sls} {σ : L2.St} {H : Hp} {p : Addr} {o : HO} {x : PyData} (r : Rel R K B G ρ σ H) (np : H p = none) (h : Own1 K G o x) : IsNew R K B G σ ρ (upd H p o) (.ref p) x := by
  obtain ⟨la, fp, q⟩ := r.l
  have nb : ∀ b ∈ fp, b ≠ p := fun b hb z => (q.pf b hb).2.1 (by rw [z]; exact np)
  refine ⟨p, o, rfl, r.sub.free np, r.h0 np, upd_same, h, fun j y e z => ?_, la, fp, ⟨q.pl, fun z => R.loc H _ la fp (fun b hb => upd_ne (nb b hb)) (q.ok z), fun b hb => ?_, q.tie⟩, fun z => nb p z rfl⟩
  · obtain ⟨a, ho, e1, e2, e3, e4, _⟩ := r.o j y e
    rw [e1] at z
    cases z
    rw [np] at e4
    cases e4
  · rw [upd_ne (nb b hb)]
    exact q.pf b hb
theorem sf_lst (h : SEs R X es ws) : SF R X (.List es pos) (wLst ws) := by
  refine ⟨fun B => PE.imp (pe_lst (h.pa B)) fun σ H Q ⟨ρ, G, r, q⟩ => ⟨ρ, G, r, h.mono.run (fun ds ρ1 ⟨z, q⟩ vs G1 H1 s1 r1 i1 => ?_) q⟩, fun ρ Q Q' hq => h.mono.run fun ds ρ1 ⟨z, q⟩ => ⟨z, hq _ _ q⟩⟩
  refine ⟨by rw [i1.length]; exact z, fun p np => ?_⟩
  exact q _ _ _ s1 (r1.up np) (IsNew.of r1 np (.lst i1))
end
end DL
namespace DL
open PySem PySem.Spec L2
section
variable {R : Res} {K : PySem.W.Frag} {B : Bs} {G : Hp} {ρ : Sls} {σ : L2.St} {H : Hp}
theorem set_at {α : Type} {l : List α} {i j : Nat} {a b : α} (h : (l.set i a)[j]? = some b) : (i = j ∧ b = a) ∨ (i ≠ j ∧ l[j]? = some b) := by
  rw [List.getElem?_set] at h
  split at h
  · rename_i e
    split at h
    · exact .inl ⟨e, (Option.some.inj h).symm⟩
    · cases h
  · rename_i e
    exact .inr ⟨e, h⟩
theorem set_get {α : Type} {l : List α} {i j : Nat} {a : α} (h : i ≠ j) : (l.set i a)[j]? = l[j]? := List.getElem?_set_ne h
theorem Rel.setD (r : Rel R K B G ρ σ H) {i : Nat} {v : V} {d : PyData} (h : Is K G v d) : Rel R K B G (ρ.set i (.d d)) (σ.set i (some v)) H := by
  have own : ∀ (j : Nat) (y : PyData), (ρ.set i (.d d))[j]? = some (.own y) → i ≠ j ∧ ρ[j]? = some (.own y) := fun j y e => by
    rcases set_at e with ⟨_, z⟩ | z
    · cases z
    · exact z
  refine ⟨r.sub, by rw [List.length_set, List.length_set]; exact r.len, r.g0, r.new, r.fr, r.fp0, fun j y e => ?_, fun j y e => ?_, fun j y e => ?_, ?_⟩
  · rcases set_at e with ⟨z1, z2⟩ | ⟨z1, z2⟩
    · cases z2
      subst z1
      refine ⟨v, ?_, h⟩
      have hi : i < σ.length := by
        have := (List.getElem?_eq_some_iff.mp e).1
        rw [List.length_set, r.len] at this
        exact this
      rw [List.getElem?_set_self hi]
    · rw [set_get z1]
      exact r.d j y z2
  · rcases set_at e with ⟨z1, z2⟩ | ⟨z1, z2⟩
    · cases z2
    · rw [set_get z1]
      exact r.s j y z2
  · obtain ⟨n, e'⟩ := own j y e
    obtain ⟨a, ho, e1, e2, e3, e4, e5, e6⟩ := r.o j y e'
    rw [set_get n]
    refine ⟨a, ho, e1, e2, e3, e4, e5, fun k z h1 h2 => ?_⟩
    obtain ⟨n2, h1'⟩ := own k z h1
    rw [set_get n2] at h2
    exact e6 k z h1' h2
  · obtain ⟨la, fp, q⟩ := r.l
    have lo : ∀ (j : Nat), (ρ.set i (.d d))[j]? = some .loom → i ≠ j ∧ ρ[j]? = some .loom := fun j e => by
      rcases set_at e with ⟨_, z2⟩ | z
      · cases z2
      · exact z
    refine ⟨la, fp, fun j e => ?_, fun z => q.ok (z.imp (fun ⟨j, e⟩ => ⟨j, (lo j e).2⟩) id), fun b hb => ?_, q.tie⟩
    · rw [set_get (lo j e).1]
      exact q.pl j (lo j e).2
    · obtain ⟨z1, z0, z2, z3⟩ := q.pf b hb
      refine ⟨z1, z0, z2, fun j y e => ?_⟩
      obtain ⟨n, e'⟩ := own j y e
      rw [set_get n]
      exact z3 j y e'
theorem Rel.setO (r : Rel R K B G ρ σ H) {i : Nat} {v : V} {d : PyData} (h : IsNew R K B G σ ρ H v d) : Rel R K B G (ρ.set i (.own d)) (σ.set i (some v)) H := by
  obtain ⟨p, po, rfl, w1, w2, w3, w4, w5, la, fp, q, w6⟩ := h
  have lo : ∀ (j : Nat), (ρ.set i (.own d))[j]? = some .loom → i ≠ j ∧ ρ[j]? = some .loom := fun j e => by
    rcases set_at e with ⟨_, z2⟩ | z
    · cases z2
    · exact z
  refine ⟨r.sub, by rw [List.length_set, List.length_set]; exact r.len, r.g0, r.new, r.fr, r.fp0, fun j y e => ?_, fun j y e => ?_, fun j y e => ?_, la, fp, fun j e => ?_, fun z => q.ok (z.imp (fun ⟨j, e⟩ => ⟨j, (lo j e).2⟩) id), fun b hb => ?_, q.tie⟩
  · rcases set_at e with ⟨z1, z2⟩ | ⟨z1, z2⟩
    · cases z2
    · rw [set_get z1]
      exact r.d j y z2
  · rcases set_at e with ⟨z1, z2⟩ | ⟨z1, z2⟩
    · cases z2
    · rw [set_get z1]
      exact r.s j y z2
  · rcases set_at e with ⟨z1, z2⟩ | ⟨z1, z2⟩
    · cases z2
      subst z1
      have hi : i < σ.length := by
        have := (List.getElem?_eq_some_iff.mp e).1
        rw [List.length_set, r.len] at this
        exact this
      refine ⟨p, po, by rw [List.getElem?_set_self hi], w1, w2, w3, w4, fun k z h1 h2 => ?_⟩
      rcases set_at h1 with ⟨y1, y2⟩ | ⟨y1, y2⟩
      · exact y1.symm
      · rw [set_get y1] at h2
        exact absurd h2 (w5 k z y2)
    · obtain ⟨a, ho, e1, e2, e3, e4, e5, e6⟩ := r.o j y z2
      rw [set_get z1]
      refine ⟨a, ho, e1, e2, e3, e4, e5, fun k z h1 h2 => ?_⟩
      rcases set_at h1 with ⟨y1, y2⟩ | ⟨y1, y2⟩
      · subst y1
        have hi : i < σ.length := by
          have := (List.getElem?_eq_some_iff.mp h1).1
          rw [List.length_set, r.len] at this
          exact this
        rw [List.getElem?_set_self hi] at h2
        cases h2
        exact absurd e1 (w5 j y z2)
      · rw [set_get y1] at h2
        exact e6 k z y2 h2
  · rw [set_get (lo j e).1]
    exact q.pl j (lo j e).2
  · obtain ⟨z1, z0, z2, z3⟩ := q.pf b hb
    refine ⟨z1, z0, z2, fun j y e z => ?_⟩
    rcases set_at e with ⟨y1, y2⟩ | ⟨y1, y2⟩
    · subst y1
      have hi : i < σ.length := by
        have := (List.getElem?_eq_some_iff.mp e).1
        rw [List.length_set, r.len] at this
        exact this
      rw [List.getElem?_set_self hi] at z
      cases z
      exact w6 hb
    · rw [set_get y1] at z
      exact z3 j y y2 z
/-- slots forgotten -/
theorem Rel.weak (r : Rel R K B G ρ σ H) {ρ' : Sls} {σ' : L2.St} (hl : ρ'.length = σ'.length) (h : ∀ (i : Nat) (s : Sl), ρ'[i]? = some s → s = .un ∨ (ρ[i]? = some s ∧ σ'[i]? = σ[i]?)) : Rel R K B G ρ' σ' H := by
  have get : ∀ (i : Nat) (s : Sl), ρ'[i]? = some s → s ≠ .un → ρ[i]? = some s ∧ σ'[i]? = σ[i]? := fun i s e n => (h i s e).resolve_left n
  refine ⟨r.sub, hl, r.g0, r.new, r.fr, r.fp0, fun j y e => ?_, fun j y e => ?_, fun j y e => ?_, ?_⟩
  · obtain ⟨e1, e2⟩ := get j _ e nofun
    rw [e2]
    exact r.d j y e1
  · obtain ⟨e1, e2⟩ := get j _ e nofun
    rw [e2]
    exact r.s j y e1
  · obtain ⟨e1, e2⟩ := get j _ e nofun
    obtain ⟨a, ho, q1, q2, q3, q4, q5, q6⟩ := r.o j y e1
    rw [e2]
    refine ⟨a, ho, q1, q2, q3, q4, q5, fun k z h1 h2 => ?_⟩
    obtain ⟨h3, h4⟩ := get k _ h1 nofun
    rw [h4] at h2
    exact q6 k z h3 h2
  · obtain ⟨la, fp, q⟩ := r.l
    refine ⟨la, fp, fun j e => ?_, fun z => q.ok (z.imp (fun ⟨j, e⟩ => ⟨j, (get j _ e nofun).1⟩) id), fun b hb => ?_, q.tie⟩
    · obtain ⟨e1, e2⟩ := get j _ e nofun
      rw [e2]
      exact q.pl j e1
    · obtain ⟨z1, z0, z2, z3⟩ := q.pf b hb
      refine ⟨z1, z0, z2, fun j y e => ?_⟩
      obtain ⟨e1, e2⟩ := get j _ e nofun
      rw [e2]
      exact z3 j y e1
end
/-! ## statements -/
structure En where
  nx : Sls → Prop
  rt : PyData → Prop
  bk : Sls → Prop := fun _ => False
  ct : Sls → Prop := fun _ => False
abbrev WS := En → Sls → Prop
structure En.Le (D D' : En) : Prop where
  nx : ∀ ρ, D.nx ρ → D'.nx ρ
  rt : ∀ d, D.rt d → D'.rt d
  bk : ∀ ρ, D.bk ρ → D'.bk ρ
  ct : ∀ ρ, D.ct ρ → D'.ct ρ
def MonoS (w : WS) : Prop := ∀ (D D' : En) (ρ : Sls), D.Le D' → w D ρ → w D' ρ
def nxL (R : Res) (K : PySem.W.Frag) (B : Bs) (G : Hp) (q : L2.St → Hp → Prop) : Sls → Prop := fun ρ' => ∀ σ' G' H', Sub G G' → Rel R K B G' ρ' σ' H' → q σ' H'
def rtL (R : Res) (K : PySem.W.Frag) (B : Bs) (G : Hp) (q : VK) : PyData → Prop := fun d => ∀ v ρ' σ' G' H', Sub G G' → Rel R K B G' ρ' σ' H' → Is K G' v d → q v H'
def enL (R : Res) (K : PySem.W.Frag) (B : Bs) (G : Hp) (D : Ends) : En := ⟨nxL R K B G D.nx, rtL R K B G D.rt, nxL R K B G D.bk, nxL R K B G D.ct⟩
theorem nxL_le {R : Res} {K : PySem.W.Frag} {B : Bs} {G G' : Hp} {q : L2.St → Hp → Prop} (s : Sub G G') : ∀ ρ, nxL R K B G q ρ → nxL R K B G' q ρ := fun ρ h σ' G2 H2 s2 r => h σ' G2 H2 (s.trans s2) r
theorem rtL_le {R : Res} {K : PySem.W.Frag} {B : Bs} {G G' : Hp} {q : VK} (s : Sub G G') : ∀ d, rtL R K B G q d → rtL R K B G' q d := fun d h v ρ σ' G2 H2 s2 r i => h v ρ σ' G2 H2 (s.trans s2) r i
theorem enL_le {R : Res} {K : PySem.W.Frag} {B : Bs} {G G' : Hp} {D : Ends} (s : Sub G G') : (enL R K B G D).Le (enL R K B G' D) := ⟨nxL_le s, rtL_le s, nxL_le s, nxL_le s⟩
def liftS (R : Res) (K : PySem.W.Frag) (B : Bs) (w : WS) : TS := fun D σ H => ∃ ρ G, Rel R K B G ρ σ H ∧ w (enL R K B G D) ρ
structure SS (R : Res) (X : Cx) (st : Stmt) (w : WS) : Prop where
  ps : ∀ B, PS X st (liftS R X.K B w)
  mono : MonoS w
structure SSs (R : Res) (X : Cx) (st : List Stmt) (w : WS) : Prop where
  ps : ∀ B, PSs X st (liftS R X.K B w)
  mono : MonoS w
section
variable {R : Res} {X : Cx} {e : Expr} {st : Stmt} {sts : List Stmt} {w : WE} {ws wt : WS} {pos : Pos}
@[simp] def wNx : WS := fun D ρ => D.nx ρ
theorem sss_nil : SSs R X [] wNx := ⟨fun B => PSs.imp pss_nil fun D σ H ⟨ρ, G, r, q⟩ => q σ G H (Same.refl G) r, fun D D' ρ l h => l.nx ρ h⟩
@[simp] def wSeq (a b : WS) : WS := fun D ρ => a { D with nx := b D } ρ
theorem sss_cons (h : SS R X st ws) (t : SSs R X sts wt) : SSs R X (st :: sts) (wSeq ws wt) := by
  refine ⟨fun B => PSs.imp (pss_cons (h.ps B) (t.ps B)) fun D σ H ⟨ρ, G, r, q⟩ => ⟨ρ, G, r, h.mono { enL R X.K B G D with nx := wt (enL R X.K B G D) } _ ρ ⟨fun ρ1 q σ' G' H' s r' => ⟨ρ1, G', r', t.mono _ _ ρ1 (enL_le s) q⟩, fun _ h => h, fun _ h => h, fun _ h => h⟩ q⟩, fun D D' ρ l => h.mono _ _ ρ ⟨fun ρ1 q => t.mono _ _ ρ1 l q, l.rt, l.bk, l.ct⟩⟩
theorem sss_one (h : SS R X st ws) : SSs R X [st] ws := ⟨fun B => pss_one (h.ps B), h.mono⟩
@[simp] def wSet (i : Nat) (w : WE) : WS := fun D ρ => w ρ fun d ρ' => D.nx (ρ'.set i (.d d))
@[simp] def wSetO (i : Nat) (w : WE) : WS := fun D ρ => w ρ fun d ρ' => D.nx (ρ'.set i (.own d))
theorem mono_set {i : Nat} (m : MonoE w) : MonoS (wSet i w) := fun D D' ρ l => m ρ _ _ fun d ρ' q => l.nx _ q
theorem mono_setO {i : Nat} (m : MonoE w) : MonoS (wSetO i w) := fun D D' ρ l => m ρ _ _ fun d ρ' q => l.nx _ q
/-- name = e, e handed on -/
theorem ss_set {i : Nat} {x : Str} {pos' : Pos} (hN : X.N.Nodup) (hi : X.N[i]? = some x) (hx : Loc X.env.scope x) (he : SE R X e w) (hs : swapsWith e (some (.Name x pos')) pos.line X.env = pure false := by rfl) (hf : X.fn x = true ∨ X.env.scope.names.lookup x = some .local := by first | exact .inl rfl | exact .inr rfl | assumption) :
    SS R X (.Assign [.Name x pos'] e pos) (wSet i w) :=
  ⟨fun B => PS.imp (ps_set hN hi hx (he.pe B) hs hf) fun D σ H ⟨ρ, G, r, q⟩ => ⟨ρ, G, r, he.mono ρ _ _ (fun d ρ' q v G' H' s r' i => q _ G' H' s (r'.setD i)) q⟩, mono_set he.mono⟩
/-- name = e, e a fresh cell -/
theorem ss_setO {i : Nat} {x : Str} {pos' : Pos} (hN : X.N.Nodup) (hi : X.N[i]? = some x) (hx : Loc X.env.scope x) (he : SF R X e w) (hs : swapsWith e (some (.Name x pos')) pos.line X.env = pure false := by rfl) (hf : X.fn x = true ∨ X.env.scope.names.lookup x = some .local := by first | exact .inl rfl | exact .inr rfl | assumption) :
    SS R X (.Assign [.Name x pos'] e pos) (wSetO i w) :=
  ⟨fun B => PS.imp (ps_set hN hi hx (he.pe B) hs hf) fun D σ H ⟨ρ, G, r, q⟩ => ⟨ρ, G, r, he.mono ρ _ _ (fun d ρ' q v G' H' s r' i => q _ G' H' s (r'.setO i)) q⟩, mono_setO he.mono⟩
@[simp] def wRet (w : WE) : WS := fun D ρ => w ρ fun d _ => D.rt d
theorem ss_ret (he : SE R X e w) : SS R X (.Return (some e) pos) (wRet w) :=
  ⟨fun B => PS.imp (ps_ret (he.pe B)) fun D σ H ⟨ρ, G, r, q⟩ => ⟨ρ, G, r, he.mono ρ _ _ (fun d ρ' q v G' H' s r' i => q v ρ' σ G' H' s r' i) q⟩, fun D D' ρ l => he.mono ρ _ _ fun d _ q => l.rt d q⟩
@[simp] def wRetN : WS := fun D _ => D.rt .none
theorem ss_retN : SS R X (.Return none pos) wRetN :=
  ⟨fun B => PS.imp ps_retN fun D σ H ⟨ρ, G, r, q⟩ => q _ ρ σ G H (Same.refl G) r .non, fun D D' ρ l => l.rt _⟩
@[simp] def wDrop (w : WE) : WS := fun D ρ => w ρ fun _ ρ' => D.nx ρ'
theorem ss_expr (he : SE R X e w) (hs : swapsWith e none pos.line X.env = pure false := by rfl) : SS R X (.Expr e pos) (wDrop w) :=
  ⟨fun B => PS.imp (ps_expr (he.pe B) hs) fun D σ H ⟨ρ, G, r, q⟩ => ⟨ρ, G, r, he.mono ρ _ _ (fun d ρ' q v G' H' s r' i => q σ G' H' s r') q⟩, fun D D' ρ l => he.mono ρ _ _ fun d ρ' q => l.nx _ q⟩
@[simp] def wIfS (t : WT) (a b : WS) : WS := fun D ρ => t ρ fun c ρ1 => if c = true then a D ρ1 else b D ρ1
theorem ss_if {c : Expr} {as bs : List Stmt} {t : WT} (hc : ST R X c t) (ha : SSs R X as ws) (hb : SSs R X bs wt) : SS R X (.If c as bs pos) (wIfS t ws wt) := by
  refine ⟨fun B => PS.imp (ps_if (hc.pt B) (ha.ps B) (hb.ps B)) fun D σ H ⟨ρ, G, r, q⟩ => ⟨ρ, G, r, hc.mono ρ _ _ (fun c ρ1 q G' H' s r' => ?_) q⟩, fun D D' ρ l => hc.mono ρ _ _ fun c ρ1 q => ?_⟩
  · cases c with
    | true => exact ⟨ρ1, G', r', ha.mono _ _ ρ1 (enL_le s) q⟩
    | false => exact ⟨ρ1, G', r', hb.mono _ _ ρ1 (enL_le s) q⟩
  · cases c with
    | true => exact ha.mono _ _ ρ1 l q
    | false => exact hb.mono _ _ ρ1 l q
theorem ss_pass : SS R X (.Pass pos) wNx := ⟨fun B => PS.imp ps_pass fun D σ H ⟨ρ, G, r, q⟩ => q σ G H (Same.refl G) r, fun D D' ρ l h => l.nx ρ h⟩
def wBk : WS := fun D ρ => D.bk ρ
def wCt : WS := fun D ρ => D.ct ρ
theorem ss_break : SS R X (.Break pos) wBk := ⟨fun B => PS.imp ps_break fun D σ H ⟨ρ, G, r, q⟩ => q σ G H (Same.refl G) r, fun D D' ρ l h => l.bk ρ h⟩
theorem ss_continue : SS R X (.Continue pos) wCt := ⟨fun B => PS.imp ps_continue fun D σ H ⟨ρ, G, r, q⟩ => q σ G H (Same.refl G) r, fun D D' ρ l h => l.ct ρ h⟩
theorem ss_doc {x j pos pos'} : SS R X (.Expr (.Constant (.str x) j pos) pos') wNx := ⟨fun B => PS.imp ps_doc fun D σ H ⟨ρ, G, r, q⟩ => q σ G H (Same.refl G) r, fun D D' ρ l h => l.nx ρ h⟩
end
end DL
namespace DL
open PySem PySem.Spec L2
/-! ## what loops go through -/
structure ItD (K : PySem.W.Frag) (G : Hp) (J : It) (xs : List PyData) : Prop where
  go : ∀ i H, i < xs.length → Sub G H → J.go i H
  stop : ∀ H, Sub G H → J.stop xs.length H
  yld : ∀ (i : Nat) H v H' x, xs[i]? = some x → Sub G H → J.yld i H v H' → (H' = H ∧ Is K G v x) ∨ ∃ T vs ds, H T = none ∧ H' = upd H T (.tup vs) ∧ v = .ref T ∧ Iss K G vs ds ∧ x = .tuple ds
theorem ItD.mono {K : PySem.W.Frag} {G G' : Hp} {J : It} {xs : List PyData} (h : ItD K G J xs) (s : Sub G G') : ItD K G' J xs :=
  ⟨fun i H hi q => h.go i H hi (s.trans q), fun H q => h.stop H (s.trans q), fun i H v H' x e q y => (h.yld i H v H' x e (s.trans q) y).imp (fun ⟨a, b⟩ => ⟨a, b.mono s⟩) fun ⟨T, vs, ds, a, b, c, d, f⟩ => ⟨T, vs, ds, a, b, c, d.mono s, f⟩⟩
abbrev WI := Sls → (List PyData → Sls → Prop) → Prop
def liftI (R : Res) (K : PySem.W.Frag) (B : Bs) (w : WI) : TI := fun σ H q => ∃ ρ G, Rel R K B G ρ σ H ∧ w ρ fun xs ρ' => ∀ J G' H', Sub G G' → Rel R K B G' ρ' σ H' → ItD K G' J xs → q J H'
def MonoI (w : WI) : Prop := ∀ (ρ : Sls) (Q Q' : List PyData → Sls → Prop), (∀ d ρ', Q d ρ' → Q' d ρ') → w ρ Q → w ρ Q'
structure SI (R : Res) (X : Cx) (tg e : Expr) (w : WI) : Prop where
  pi : ∀ B, PI X tg e (liftI R X.K B w)
  mono : MonoI w
/-- signs of a text -/
def signs (z : Str) : List PyData := z.cps.toList.map fun c => .str ⟨#[c]⟩
@[simp] def seqD : PyData → Option (List PyData)
  | .list ds => some ds
  | .tuple ds => some ds
  | .str z => some (signs z)
  | _ => none
section
variable {R : Res} {X : Cx} {tg e : Expr}
theorem itd_list {K : PySem.W.Frag} {G : Hp} {a : Addr} {vs : List V} {ds : List PyData} (s : G a = some (.lst vs)) (h : Iss K G vs ds) : ItD K G (Itl K a) ds :=
  ⟨fun i H hi q => by
      obtain ⟨v, e, _⟩ := h.get (List.getElem?_eq_getElem hi)
      exact ⟨vs, v, .of (q _ _ s), e⟩,
    fun H q => ⟨vs, .of (q _ _ s), Nat.le_of_eq h.length⟩,
    fun i H v H' x e q y => by
      obtain ⟨u, e1, e2⟩ := h.get e
      have e3 := y.2 vs (.of (q _ _ s))
      rw [e1] at e3
      cases e3
      exact .inl ⟨y.1, e2⟩⟩
theorem itd_tup {K : PySem.W.Frag} {G : Hp} {a : Addr} {vs : List V} {ds : List PyData} (s : SqT K G a vs) (h : Iss K G vs ds) : ItD K G (Itt K a) ds :=
  ⟨fun i H hi q => by
      obtain ⟨v, e, _⟩ := h.get (List.getElem?_eq_getElem hi)
      exact ⟨vs, v, Sub.seqT q s, e⟩,
    fun H q => ⟨vs, Sub.seqT q s, Nat.le_of_eq h.length⟩,
    fun i H v H' x e q y => by
      obtain ⟨u, e1, e2⟩ := h.get e
      have e3 := y.2 vs (Sub.seqT q s)
      rw [e1] at e3
      cases e3
      exact .inl ⟨y.1, e2⟩⟩
theorem signs_length (z : Str) : (signs z).length = z.cps.size := by
  unfold signs
  rw [List.length_map, Array.length_toList]
theorem signs_get {z : Str} {i : Nat} {x : PyData} (h : (signs z)[i]? = some x) : ∃ c, z.cps[i]? = some c ∧ x = .str ⟨#[c]⟩ := by
  unfold signs at h
  rw [List.getElem?_map, Array.getElem?_toList] at h
  cases q : z.cps[i]? with
  | none => rw [q] at h; cases h
  | some c => rw [q] at h; cases h; exact ⟨c, rfl, rfl⟩
theorem itd_str {K : PySem.W.Frag} {G : Hp} {z : Str} : ItD K G (Its z) (signs z) :=
  ⟨fun i H hi q => by rw [signs_length] at hi; exact hi, fun H q => by rw [signs_length]; exact Nat.le_refl _, fun i H v H' x e q y => by
    obtain ⟨c, e1, rfl⟩ := signs_get e
    obtain ⟨y1, c', y2, rfl⟩ := y
    rw [e1] at y2
    cases y2
    exact .inl ⟨y1, .str _⟩⟩
@[simp] def wI (w : WE) : WI := fun ρ Q => w ρ fun d ρ' => ∃ xs, seqD d = some xs ∧ Q xs ρ'
/-- a list, a tuple, a text gone through -/
theorem si_seq {w : WE} (he : SE R X e w) : SI R X tg e (wI w) := by
  refine ⟨fun B => ⟨fun pins s σ H q I ⟨ρ, G, r, h⟩ => ?_⟩, fun ρ Q Q' hq => he.mono ρ _ _ fun d ρ' ⟨xs, e, q⟩ => ⟨xs, e, hq _ _ q⟩⟩
  have h' : liftE R X.K B w σ H fun v H1 => ∃ d xs ρ' G', Rel R X.K B G' ρ' σ H1 ∧ Is X.K G' v d ∧ seqD d = some xs ∧ ∀ J, ItD X.K G' J xs → q J H1 :=
    ⟨ρ, G, r, he.mono ρ _ _ (fun d ρ' ⟨xs, e, k⟩ v G' H' s r' i => ⟨d, xs, ρ', G', r', i, e, fun J j => k J G' H' s r' j⟩) h⟩
  refine thn ((he.pe B).run pins s σ H _ I h') fun v s1 ⟨x, H1, I1, r1, d, xs, ρ', G', rl, i, e, k⟩ => ?_
  have fresh : ∀ b ∈ [s1.heap.objs.size], FpOk X pins H1 b := fun b hb => by
    rw [List.mem_singleton.mp hb]
    exact I1.fpOk (Nat.le_refl _) (I1.hok.fresh (Nat.le_refl _))
  have keeps : ∀ o, Inv X pins σ H1 { s1 with heap := s1.heap.push o } := fun o => I1.kept (t' := s1.toks) fun b u q => Heap.get?_push_of_some _ q
  cases i with
  | lst sa ha =>
    cases e
    cases r1
    obtain ⟨its, rv, p, hz⟩ := I1.list (SqL.of (rl.sub _ _ sa))
    refine wpAny_pyIter_list p.isList ⟨_, _, _, _, H1, rfl, keeps _, turn_list _ _, ⟨_, Heap.get?_push_size _ rfl, rfl, rfl⟩, fresh, k _ (itd_list sa ha)⟩
  | tup sa ha =>
    cases e
    cases r1
    obtain ⟨its, rv, p, hz⟩ := I1.tuple (Sub.seqT rl.sub sa)
    refine wpAny_pyIter_tuple (show s1.heap.IsTuple _ its.toArray from p) ⟨_, _, _, _, H1, rfl, keeps _, turn_tuple _ _, ⟨_, Heap.get?_push_size _ rfl, rfl, rfl⟩, fresh, k _ (itd_tup sa ha)⟩
  | str z =>
    cases e
    obtain ⟨t, rfl⟩ := r1
    cases hz : z.cps.all (· < 128) with
    | false => exact wpAny_pyIter_wide hz ⟨_, _, _, _, H1, rfl, keeps _, turn_str _ z t "str_iterator" (.inr rfl), ⟨_, Heap.get?_push_size _ rfl, rfl, rfl⟩, fresh, k _ itd_str⟩
    | true => exact wpAny_pyIter_ascii hz ⟨_, _, _, _, H1, rfl, keeps _, turn_str _ z t "str_ascii_iterator" (.inl rfl), ⟨_, Heap.get?_push_size _ rfl, rfl, rfl⟩, fresh, k _ itd_str⟩
  | non => cases e
  | bl _ => cases e
  | int _ => cases e
  | dct _ _ => cases e
/-! ### ranges -/
def rngD (lo : Int) (n : Nat) : List PyData := (List.range n).map fun i => .int (lo + (i : Nat))
theorem rngD_length (lo : Int) (n : Nat) : (rngD lo n).length = n := by
  unfold rngD
  rw [List.length_map, List.length_range]
theorem itd_rng {K : PySem.W.Frag} {G : Hp} {lo : Int} {n : Nat} : ItD K G (Itr lo n) (rngD lo n) :=
  ⟨fun i H hi q => by rw [rngD_length] at hi; exact hi, fun H q => by rw [rngD_length]; exact Nat.le_refl _, fun i H v H' x e q y => by
    obtain ⟨y1, rfl⟩ := y
    unfold rngD at e
    rw [List.getElem?_map] at e
    cases z : (List.range n)[i]? with
    | none => rw [z] at e; cases e
    | some j =>
      rw [z] at e
      cases e
      have : j = i := by
        rw [List.getElem?_range] at z
        · cases z
          rfl
        · have := (List.getElem?_eq_some_iff.mp z).1
          rw [List.length_range] at this
          exact this
      subst this
      exact .inl ⟨y1, .int _⟩⟩
def Fit62 (i : Int) : Prop := -(2 ^ 62) ≤ i ∧ i < 2 ^ 62
@[simp] def wRng1 (w : WE) : WI := fun ρ Q => w ρ fun d ρ' => ∃ n, d = .int n ∧ Fit62 n ∧ Q (rngD 0 n.toNat) ρ'
@[simp] def wRng2 (w u : WE) : WI := fun ρ Q => w ρ fun d ρ1 => u ρ1 fun d' ρ' => ∃ n m, d = .int n ∧ d' = .int m ∧ Fit62 n ∧ Fit62 m ∧ Q (rngD n (m - n).toNat) ρ'
theorem Is.intV {K : PySem.W.Frag} {G : Hp} {v : V} {n : Int} (h : Is K G v (.int n)) : v = .int n := by cases h; rfl
theorem si_rng1 {w : WE} {p pos : Pos} (hg : Gl X "range") (hm : X.mg "range" = none) (he : SE R X e w) (hs : starEach [e] X.env = [(false, eval e X.env)] := by rfl) : SI R X tg (.Call (.Name "range" p) [e] [] pos) (wRng1 w) := by
  have h1 : SEs R X [e] [w] := ses_cons he ses_nil (by rw [hs]; rfl)
  refine ⟨fun B => ⟨fun pins s σ H q I ⟨ρ, G, r, h⟩ => (pi_range1 hg hm (h1.pa B) hs).run pins s σ H q I ?_⟩, fun ρ Q Q' hq => he.mono ρ _ _ fun d ρ' ⟨n, e, f, q⟩ => ⟨n, e, f, hq _ _ q⟩⟩
  refine ⟨ρ, G, r, he.mono ρ _ _ (fun d ρ' ⟨n, e, f, k⟩ => fun vs G' H' s r' i => ?_) h⟩
  subst e
  cases i with
  | cons i1 i2 =>
    cases i2
    cases i1
    exact ⟨n, rfl, f.1, f.2, k _ G' H' s r' itd_rng⟩
theorem si_rng2 {e2 : Expr} {w u : WE} {p pos : Pos} (hg : Gl X "range") (hm : X.mg "range" = none) (he : SE R X e w) (hu : SE R X e2 u) (hs : starEach [e, e2] X.env = [(false, eval e X.env), (false, eval e2 X.env)] := by rfl) (hs2 : starEach [e2] X.env = [(false, eval e2 X.env)] := by rfl) :
    SI R X tg (.Call (.Name "range" p) [e, e2] [] pos) (wRng2 w u) := by
  have h1 : SEs R X [e, e2] [w, u] := ses_cons he (ses_cons hu ses_nil (by rw [hs2]; rfl)) (by rw [hs, hs2])
  refine ⟨fun B => ⟨fun pins s σ H q I ⟨ρ, G, r, h⟩ => (pi_range2 hg hm (h1.pa B) hs hs2).run pins s σ H q I ?_⟩, fun ρ Q Q' hq => he.mono ρ _ _ fun d ρ1 => hu.mono ρ1 _ _ fun d' ρ' ⟨n, m, a, b, c, f, q⟩ => ⟨n, m, a, b, c, f, hq _ _ q⟩⟩
  refine ⟨ρ, G, r, he.mono ρ _ _ (fun d ρ1 => hu.mono ρ1 _ _ fun d' ρ' ⟨n, m, a, b, c, f, k⟩ => fun vs G' H' s r' i => ?_) h⟩
  subst a b
  cases i with
  | cons i1 i2 =>
    cases i2 with
    | cons i3 i4 =>
      cases i4
      cases i1
      cases i3
      exact ⟨n, m, rfl, ⟨c.1, c.2, f.1, f.2⟩, k _ G' H' s r' itd_rng⟩
end
/-! ## targets -/
abbrev WG := PyData → Sls → (Sls → Prop) → Prop
def MonoG (g : WG) : Prop := ∀ (d : PyData) (ρ : Sls) (Q Q' : Sls → Prop), (∀ ρ', Q ρ' → Q' ρ') → g d ρ Q → g d ρ Q'
/-- slots but these stand as they stood -/
def Off (is : List Nat) (σ σ' : L2.St) : Prop := σ'.length = σ.length ∧ ∀ i, i ∉ is → σ'[i]? = σ[i]?
theorem Off.refl (is : List Nat) (σ : L2.St) : Off is σ σ := ⟨rfl, fun _ _ => rfl⟩
theorem Off.trans {is js : List Nat} {a b c : L2.St} (h : Off is a b) (k : Off js b c) : Off (is ++ js) a c :=
  ⟨k.1.trans h.1, fun i n => by
    rw [List.mem_append, not_or] at n
    rw [k.2 i n.2, h.2 i n.1]⟩
/-- the reading of a target, of data that stays -/
structure SG (R : Res) (X : Cx) (tg : Expr) (t : TG) (g : WG) (is : List Nat) : Prop where
  pg : PG X tg t
  to : ∀ (B : Bs) (ρ : Sls) (G : Hp) (σ : L2.St) (H : Hp) (v : V) (d : PyData) (q : L2.St → Hp → Prop), Rel R X.K B G ρ σ H → Is X.K G v d → (g d ρ fun ρ' => ∀ σ' G' H', Off is σ σ' → Sub G G' → Rel R X.K B G' ρ' σ' H' → q σ' H') → t v σ H q
  mono : MonoG g
structure SGs (R : Res) (X : Cx) (ts : List Expr) (t : TGs) (g : List PyData → Sls → (Sls → Prop) → Prop) (is : List Nat) : Prop where
  pg : PGs X ts t
  to : ∀ (B : Bs) (ρ : Sls) (G : Hp) (σ : L2.St) (H : Hp) (vs : List V) (ds : List PyData) (q : L2.St → Hp → Prop), Rel R X.K B G ρ σ H → Iss X.K G vs ds → (g ds ρ fun ρ' => ∀ σ' G' H', Off is σ σ' → Sub G G' → Rel R X.K B G' ρ' σ' H' → q σ' H') → t vs σ H q
  mono : ∀ (d : List PyData) (ρ : Sls) (Q Q' : Sls → Prop), (∀ ρ', Q ρ' → Q' ρ') → g d ρ Q → g d ρ Q'
section
variable {R : Res} {X : Cx} {pos : Pos}
@[simp] def wgName (i : Nat) : WG := fun d ρ Q => Q (ρ.set i (.d d))
theorem sg_name {i : Nat} {x : Str} (h : PG X (.Name x pos) (gName i)) : SG R X (.Name x pos) (gName i) (wgName i) [i] :=
  ⟨h, fun B ρ G σ H v d q r i' k => k _ G H ⟨List.length_set, fun j n => set_get fun e => n (by simp [e])⟩ (Same.refl G) (r.setD i'), fun d ρ Q Q' h q => h _ q⟩
@[simp] def wgNil : List PyData → Sls → (Sls → Prop) → Prop := fun ds ρ Q => ds = [] ∧ Q ρ
@[simp] def wgCons (g : WG) (u : List PyData → Sls → (Sls → Prop) → Prop) : List PyData → Sls → (Sls → Prop) → Prop := fun ds ρ Q => ∃ d r, ds = d :: r ∧ g d ρ fun ρ' => u r ρ' Q
theorem sgs_nil : SGs R X [] gNil wgNil [] := ⟨pgs_nil, fun B ρ G σ H vs ds q r i ⟨e, k⟩ => by
  subst e
  cases i
  exact ⟨rfl, k σ G H (Off.refl _ σ) (Same.refl G) r⟩, fun d ρ Q Q' h ⟨e, q⟩ => ⟨e, h _ q⟩⟩
theorem sgs_cons {e : Expr} {es : List Expr} {t : TG} {u : TGs} {g : WG} {gs : List PyData → Sls → (Sls → Prop) → Prop} {is js : List Nat} (h1 : SG R X e t g is) (h2 : SGs R X es u gs js) (hs : (assignEach (e :: es) X.env).map (·.2) = assign e X.env :: (assignEach es X.env).map (·.2) := by rfl) :
    SGs R X (e :: es) (gCons t u) (wgCons g gs) (is ++ js) := by
  refine ⟨pgs_cons h1.pg h2.pg hs, fun B ρ G σ H vs ds q r i ⟨d, ds', e, k⟩ => ?_, fun ds ρ Q Q' hq ⟨d, r, e, q⟩ => ⟨d, r, e, h1.mono d ρ _ _ (fun ρ' q => h2.mono r ρ' _ _ hq q) q⟩⟩
  subst e
  cases i with
  | cons i1 i2 =>
    refine ⟨_, _, rfl, h1.to B ρ G σ H _ d _ r i1 (h1.mono d ρ _ _ (fun ρ' k σ' G' H' o s r' => ?_) k)⟩
    exact h2.to B ρ' G' σ' H' _ ds' q r' (i2.mono s) (h2.mono ds' ρ' _ _ (fun ρ2 k σ2 G2 H2 o2 s2 r2 => k σ2 G2 H2 (o.trans o2) (s.trans s2) r2) k)
@[simp] def wgTup (n : Nat) (g : List PyData → Sls → (Sls → Prop) → Prop) : WG := fun d ρ Q => ∃ ds, d = .tuple ds ∧ ds.length = n ∧ g ds ρ Q
theorem sg_tup {es : List Expr} {k : Nat} {t : TGs} {g : List PyData → Sls → (Sls → Prop) → Prop} {n : Nat} {is : List Nat} (hc : X.calm = true) (h : SGs R X es t g is) (hn : (assignEach es X.env).length = n := by rfl) (hst : (assignEach es X.env).findIdx? (·.1) = none := by rfl) :
    SG R X (.Tuple es k pos) (gTup X.K n t) (wgTup n g) is := by
  refine ⟨pg_tup hc h.pg hn hst, fun B ρ G σ H v d q r i ⟨ds, e, l, k⟩ => ?_, fun d ρ Q Q' hq ⟨ds, e, l, q⟩ => ⟨ds, e, l, h.mono ds ρ _ _ hq q⟩⟩
  subst e
  cases i with
  | tup sa ha => exact ⟨_, _, rfl, Sub.seqT r.sub sa, by rw [ha.length]; exact l, h.to B ρ G σ H _ ds q r ha k⟩
/-! ## for -/
def wLoop (g : WG) (b : WS) : List PyData → WS
  | [], D, ρ => D.nx ρ
  | x :: xs, D, ρ => g x ρ fun ρ1 => b { D with nx := wLoop g b xs D, ct := wLoop g b xs D, bk := D.nx } ρ1
theorem mono_loop {g : WG} {b : WS} (mg : MonoG g) (mb : MonoS b) : ∀ xs, MonoS (wLoop g b xs)
  | [], D, D', ρ, l, h => l.nx ρ h
  | x :: xs, D, D', ρ, l, h => mg x ρ _ _ (fun ρ1 q => mb { D with nx := wLoop g b xs D, ct := wLoop g b xs D, bk := D.nx } _ ρ1 ⟨fun ρ2 => mono_loop mg mb xs D D' ρ2 l, l.rt, l.nx, fun ρ2 => mono_loop mg mb xs D D' ρ2 l⟩ q) h
@[simp] def wFor (wi : WI) (g : WG) (b : WS) : WS := fun D ρ => wi ρ fun xs ρ1 => wLoop g b xs D ρ1
theorem ss_for {tg iter : Expr} {body : List Stmt} {wi : WI} {t : TG} {g : WG} {b : WS} (hp : PassesOwn (model X.prog X.w) X.A X.env X.xe) (hc : X.calm = true) (hi : SI R X tg iter wi) {is : List Nat} (hg : SG R X tg t g is) (hb : SSs R X body b)
    (hs : ∀ x, foldedSetIterable iter X.env x = pure x := by intro _; rfl) : SS R X (.For tg iter body [] pos) (wFor wi g b) := by
  refine ⟨fun B => PS.imp (ps_for hp hc (hi.pi B) hg.pg (hb.ps B) hs) fun D σ H ⟨ρ, G, r, q⟩ => ⟨ρ, G, r, hi.mono ρ _ _ (fun xs ρ1 q J G1 H1 s1 r1 j => ?_) q⟩, fun D D' ρ l => hi.mono ρ _ _ fun xs ρ1 q => mono_loop hg.mono hb.mono xs D D' ρ1 l q⟩
  refine ⟨fun i m σ' H' => m = xs.length - i ∧ i ≤ xs.length ∧ ∃ ρ' G', Sub G1 G' ∧ Rel R X.K B G' ρ' σ' H' ∧ wLoop g b (xs.drop i) (enL R X.K B G D) ρ', ⟨xs.length, rfl, Nat.zero_le _, ρ1, G1, Same.refl G1, r1, q⟩, ?_⟩
  rintro i m σ' H' ⟨rfl, hle, ρ', G', s', r', k⟩
  by_cases hlt : i < xs.length
  · refine .inr ⟨j.go i H' hlt (s'.trans r'.sub), fun σ2 H2 => ∃ ρ2 G2, Sub G1 G2 ∧ Rel R X.K B G2 ρ2 σ2 H2 ∧ wLoop g b (xs.drop (i + 1)) (enL R X.K B G D) ρ2, fun σ2 H2 n2 => ⟨xs.length - (i + 1), by omega, rfl, hlt, n2⟩, fun v H2 y => ?_⟩
    rw [List.drop_eq_getElem_cons hlt] at k
    have step : ∀ G2, Sub G' G2 → Rel R X.K B G2 ρ' σ' H2 → Is X.K G2 v xs[i] → t v σ' H2 fun σ3 H3 => liftS R X.K B b { D with nx := fun σ4 H4 => ∃ ρ4 G4, Sub G1 G4 ∧ Rel R X.K B G4 ρ4 σ4 H4 ∧ wLoop g b (xs.drop (i + 1)) (enL R X.K B G D) ρ4, ct := fun σ4 H4 => ∃ ρ4 G4, Sub G1 G4 ∧ Rel R X.K B G4 ρ4 σ4 H4 ∧ wLoop g b (xs.drop (i + 1)) (enL R X.K B G D) ρ4, bk := D.nx } σ3 H3 := fun G2 s2 r2 i2 => by
      refine hg.to B ρ' G2 σ' H2 v _ _ r2 i2 (hg.mono _ ρ' _ _ (fun ρ3 q3 σ3 G3 H3 _ s3 r3 => ⟨ρ3, G3, r3, hb.mono _ _ ρ3 ⟨fun ρ4 q4 σ4 G4 H4 s4 r4 => ⟨ρ4, G4, ((s'.trans s2).trans s3).trans s4, r4, q4⟩, fun d q4 v4 ρ4 σ4 G4 H4 s4 r4 i4 => ?_, fun ρ4 q4 σ4 G4 H4 s4 r4 => ?_, fun ρ4 q4 σ4 G4 H4 s4 r4 => ⟨ρ4, G4, ((s'.trans s2).trans s3).trans s4, r4, q4⟩⟩ q3⟩) k)
      · exact q4 v4 ρ4 σ4 G4 H4 ((((s1.trans s').trans s2).trans s3).trans s4) r4 i4
      · exact q4 σ4 G4 H4 ((((s1.trans s').trans s2).trans s3).trans s4) r4
    rcases j.yld i H' v H2 xs[i] (List.getElem?_eq_getElem hlt) (s'.trans r'.sub) y with ⟨rfl, iv⟩ | ⟨T, vs, ds, nT, rfl, rfl, hv, ex⟩
    · exact step G' (Same.refl G') r' (iv.mono s')
    · have sg : Sub G' (upd G' T (.tup vs)) := upd_new (r'.sub.free nT)
      refine step _ sg (r'.laid nT) ?_
      rw [ex]
      exact .tup (.inl (.inl upd_same)) (hv.mono (s'.trans sg))
  · have e : i = xs.length := by omega
    subst e
    rw [List.drop_length] at k
    exact .inl ⟨j.stop H' (s'.trans r'.sub), k σ' G' H' (s1.trans s') r'⟩
end
end DL
namespace DL
open PySem PySem.Spec L2
/-! ## while -/
def wWhN (t : WT) (b : WS) : Nat → WS
  | 0, _, _ => False
  | n + 1, D, ρ => t ρ fun c ρ1 => if c = true then b { D with nx := wWhN t b n D, ct := wWhN t b n D, bk := D.nx } ρ1 else D.nx ρ1
def wWh (t : WT) (b : WS) : WS := fun D ρ => ∃ n, wWhN t b n D ρ
theorem mono_whN {t : WT} {b : WS} (mt : MonoT t) (mb : MonoS b) : ∀ n, MonoS (wWhN t b n)
  | 0, D, D', ρ, l, h => h
  | n + 1, D, D', ρ, l, h => mt ρ _ _ (fun c ρ1 q => by
    cases c with
    | true => exact mb { D with nx := wWhN t b n D, ct := wWhN t b n D, bk := D.nx } _ ρ1 ⟨fun ρ2 => mono_whN mt mb n D D' ρ2 l, l.rt, l.nx, fun ρ2 => mono_whN mt mb n D D' ρ2 l⟩ q
    | false => exact l.nx ρ1 q) h
section
variable {R : Res} {X : Cx} {pos : Pos}
theorem ss_while {c : Expr} {body : List Stmt} {t : WT} {b : WS} (hp : PassesOwn (model X.prog X.w) X.A X.env X.xe) (hc : ST R X c t) (hb : SSs R X body b) : SS R X (.While c body [] pos) (wWh t b) := by
  refine ⟨fun B => PS.imp (ps_while hp (hc.pt B) (hb.ps B)) fun D σ H ⟨ρ, G, r, n, q⟩ => ?_, fun D D' ρ l ⟨n, q⟩ => ⟨n, mono_whN hc.mono hb.mono n D D' ρ l q⟩⟩
  refine ⟨fun m σ' H' => ∃ ρ' G', Sub G G' ∧ Rel R X.K B G' ρ' σ' H' ∧ wWhN t b m (enL R X.K B G D) ρ', ⟨n, ρ, G, Same.refl G, r, q⟩, fun m σ1 H1 ⟨ρ1, G1, s1, r1, q1⟩ => ?_⟩
  cases m with
  | zero => exact q1.elim
  | succ m =>
    refine ⟨ρ1, G1, r1, hc.mono ρ1 _ _ (fun c ρ2 q2 G2 H2 s2 r2 => ?_) q1⟩
    cases c with
    | false => exact q2 σ1 G2 H2 (s1.trans s2) r2
    | true =>
      refine ⟨fun σ3 H3 => ∃ ρ3 G3, Sub G G3 ∧ Rel R X.K B G3 ρ3 σ3 H3 ∧ wWhN t b m (enL R X.K B G D) ρ3, fun σ3 H3 q3 => ⟨m, Nat.lt_succ_self m, q3⟩, ρ2, G2, r2, ?_⟩
      refine hb.mono { enL R X.K B G D with nx := wWhN t b m (enL R X.K B G D), ct := wWhN t b m (enL R X.K B G D), bk := (enL R X.K B G D).nx } _ ρ2 ⟨fun ρ3 q3 σ3 G3 H3 s3 r3 => ⟨ρ3, G3, (s1.trans s2).trans s3, r3, q3⟩, fun d q3 v ρ3 σ3 G3 H3 s3 r3 i3 => q3 v ρ3 σ3 G3 H3 ((s1.trans s2).trans s3) r3 i3, fun ρ3 q3 σ3 G3 H3 s3 r3 => q3 σ3 G3 H3 ((s1.trans s2).trans s3) r3, fun ρ3 q3 σ3 G3 H3 s3 r3 => ⟨ρ3, G3, (s1.trans s2).trans s3, r3, q3⟩⟩ q2
end
/-! ## comprehensions -/
/-- the block's own slots -/
@[simp] def wipS (ρ : Sls) : List Nat → Sls
  | [] => ρ
  | v :: vs => (wipS ρ vs).set v .un
theorem wipS_length (ρ : Sls) : ∀ vs, (wipS ρ vs).length = ρ.length
  | [] => rfl
  | v :: vs => by
    unfold wipS
    rw [List.length_set, wipS_length ρ vs]
theorem wipS_get {ρ : Sls} {i : Nat} {s : Sl} : ∀ {vs : List Nat}, (wipS ρ vs)[i]? = some s → s = .un ∨ (i ∉ vs ∧ ρ[i]? = some s)
  | [], h => .inr ⟨by simp, h⟩
  | v :: vs, h => by
    unfold wipS at h
    rcases set_at h with ⟨_, z⟩ | ⟨n, z⟩
    · exact .inl z
    · rcases wipS_get z with q | ⟨q1, q2⟩
      · exact .inl q
      · exact .inr ⟨by simp only [List.mem_cons, not_or]; exact ⟨fun e => n e.symm, q1⟩, q2⟩
/-- behind the block: the own slots as they were (data), the others as the block leaves them -/
def backS (ρ ρ' : Sls) (vs : List Nat) : Sls := ρ'.mapIdx fun i s => if i ∈ vs then (match ρ[i]? with | some (.d x) => .d x | _ => .un) else s
def wLcL (g : WG) (tt : WT) (te : WE) (vs : List Nat) (ρ0 : Sls) : List PyData → List PyData → Sls → (List PyData → Sls → Prop) → Prop
  | [], acc, ρ, Q => Q acc (backS ρ0 ρ vs)
  | x :: xs, acc, ρ, Q => g x (wipS ρ vs) fun ρ1 => tt ρ1 fun c ρ2 => if c = true then te ρ2 fun d ρ3 => acc.length < sizeLine ∧ wLcL g tt te vs ρ0 xs (acc ++ [d]) ρ3 Q else wLcL g tt te vs ρ0 xs acc ρ2 Q
@[simp] def wLc (wi : WI) (g : WG) (tt : WT) (te : WE) (vs : List Nat) : WE := fun ρ Q => wi ρ fun xs ρ1 => wLcL g tt te vs ρ1 xs [] ρ1 fun ds ρ' => Q (.list ds) ρ'
theorem mono_lcL {g : WG} {tt : WT} {te : WE} {vs : List Nat} {ρ0 : Sls} (mg : MonoG g) (mt : MonoT tt) (me : MonoE te) : ∀ (xs acc : List PyData) (ρ : Sls) (Q Q' : List PyData → Sls → Prop), (∀ ds ρ', Q ds ρ' → Q' ds ρ') → wLcL g tt te vs ρ0 xs acc ρ Q → wLcL g tt te vs ρ0 xs acc ρ Q'
  | [], acc, ρ, Q, Q', h, q => h _ _ q
  | x :: xs, acc, ρ, Q, Q', h, q => mg x _ _ _ (fun ρ1 q => mt ρ1 _ _ (fun c ρ2 q => by
    cases c with
    | true => exact me ρ2 _ _ (fun d ρ3 ⟨z, q⟩ => ⟨z, mono_lcL mg mt me xs (acc ++ [d]) ρ3 Q Q' h q⟩) q
    | false => exact mono_lcL mg mt me xs acc ρ2 Q Q' h q) q) q
end DL
namespace DL
open PySem PySem.Spec L2
theorem wipe_in {σ : L2.St} {j : Nat} : ∀ {vs : List Nat}, j ∈ vs → (wipe σ vs)[j]? = σ[j]?.map fun _ => none
  | v :: vs, h => by
    unfold wipe
    by_cases e : v = j
    · subst e
      rw [List.getElem?_set]
      simp only [if_true]
      rw [wipe_length]
      by_cases hl : v < σ.length
      · rw [if_pos hl, List.getElem?_eq_getElem hl]
        rfl
      · rw [if_neg hl, List.getElem?_eq_none (by omega)]
        rfl
    · rw [List.getElem?_set_ne e]
      rcases List.mem_cons.mp h with z | z
      · exact absurd z.symm e
      · exact wipe_in z
theorem wipe_same {σ σ2 : L2.St} {is vs : List Nat} (h : Off is (wipe σ vs) σ2) (hs : ∀ i ∈ is, i ∈ vs) : wipe σ2 vs = wipe σ vs := by
  refine List.ext_getElem? fun j => ?_
  by_cases hj : j ∈ vs
  · rw [wipe_in hj, wipe_in hj]
    have hl : σ2.length = σ.length := by rw [h.1, wipe_length]
    by_cases q : j < σ.length
    · rw [List.getElem?_eq_getElem q, List.getElem?_eq_getElem (by omega)]
      rfl
    · rw [List.getElem?_eq_none (by omega), List.getElem?_eq_none (by omega)]
  · rw [wipe_out hj, h.2 j fun z => hj (hs j z)]
def Bs.wth (B : Bs) (D : Addr) (acc : List V) : Bs := { B with H0 := upd B.H0 D (.lst acc) }
section
variable {R : Res} {K : PySem.W.Frag} {B : Bs} {G : Hp} {ρ : Sls} {σ : L2.St} {H : Hp} {D : Addr} {acc : List V}
theorem Rel.wip (r : Rel R K B G ρ σ H) {vs : List Nat} : Rel R K B G (wipS ρ vs) (wipe σ vs) H :=
  r.weak (by rw [wipS_length, wipe_length]; exact r.len) fun i s e => by
    rcases wipS_get e with z | ⟨z1, z2⟩
    · exact .inl z
    · exact .inr ⟨z2, wipe_out z1⟩
/-- the new list of a comprehension, set apart -/
theorem Rel.begin (r : Rel R K B G ρ σ H) (n : H D = none) : Rel R K (B.wth D []) G ρ σ (upd H D (.lst [])) := by
  have u := r.up (o := .lst []) n
  have g0 : B.G0 D = none := by
    cases q : B.G0 D with
    | none => rfl
    | some o =>
      have := r.sub _ _ (r.g0 _ _ q)
      rw [n] at this
      cases this
  have h0 : B.H0 D = none := r.h0 n
  have nfp : ∀ b ∈ B.fp, b ≠ D := fun b hb z => (r.fp0 b hb).2.2 (by rw [z]; exact n)
  refine ⟨u.sub, u.len, u.g0, fun b h1 h2 => ?_, fun b o e hb => ?_, fun b hb => ?_, u.d, u.s, fun i x e => ?_, ?_⟩
  · by_cases hb : b = D
    · subst hb
      exact absurd (r.sub.free n) h2
    · rw [show (B.wth D []).H0 b = B.H0 b from upd_ne hb] at h1
      exact u.new b h1 h2
  · by_cases hb' : b = D
    · subst hb'
      rw [show (B.wth b []).H0 b = some (.lst []) from upd_same] at e
      cases e
      exact upd_same
    · rw [show (B.wth D []).H0 b = B.H0 b from upd_ne hb'] at e
      exact u.fr b o e hb
  · obtain ⟨z1, z2, z3⟩ := u.fp0 b hb
    exact ⟨z1, by rw [show (B.wth D []).H0 b = B.H0 b from upd_ne (nfp b hb)]; exact z2, z3⟩
  · obtain ⟨a, ho, e1, e2, e3, e4, e5, e6⟩ := u.o i x e
    have na : a ≠ D := fun z => by
      obtain ⟨a', ho', q1, _, _, q4, _⟩ := r.o i x e
      rw [e1] at q1
      cases q1
      rw [z, n] at q4
      cases q4
    exact ⟨a, ho, e1, e2, by rw [show (B.wth D []).H0 a = B.H0 a from upd_ne na]; exact e3, e4, e5, e6⟩
  · obtain ⟨la, fp, q⟩ := r.l
    have nb : ∀ b ∈ fp, b ≠ D := fun b hb z => (q.pf b hb).2.1 (by rw [z]; exact n)
    refine ⟨la, fp, q.pl, fun z => R.loc H _ la fp (fun b hb => upd_ne (nb b hb)) (q.ok z), fun b hb => ?_, q.tie⟩
    obtain ⟨z1, z0, z2, z3⟩ := q.pf b hb
    rw [upd_ne (nb b hb)]
    exact ⟨z1, z0, z2.imp (fun z => by rw [show (B.wth D []).H0 b = B.H0 b from upd_ne (nb b hb)]; exact z) id, z3⟩
/-- what is true of the cell set apart -/
theorem Rel.apart (r : Rel R K (B.wth D acc) G ρ σ H) (h0 : B.G0 D = none) (nf : D ∉ B.fp) : H D = some (.lst acc) ∧ G D = none := by
  refine ⟨r.fr D _ upd_same nf, ?_⟩
  cases q : G D with
  | none => rfl
  | some o => exact absurd h0 (r.new D (by rw [show (B.wth D acc).H0 D = some (.lst acc) from upd_same]; exact nofun) (by rw [q]; exact nofun))
theorem Rel.turn (r : Rel R K (B.wth D acc) G ρ σ H) (h0 : B.G0 D = none) (nf : D ∉ B.fp) (acc' : List V) : Rel R K (B.wth D acc') G ρ σ (upd H D (.lst acc')) := by
  obtain ⟨hD, gD⟩ := r.apart h0 nf
  have same : ∀ b, b ≠ D → (B.wth D acc').H0 b = (B.wth D acc).H0 b := fun b n => by
    rw [show (B.wth D acc').H0 b = B.H0 b from upd_ne n, show (B.wth D acc).H0 b = B.H0 b from upd_ne n]
  have wD : (B.wth D acc).H0 D = some (.lst acc) := upd_same
  refine ⟨r.sub.up gD, r.len, r.g0, fun b h1 h2 => ?_, fun b o e hb => ?_, fun b hb => ?_, r.d, r.s, fun i x e => ?_, ?_⟩
  · by_cases hb : b = D
    · subst hb
      exact absurd gD h2
    · rw [same b hb] at h1
      exact r.new b h1 h2
  · by_cases hb' : b = D
    · subst hb'
      rw [show (B.wth b acc').H0 b = some (.lst acc') from upd_same] at e
      cases e
      exact upd_same
    · rw [same b hb'] at e
      rw [upd_ne hb']
      exact r.fr b o e hb
  · have nb : b ≠ D := fun z => nf (z ▸ hb)
    rw [same b nb, upd_ne nb]
    exact r.fp0 b hb
  · obtain ⟨a, ho, e1, e2, e3, e4, e5, e6⟩ := r.o i x e
    have na : a ≠ D := fun z => by
      rw [z, wD] at e3
      cases e3
    exact ⟨a, ho, e1, e2, by rw [same a na]; exact e3, by rw [upd_ne na]; exact e4, e5, e6⟩
  · obtain ⟨la, fp, q⟩ := r.l
    have nb : ∀ b ∈ fp, b ≠ D := fun b hb z => by
      rcases (q.pf b hb).2.2.1 with y | y
      · rw [z, wD] at y
        cases y
      · exact nf (z ▸ y)
    refine ⟨la, fp, q.pl, fun z => R.loc H _ la fp (fun b hb => upd_ne (nb b hb)) (q.ok z), fun b hb => ?_, q.tie⟩
    rw [upd_ne (nb b hb), same b (nb b hb)]
    exact q.pf b hb
/-- the block is over -/
theorem Rel.over {ρ0 : Sls} {G0' : Hp} {H0' : Hp} {vs : List Nat} (r0 : Rel R K B G0' ρ0 σ H0') (sg : Sub G0' G) (n0 : H0' D = none) (r : Rel R K (B.wth D acc) G (wipS ρ vs) (wipe σ vs) H) {ds : List PyData} (ha : Iss K G acc ds) :
    Rel R K B G (backS ρ0 ρ vs) σ H ∧ IsNew R K B G σ (backS ρ0 ρ vs) H (.ref D) (.list ds) := by
  have h0 : B.H0 D = none := r0.h0 n0
  have g0 : B.G0 D = none := by
    cases q : B.G0 D with
    | none => rfl
    | some o =>
      have := r0.sub _ _ (r0.g0 _ _ q)
      rw [n0] at this
      cases this
  have nf : D ∉ B.fp := fun hb => (r0.fp0 D hb).2.2 n0
  obtain ⟨hD, gD⟩ := r.apart g0 nf
  have wD : (B.wth D acc).H0 D = some (.lst acc) := upd_same
  have back : ∀ (b : Addr), b ≠ D → (B.wth D acc).H0 b = B.H0 b := fun b n => upd_ne n
  have hlen : ρ.length = σ.length := by
    have := r.len
    rw [wipS_length, wipe_length] at this
    exact this
  have bget : ∀ (i : Nat) (s : Sl), (backS ρ0 ρ vs)[i]? = some s → (i ∈ vs ∧ (s = .un ∨ ∃ x, s = .d x ∧ ρ0[i]? = some (.d x))) ∨ (i ∉ vs ∧ ρ[i]? = some s) := fun i s e => by
    unfold backS at e
    rw [List.getElem?_mapIdx] at e
    cases q : ρ[i]? with
    | none => rw [q] at e; cases e
    | some s' =>
      rw [q] at e
      simp only [Option.map_some, Option.some.injEq] at e
      by_cases hi : i ∈ vs
      · rw [if_pos hi] at e
        refine .inl ⟨hi, ?_⟩
        split at e
        · rename_i x ex
          exact .inr ⟨x, e.symm, ex⟩
        · exact .inl e.symm
      · rw [if_neg hi] at e
        exact .inr ⟨hi, by rw [e]⟩
  have win : ∀ (i : Nat) (s : Sl), i ∉ vs → ρ[i]? = some s → (wipS ρ vs)[i]? = some s := fun i s hi e => by
    have hl : i < (wipS ρ vs).length := by
      rw [wipS_length]
      exact (List.getElem?_eq_some_iff.mp e).1
    have : ∀ (ws : List Nat), i ∉ ws → (wipS ρ ws)[i]? = ρ[i]? := fun ws => by
      induction ws with
      | nil => intro _; rfl
      | cons v ws ih =>
        intro h
        simp only [List.mem_cons, not_or] at h
        show ((wipS ρ ws).set v .un)[i]? = _
        rw [List.getElem?_set_ne (fun z => h.1 z.symm), ih h.2]
    rw [this vs hi, e]
  have own : ∀ (i : Nat) (x : PyData), (backS ρ0 ρ vs)[i]? = some (.own x) → i ∉ vs ∧ (wipS ρ vs)[i]? = some (.own x) := fun i x e => by
    rcases bget i _ e with ⟨_, z | ⟨y, z, _⟩⟩ | ⟨z1, z2⟩
    · cases z
    · cases z
    · exact ⟨z1, win i _ z1 z2⟩
  have lom : ∀ (i : Nat), (backS ρ0 ρ vs)[i]? = some .loom → i ∉ vs ∧ (wipS ρ vs)[i]? = some .loom := fun i e => by
    rcases bget i _ e with ⟨_, z | ⟨y, z, _⟩⟩ | ⟨z1, z2⟩
    · cases z
    · cases z
    · exact ⟨z1, win i _ z1 z2⟩
  have ol : ∀ b, (∀ (j : Nat) (y : PyData), (wipS ρ vs)[j]? = some (.own y) → (wipe σ vs)[j]? ≠ some (some (.ref b))) → ∀ (j : Nat) (y : PyData), (backS ρ0 ρ vs)[j]? = some (.own y) → σ[j]? ≠ some (some (.ref b)) := fun b h j y e => by
    obtain ⟨n, e'⟩ := own j y e
    have := h j y e'
    rw [wipe_out n] at this
    exact this
  obtain ⟨la, fp, q⟩ := r.l
  have fne : ∀ b ∈ fp, b ≠ D := fun b hb z => by
    rcases (q.pf b hb).2.2.1 with y | y
    · rw [z, wD] at y
      cases y
    · exact nf (z ▸ y)
  have lpart : LoomAt R B G (backS ρ0 ρ vs) σ H la fp := by
    refine ⟨fun i e => ?_, fun z => q.ok (z.imp (fun ⟨i, e⟩ => ⟨i, (lom i e).2⟩) id), fun b hb => ?_, q.tie⟩
    · obtain ⟨n, e'⟩ := lom i e
      have := q.pl i e'
      rw [wipe_out n] at this
      exact this
    · obtain ⟨z1, z0, z2, z3⟩ := q.pf b hb
      exact ⟨z1, z0, z2.imp (fun z => by rw [back b (fne b hb)] at z; exact z) id, ol b z3⟩
  refine ⟨⟨r.sub, by unfold backS; rw [List.length_mapIdx]; exact hlen, r.g0, fun b h1 h2 => ?_, fun b o e hb => ?_, fun b hb => ?_, fun i x e => ?_, fun i x e => ?_, fun i x e => ?_, la, fp, lpart⟩, ?_⟩
  · by_cases hb : b = D
    · subst hb
      exact absurd h0 h1
    · exact r.new b (by rw [back b hb]; exact h1) h2
  · have nb : b ≠ D := fun z => by
      rw [z, h0] at e
      cases e
    exact r.fr b o (by rw [back b nb]; exact e) hb
  · have nb : b ≠ D := fun z => nf (z ▸ hb)
    have := r.fp0 b hb
    rw [back b nb] at this
    exact this
  · rcases bget i _ e with ⟨z0, z | ⟨y, z, z'⟩⟩ | ⟨z1, z2⟩
    · cases z
    · cases z
      obtain ⟨v, e1, e2⟩ := r0.d i x z'
      exact ⟨v, e1, e2.mono sg⟩
    · obtain ⟨v, e1, e2⟩ := r.d i x (win i _ z1 z2)
      rw [wipe_out z1] at e1
      exact ⟨v, e1, e2⟩
  · rcases bget i _ e with ⟨z0, z | ⟨y, z, z'⟩⟩ | ⟨z1, z2⟩
    · cases z
    · cases z
    · obtain ⟨a, e1, e2⟩ := r.s i x (win i _ z1 z2)
      rw [wipe_out z1] at e1
      exact ⟨a, e1, e2⟩
  · obtain ⟨n, e'⟩ := own i x e
    obtain ⟨a, ho, e1, e2, e3, e4, e5, e6⟩ := r.o i x e'
    have na : a ≠ D := fun z => by
      rw [z, wD] at e3
      cases e3
    rw [wipe_out n] at e1
    refine ⟨a, ho, e1, e2, by rw [back a na] at e3; exact e3, e4, e5, fun j y h1 h2 => ?_⟩
    obtain ⟨nj, h1'⟩ := own j y h1
    exact e6 j y h1' (by rw [wipe_out nj]; exact h2)
  · refine ⟨D, _, rfl, gD, h0, hD, .lst ha, ol D fun j y e z => ?_, la, fp, lpart, fun z => fne D z rfl⟩
    obtain ⟨a, ho, e1, _, e3, _⟩ := r.o j y e
    rw [e1] at z
    cases z
    rw [wD] at e3
    cases e3
end
end DL
namespace DL
open PySem PySem.Spec L2
def sh0 : Shared := {}
structure STs (R : Res) (X : Cx) (ifs : List Expr) (w : WT) : Prop where
  pts : ∀ B, PTs X ifs (liftT R X.K B w)
  mono : MonoT w
@[simp] def wYes : WT := fun ρ Q => Q true ρ
section
variable {R : Res} {X : Cx} {pos : Pos}
theorem PTs.imp {X : Cx} {e : List Expr} {t t' : TT} (h : PTs X e t) (f : ∀ σ H Q, t' σ H Q → t σ H Q) : PTs X e t' :=
  ⟨fun pins s σ H Q I q => h.run pins s σ H Q I (f σ H Q q)⟩
theorem sts_nil : STs R X [] wYes := ⟨fun B => PTs.imp pts_nil fun σ H Q ⟨ρ, G, r, q⟩ => q G H (Same.refl G) r, fun ρ Q Q' h q => h _ _ q⟩
theorem sts_one {c : Expr} {t : WT} (h : ST R X c t) : STs R X [c] t := ⟨fun B => pts_one (h.pt B), h.mono⟩
/-- B left open -/
def anyE (R : Res) (K : PySem.W.Frag) (w : WE) : TE := fun σ H Q => ∃ B, liftE R K B w σ H Q
def anyT (R : Res) (K : PySem.W.Frag) (w : WT) : TT := fun σ H Q => ∃ B, liftT R K B w σ H Q
theorem SE.any {e : Expr} {w : WE} (h : SE R X e w) : PE X e (anyE R X.K w) := ⟨fun pins s σ H Q I ⟨B, q⟩ => (h.pe B).run pins s σ H Q I q⟩
theorem STs.any {ifs : List Expr} {w : WT} (h : STs R X ifs w) : PTs X ifs (anyT R X.K w) := ⟨fun pins s σ H Q I ⟨B, q⟩ => (h.pts B).run pins s σ H Q I q⟩
/-- what a comprehension's reading asks, from the data -/
theorem lc_lift {K : PySem.W.Frag} {B : Bs} {tg : Expr} {wi : WI} {t : TG} {g : WG} {tt : WT} {te : WE} {is vs : List Nat} {σ : L2.St} {H : Hp} {Q : VK} (mi : MonoI wi) (mt : MonoT tt) (me : MonoE te)
    (hg : ∀ (B : Bs) (ρ : Sls) (G : Hp) (σ : L2.St) (H : Hp) (v : V) (d : PyData) (q : L2.St → Hp → Prop), Rel R K B G ρ σ H → Is K G v d → (g d ρ fun ρ' => ∀ σ' G' H', Off is σ σ' → Sub G G' → Rel R K B G' ρ' σ' H' → q σ' H') → t v σ H q) (mg : MonoG g)
    (his : ∀ i ∈ is, i ∈ vs) (h : liftF R K B (wLc wi g tt te vs) σ H Q) : tLc (liftI R K B wi) t (anyT R K tt) (anyE R K te) vs σ H Q := by
  obtain ⟨ρ, G, r, h⟩ := h
  refine ⟨ρ, G, r, mi ρ _ _ (fun xs ρ1 q J G1 H1 s1 r1 j D nD => ?_) h⟩
  have g0 : B.G0 D = none := by
    cases z : B.G0 D with
    | none => rfl
    | some o =>
      have := r1.sub _ _ (r1.g0 _ _ z)
      rw [nD] at this
      cases this
  have nf : D ∉ B.fp := fun hb => (r1.fp0 D hb).2.2 nD
  let S : Nat → Hp → Prop := fun i H' => ∃ ρ' G' acc ds, Sub G1 G' ∧ Rel R K (B.wth D acc) G' (wipS ρ' vs) (wipe σ vs) H' ∧ Iss K G' acc ds ∧ wLcL g tt te vs ρ1 (xs.drop i) ds ρ' fun ds ρ' => ∀ v G' H', Sub G G' → Rel R K B G' ρ' σ H' → IsNew R K B G' σ ρ' H' v (.list ds) → Q v H'
  refine ⟨fun i m H' => m = xs.length - i ∧ i ≤ xs.length ∧ S i H', ⟨xs.length, rfl, Nat.zero_le _, ρ1, G1, [], [], Same.refl G1, (r1.begin nD).wip, .nil, q⟩, ?_⟩
  rintro i m H2 ⟨rfl, hle, ρ2, G2, acc, ds, s2, r2, ha, k⟩
  by_cases hlt : i < xs.length
  · refine .inr ⟨j.go i H2 hlt (s2.trans r2.sub), S (i + 1), fun H' n => ⟨xs.length - (i + 1), by omega, rfl, hlt, n⟩, fun v H3 y => ?_⟩
    rw [List.drop_eq_getElem_cons hlt] at k
    have step : ∀ G3, Sub G2 G3 → Rel R K (B.wth D acc) G3 (wipS ρ2 vs) (wipe σ vs) H3 → Is K G3 v xs[i] → t v (wipe σ vs) H3 fun σ2 H2 => wipe σ2 vs = wipe σ vs ∧ anyT R K tt σ2 H2 fun b H3 =>
        if b = true then anyE R K te σ2 H3 fun y H4 => ∃ acc, H4 D = some (.lst acc) ∧ acc.length < sizeLine ∧ S (i + 1) (upd H4 D (.lst (acc ++ [y]))) else S (i + 1) H3 := fun G3 s3 r3 i3 => by
      refine hg _ _ G3 _ H3 v _ _ r3 i3 (mg _ _ _ _ (fun ρ4 k4 σ4 G4 H4 off s4 r4 => ?_) k)
      have hw := wipe_same off his
      refine ⟨hw, B.wth D acc, ρ4, G4, r4, mt ρ4 _ _ (fun c ρ5 k5 G5 H5 s5 r5 => ?_) k4⟩
      have t5 : Sub G1 G5 := ((s2.trans s3).trans s4).trans s5
      cases c with
      | false =>
        refine ⟨ρ5, G5, acc, ds, t5, ?_, ha.mono ((s3.trans s4).trans s5), k5⟩
        have := r5.wip (vs := vs)
        rw [hw] at this
        exact this
      | true =>
        refine ⟨B.wth D acc, ρ5, G5, r5, me ρ5 _ _ (fun d ρ6 k6 u G6 H6 s6 r6 i6 => ?_) k5⟩
        obtain ⟨z, k6⟩ := k6
        obtain ⟨hD, gD⟩ := r6.apart g0 nf
        refine ⟨acc, hD, by rw [ha.length]; exact z, ρ6, G6, acc ++ [u], ds ++ [d], t5.trans s6, ?_, (ha.mono (((s3.trans s4).trans s5).trans s6)).append (.cons i6 .nil), k6⟩
        have := (r6.turn g0 nf (acc ++ [u])).wip (vs := vs)
        rw [hw] at this
        exact this
    rcases j.yld i H2 v H3 xs[i] (List.getElem?_eq_getElem hlt) (s2.trans r2.sub) y with ⟨rfl, iv⟩ | ⟨T, vs', ds', nT, rfl, rfl, hv, ex⟩
    · exact step G2 (Same.refl G2) r2 (iv.mono s2)
    · have sg : Sub G2 (upd G2 T (.tup vs')) := upd_new (r2.sub.free nT)
      refine step _ sg (r2.laid nT) ?_
      rw [ex]
      exact .tup (.inl (.inl upd_same)) (hv.mono (s2.trans sg))
  · have e : i = xs.length := by omega
    subst e
    rw [List.drop_length] at k
    obtain ⟨r3, n3⟩ := Rel.over r1 s2 nD r2 ha
    exact .inl ⟨j.stop H2 (s2.trans r2.sub), k _ G2 H2 (s1.trans s2) r3 n3⟩
theorem mono_lc {wi : WI} {g : WG} {tt : WT} {te : WE} {vs : List Nat} (mi : MonoI wi) (mg : MonoG g) (mt : MonoT tt) (me : MonoE te) : MonoE (wLc wi g tt te vs) :=
  fun ρ Q Q' h => mi ρ _ _ fun xs ρ1 q => mono_lcL mg mt me xs [] ρ1 _ _ (fun ds ρ' q => h _ _ q) q
section
variable {elt tg iter : Expr} {ifs : List Expr} {scope : Scope} {own : List (Str × Nat)} {wi : WI} {t : TG} {g : WG} {tt : WT} {te : WE} {is : List Nat}
/-- [elt for target in iter if ..] -/
theorem sf_lc (hc : X.calm = true) (hN : X.N.Nodup) (hi : SI R X tg iter wi) (ok : BlkOk X.N X.env.scope scope own)
    (hg : ∀ (s : Shared) (H : Hp) (C : Addr) (cl : List (Str × Addr)) (fp : List Addr), SG R (X.blk s H scope (compEnvC scope cl C X.env) fp) tg t g is) (his : ∀ i ∈ is, i ∈ own.map (·.2))
    (ht : ∀ (s : Shared) (H : Hp) (C : Addr) (cl : List (Str × Addr)) (fp : List Addr), STs R (X.blk s H scope (compEnvC scope cl C X.env) fp) ifs tt)
    (he : ∀ (s : Shared) (H : Hp) (C : Addr) (cl : List (Str × Addr)) (fp : List Addr), SE R (X.blk s H scope (compEnvC scope cl C X.env) fp) elt te) (hs : ∀ x, foldedSetIterable iter X.env x = pure x := by intro _; rfl) :
    SF R X (.ListComp elt [⟨tg, iter, ifs, 0⟩] scope pos) (wLc wi g tt te (own.map (·.2))) := by
  have mg := (hg sh0 (fun _ => none) 0 [] []).mono
  have mt := (ht sh0 (fun _ => none) 0 [] []).mono
  have me := (he sh0 (fun _ => none) 0 [] []).mono
  exact ⟨fun B => PE.imp (pe_lc hc hN (hi.pi B) ok (fun s H C cl fp => (hg s H C cl fp).pg) (fun s H C cl fp => (ht s H C cl fp).any) (fun s H C cl fp => (he s H C cl fp).any) hs)
    fun σ H Q h => lc_lift (tg := tg) hi.mono mt me (hg sh0 (fun _ => none) 0 [] []).to mg his h, mono_lc hi.mono mg mt me⟩
/-- name = [..] on one line -/
theorem ss_setLc {i : Nat} {y : Str} {py : Pos} {spos : Pos} (hc : X.calm = true) (hN : X.N.Nodup) (hy : X.N[i]? = some y) (hyl : X.env.scope.names.lookup y = some .local)
    (hsw : swapsWith (.ListComp elt [⟨tg, iter, ifs, 0⟩] scope pos) (some (.Name y py)) spos.line X.env = pure true) (hi : SI R X tg iter wi) (ok : BlkOk X.N X.env.scope scope own)
    (hg : ∀ (s : Shared) (H : Hp) (C : Addr) (cl : List (Str × Addr)) (fp : List Addr), SG R (X.blk s H scope (compEnvC scope cl C X.env) fp) tg t g is) (his : ∀ i ∈ is, i ∈ own.map (·.2))
    (ht : ∀ (s : Shared) (H : Hp) (C : Addr) (cl : List (Str × Addr)) (fp : List Addr), STs R (X.blk s H scope (compEnvC scope cl C X.env) fp) ifs tt)
    (he : ∀ (s : Shared) (H : Hp) (C : Addr) (cl : List (Str × Addr)) (fp : List Addr), SE R (X.blk s H scope (compEnvC scope cl C X.env) fp) elt te) (hs : ∀ x, foldedSetIterable iter X.env x = pure x := by intro _; rfl) :
    SS R X (.Assign [.Name y py] (.ListComp elt [⟨tg, iter, ifs, 0⟩] scope pos) spos) (wSetO i (wLc wi g tt te (own.map (·.2)))) := by
  have mg := (hg sh0 (fun _ => none) 0 [] []).mono
  have mt := (ht sh0 (fun _ => none) 0 [] []).mono
  have me := (he sh0 (fun _ => none) 0 [] []).mono
  have ml := mono_lc (vs := own.map (·.2)) hi.mono mg mt me
  exact ⟨fun B => PS.imp (ps_setLc hc hN hy hyl hsw (hi.pi B) ok (fun s H C cl fp => (hg s H C cl fp).pg) (fun s H C cl fp => (ht s H C cl fp).any) (fun s H C cl fp => (he s H C cl fp).any) hs)
    fun D σ H ⟨ρ, G, r, h⟩ => lc_lift (tg := tg) hi.mono mt me (hg sh0 (fun _ => none) 0 [] []).to mg his ⟨ρ, G, r, ml ρ _ _ (fun d ρ' q v G' H' s r' n => q _ G' H' s (r'.setO n)) h⟩, mono_setO ml⟩
end
/-- a fresh cell handed on -/
theorem Rel.shut {K : PySem.W.Frag} {B : Bs} {G : Hp} {ρ : Sls} {σ : L2.St} {H : Hp} {v : V} {d : PyData} (r : Rel R K B G ρ σ H) (n : IsNew R K B G σ ρ H v d) : ∃ G', Sub G G' ∧ Rel R K B G' ρ σ H ∧ Is K G' v d := by
  have hi : (ρ ++ [Sl.un])[ρ.length]? = some .un := by rw [List.getElem?_append_right (Nat.le_refl _), Nat.sub_self]; rfl
  have r1 : Rel R K B G (ρ ++ [.un]) (σ ++ [none]) H := by
    refine r.weak (by rw [List.length_append, List.length_append, r.len]; rfl) fun i s e => ?_
    by_cases q : i < ρ.length
    · rw [List.getElem?_append_left q] at e
      rw [List.getElem?_append_left (by rw [← r.len]; exact q)]
      exact .inr ⟨e, rfl⟩
    · by_cases z : i = ρ.length
      · subst z
        rw [hi] at e
        exact .inl (Option.some.inj e).symm
      · rw [List.getElem?_eq_none (by rw [List.length_append]; show ρ.length + 1 ≤ i; omega)] at e
        cases e
  have n1 : IsNew R K B G (σ ++ [none]) (ρ ++ [.un]) H v d := by
    obtain ⟨a, ho, e0, e1, e2, e3, e4, e5, la, fp, q, q2⟩ := n
    have lo : ∀ (j : Nat) (s : Sl), (ρ ++ [Sl.un])[j]? = some s → s ≠ .un → ρ[j]? = some s ∧ (σ ++ [none])[j]? = σ[j]? := fun j s e ns => by
      by_cases q : j < ρ.length
      · rw [List.getElem?_append_left q] at e
        exact ⟨e, List.getElem?_append_left (by rw [← r.len]; exact q)⟩
      · by_cases z : j = ρ.length
        · subst z
          rw [hi] at e
          exact absurd (Option.some.inj e).symm ns
        · rw [List.getElem?_eq_none (by rw [List.length_append]; show ρ.length + 1 ≤ j; omega)] at e
          cases e
    refine ⟨a, ho, e0, e1, e2, e3, e4, fun j y e => ?_, la, fp, ⟨fun i e => ?_, fun z => q.ok (z.imp (fun ⟨i, e⟩ => ⟨i, (lo i _ e nofun).1⟩) id), fun b hb => ?_, q.tie⟩, q2⟩
    · obtain ⟨h1, h2⟩ := lo j _ e nofun
      rw [h2]
      exact e5 j y h1
    · obtain ⟨h1, h2⟩ := lo i _ e nofun
      rw [h2]
      exact q.pl i h1
    · obtain ⟨z1, z0, z2, z3⟩ := q.pf b hb
      refine ⟨z1, z0, z2, fun j y e => ?_⟩
      obtain ⟨h1, h2⟩ := lo j _ e nofun
      rw [h2]
      exact z3 j y h1
  have r2 := r1.setO (i := ρ.length) n1
  have hset : ((ρ ++ [Sl.un]).set ρ.length (.own d))[ρ.length]? = some (.own d) := List.getElem?_set_self (by rw [List.length_append]; show ρ.length < ρ.length + 1; omega)
  obtain ⟨v', G', sg, e1, iv, r3⟩ := r2.freeze hset
  have ev : v' = v := by
    rw [r.len, List.getElem?_set_self (by rw [List.length_append]; show σ.length < σ.length + 1; omega)] at e1
    cases e1
    rfl
  subst ev
  refine ⟨G', sg, r3.weak r.len fun i s e => .inr ?_, iv⟩
  have hl : i < ρ.length := (List.getElem?_eq_some_iff.mp e).1
  have ni : ρ.length ≠ i := by omega
  refine ⟨?_, ?_⟩
  · rw [List.getElem?_set_ne ni, List.getElem?_set_ne ni, List.getElem?_append_left hl]
    exact e
  · rw [List.getElem?_set_ne ni, List.getElem?_append_left (by rw [← r.len]; exact hl)]
theorem SF.se {e : Expr} {w : WE} (h : SF R X e w) : SE R X e w :=
  ⟨fun B => PE.imp (h.pe B) fun σ H Q ⟨ρ, G, r, q⟩ => ⟨ρ, G, r, h.mono ρ _ _ (fun d ρ' q v G' H' s r' n => by
    obtain ⟨G2, s2, r2, i2⟩ := r'.shut n
    exact q v G2 H' (s.trans s2) r2 i2) q⟩, h.mono⟩
end
end DL
namespace DL
open PySem PySem.Spec PyProof.Rows L2
/-! ## what a def promises, where no text of a value is under way -/
structure GFn (P : Program) (w : World) (K : PySem.W.Frag) (mg : Str → Option Value) (base : Heap) (CX : CXT) (k : Nat) (f : Addr) (fd : FuncData) (ps : List Str) (sp : Sp) : Prop where
  ar : ∀ vs H Q E, sp vs H Q E → vs.length = ps.length
  go : ∀ (A : Around) (outer : List PySem.Env) (s : Shared) (H : Hp) (args : Args) (us : List Value) (vs : List V) (Q : VK) (E : XK),
    A.guards = some [] → Room k A → Env0 P w K mg base A outer s H → BindsTo s fd args (ps.zip us) → Vals vs us → sp vs H Q E →
    codeAny (model P w) A (.call (.ref f) args) (CR CX outer P w H s Q E) s
section
variable {P : Program} {w : World} {K : PySem.W.Frag} {mg : Str → Option Value} {base : Heap} {CX : CXT} {k : Nat} {f : Addr} {fd : FuncData} {ps : List Str} {sp sp' : Sp}
theorem GFn.of (F : FnOk P w K mg base CX k f fd ps sp) : GFn P w K mg base CX k f fd ps sp := ⟨F.len, fun A outer s H args us vs Q E _ hr e0 hb r h => F.run A outer s H args us vs Q E hr e0 hb r h⟩
theorem GFn.up (F : GFn P w K mg base CX k f fd ps sp) {j : Nat} (h : k ≤ j) : GFn P w K mg base CX j f fd ps sp := ⟨F.ar, fun A outer s H args us vs Q E g hr => F.go A outer s H args us vs Q E g (hr.mono h)⟩
theorem GFn.imp (F : GFn P w K mg base CX k f fd ps sp) (h : ∀ vs H Q E, sp' vs H Q E → sp vs H Q E) : GFn P w K mg base CX k f fd ps sp' :=
  ⟨fun vs H Q E q => F.ar vs H Q E (h _ _ _ _ q), fun A outer s H args us vs Q E g hr e0 hb r q => F.go A outer s H args us vs Q E g hr e0 hb r (h _ _ _ _ q)⟩
/-- a def by its body -/
theorem gfn_of {name qual : Str} {params : Arguments} {body : List Stmt} {scope : Scope} {dV kV doc pm cdv ct oc : Value} {an od : Option Addr} {osl : Array (Option Value)} {N : List Str}
    (lk : K.lookup f = some ⟨oc, od, .func (PySem.W.fnOf name qual params body scope dV kV doc pm an cdv ct), osl⟩) (hcd : PySem.W.codeIn K cdv qual = true) (S : FnScope N ps scope)
    (ar : ∀ vs H Q E, sp vs H Q E → vs.length = ps.length)
    (hb : ∀ (A : Around) (outer : List PySem.Env) (s : Shared) (H : Hp) (vs : List V) (Q : VK) (E : XK), (A.deeper (envOfC qual scope s.heap.objs.size f cdv)).guards = some [] → Room k (A.deeper (envOfC qual scope s.heap.objs.size f cdv)) → sp vs H Q E →
      ∃ t, PSs (cxOf CX P w K mg base N qual scope f cdv A outer s H E) body t ∧ t ⟨fun _ H' => Q .non H', Q, fun _ _ => False, fun _ _ => False⟩ (start N vs) H) :
    GFn P w K mg base CX (k + 1) f (PySem.W.fnOf name qual params body scope dV kV doc pm an cdv ct) ps sp := by
  refine ⟨ar, fun A outer s H args us vs Q E g hr e0 hbd r hsp => ?_⟩
  have hlen := ar _ _ _ _ hsp
  have kin : K.In s.heap := e0.mod.kin.keeps fun b o q => (e0.bs b o q).1
  have nol : s.heap.NoLimit := e0.mod.nolimit.keeps fun b o q => (e0.bs b o q).1
  have kinds : ∀ y ∈ ps.zip us, scope.names.lookup y.1 = some .local ∨ (scope.names.lookup y.1 = some .cell ∧ ((cellsFrom (s.heap.objs.size + 1) scope.names []).lookup y.1).isSome = true) := by
    rintro ⟨n, v⟩ hy
    exact (S.par n (List.of_mem_zip hy).1).imp id fun q => ⟨q, PySem.W.cellsFrom_some _ _ _ (.inl q)⟩
  refine codeAny_call_function hr.depth (kin _ _ lk) rfl S.co S.gen rfl (PySem.W.codeRec_of kin hcd) (hbd _ _ _ _ ?_)
  refine wpAny_newFunctionEnv_cells S.kind kinds fun env henv s1 x => ?_
  cases henv
  refine ⟨nol.keeps x.toInCall.keep, codeAny_func ?_⟩
  obtain ⟨t, ht, q⟩ := hb A outer s H vs Q E g (hr.deeper _) hsp
  have J := inv_start (CX := CX) (E := E) S hr.hd e0 hlen r x
  refine wpAny_mono (ht.run [] s1 _ H _ J q) ?_ fun _ _ z => z
  intro fl s' z
  cases fl with
  | next =>
    obtain ⟨σ', H', I, q⟩ := z
    exact ⟨.non, H', I.os, I.bare, I.base, I.hok, rfl, q⟩
  | ret u =>
    obtain ⟨v, σ', H', I, rv, q⟩ := z
    exact ⟨v, H', I.os, I.bare, I.base, I.hok, rv, q⟩
  | brk =>
    obtain ⟨_, _, _, q⟩ := z
    exact q.elim
  | cont =>
    obtain ⟨_, _, _, q⟩ := z
    exact q.elim
end
section
variable {X : Cx} {CX : CXT} {k : Nat} {f : Addr} {fd : FuncData} {ps ks : List Str} {sp : Sp} {E : XK} {x : Str} {p pos : Pos} {e : Expr} {es : List Expr} {kws : List Keyword} {t tk : TA}
theorem gfn_run {pins : List (Addr × Obj)} {σ : L2.St} {H : Hp} {s : Shared} {Q : VK} {args : Args} {us : List Value} {vs : List V} (F : GFn X.prog X.w X.K X.mg X.base CX k f fd ps sp) (hg : X.A.guards = some []) (hr : Room k X.A)
    (hb : BindsTo s fd args (ps.zip us)) (hx : Passes CX X E) (I : Inv X pins σ H s) (r : Vals vs us) (h : sp vs H Q E) : wpAny (model X.prog X.w) X.A (call (.ref f) args.pos args.kw) (EP X pins σ Q) X.xe s := by
  refine wpAny_call (codeAny_mono (F.go X.A X.stack s H args us vs Q E hg hr I.env0 hb r h) ?_)
  intro res s' q
  match res, q with
  | .error e, q => exact hx pins σ H s e s' I q
  | .ok (.ret u), q => exact I.after q
/-- f(a, ..), every argument by place -/
theorem ge_call (F : GFn X.prog X.w X.K X.mg X.base CX k f fd ps sp) (hgd : X.A.guards = some []) (hr : Room k X.A) (hg : Gl X x) (hm : X.mg x = some (.ref f)) (hk : PySem.W.keepIn X.K (.ref f) = true) (hb : Binds X.K fd ps []) (hx : Passes CX X E)
    (ha : PA X (e :: es) t) (hdb : (x == ("__debug__" : Str)) = false := by decide) (he : starEach (e :: es) X.env = (false, eval e X.env) :: starEach es X.env := by rfl) (hpl : (backTo pos (starEach es X.env)).any (·.1) = false := by rfl) :
    PE X (.Call (.Name x p) (e :: es) [] pos) (tCall sp [] E t) := by
  refine ⟨fun pins s σ H Q I h => wpAny_Call_Name_kw (ld_glob I hg hm ?_ hdb)⟩
  refine PySem.W.callWith_K (h₀ := X.base) I.ok.mod.kin hk (thn (ha.run pos pins s σ H _ I h) fun us s1 z => ?_) he hpl
  obtain ⟨vs, H1, I1, r, q⟩ := z
  rw [List.append_nil] at q
  have hl : (us ++ []).length = ps.length := by rw [List.append_nil, ← r.length]; exact F.ar _ _ _ _ q
  have hbt := hb s1 us I1.kIn hl
  rw [List.append_nil] at hbt
  exact ⟨I1.kIn, gfn_run (args := ⟨us, []⟩) F hgd hr hbt hx I1 r q⟩
/-- f(a, .., n=b, ..) -/
theorem ge_callK {g : List Value → List Value → List Value} {gV : List V → List V → List V} (F : GFn X.prog X.w X.K X.mg X.base CX k f fd ps sp) (hgd : X.A.guards = some []) (hr : Room k X.A) (hg : Gl X x) (hm : X.mg x = some (.ref f)) (hk : PySem.W.keepIn X.K (.ref f) = true)
    (hb : KBinds X.K fd ps ks g gV) (hx : Passes CX X E) (ha : PA X (e :: es) t) (hkw : PK X kws tk) (hall : (backToKw pos (keywordEach kws X.env)).all (·.1.isSome) = true := by rfl) (hks : (backToKw pos (keywordEach kws X.env)).filterMap (·.1) = ks := by rfl)
    (hdb : (x == ("__debug__" : Str)) = false := by decide) (he : starEach (e :: es) X.env = (false, eval e X.env) :: starEach es X.env := by rfl)
    (hpl : ((backTo pos (starEach (e :: es) X.env)).any (·.1) || (backToKw pos (keywordEach kws X.env)).any (·.1.isNone)) = false := by rfl) : PE X (.Call (.Name x p) (e :: es) kws pos) (tCallK sp gV E t tk) := by
  refine ⟨fun pins s σ H Q I h => wpAny_Call_Name_kw (ld_glob I hg hm ?_ hdb)⟩
  refine PySem.W.callWith_KW (h₀ := X.base) I.ok.mod.kin hk hall (thn (ha.run pos pins s σ H _ I h) fun us s1 z => ?_) hpl he
  obtain ⟨vs, H1, I1, r, q⟩ := z
  refine thn (hkw.run pos pins s1 σ H1 _ I1 q) fun ws s2 z => ?_
  obtain ⟨zs, H2, I2, rz, q⟩ := z
  rw [hks]
  have hl : (g us ws).length = ps.length := by rw [← (hb.rel r rz).length]; exact F.ar _ _ _ _ q
  exact ⟨I2.kIn, gfn_run (args := ⟨us, ks.zip ws⟩) F hgd hr (hb.to s2 us ws I2.kIn hl) hx I2 (hb.rel r rz) q⟩
/-- f(n=b, ..) -/
theorem ge_callK0 {g : List Value → List Value → List Value} {gV : List V → List V → List V} (F : GFn X.prog X.w X.K X.mg X.base CX k f fd ps sp) (hgd : X.A.guards = some []) (hr : Room k X.A) (hg : Gl X x) (hm : X.mg x = some (.ref f)) (hk : PySem.W.keepIn X.K (.ref f) = true)
    (hb : KBinds X.K fd ps ks g gV) (hx : Passes CX X E) (hkw : PK X kws tk) (hall : (backToKw pos (keywordEach kws X.env)).all (·.1.isSome) = true := by rfl) (hks : (backToKw pos (keywordEach kws X.env)).filterMap (·.1) = ks := by rfl)
    (hdb : (x == ("__debug__" : Str)) = false := by decide) (hpl : ((backTo pos (starEach [] X.env)).any (·.1) || (backToKw pos (keywordEach kws X.env)).any (·.1.isNone)) = false := by rfl) : PE X (.Call (.Name x p) [] kws pos) (tCallK sp gV E tNil tk) := by
  refine ⟨fun pins s σ H Q I h => wpAny_Call_Name_kw (ld_glob I hg hm ?_ hdb)⟩
  refine PySem.W.callWith_KW0 (h₀ := X.base) I.ok.mod.kin hk hall (thn (hkw.run pos pins s σ H _ I h) fun ws s2 z => ?_) hpl
  obtain ⟨zs, H2, I2, rz, q⟩ := z
  rw [hks]
  have hl : (g [] ws).length = ps.length := by rw [← (hb.rel .nil rz).length]; exact F.ar _ _ _ _ q
  exact ⟨I2.kIn, gfn_run (args := ⟨[], ks.zip ws⟩) F hgd hr (hb.to s2 [] ws I2.kIn hl) hx I2 (hb.rel .nil rz) q⟩
end
end DL
namespace DL
open PySem PySem.Spec PyProof.Rows L2
/-! ## promises over data -/
abbrev Sd := List Sl → (PyData → Prop) → Prop
def MonoD (S : Sd) : Prop := ∀ (as : List Sl) (q q' : PyData → Prop), (∀ d, q d → q' d) → S as q → S as q'
def Arg1 (K : PySem.W.Frag) (G : Hp) (la : Addr) (v : V) : Sl → Prop
  | .d x => Is K G v x
  | .loom => v = .ref la
  | .scr ns => ∃ a, v = .ref a ∧ SqL K G a (ns.map V.int)
  | _ => False
abbrev ArgR (K : PySem.W.Frag) (G : Hp) (la : Addr) : List V → List Sl → Prop := Paired fun v s => Arg1 K G la v s
@[simp] def hasL : List Sl → Bool
  | [] => false
  | .loom :: _ => true
  | _ :: r => hasL r
theorem hasL_of : ∀ {as : List Sl} {i : Nat}, as[i]? = some .loom → hasL as = true
  | .loom :: _, _, _ => rfl
  | .un :: r, i + 1, h => hasL_of (as := r) (i := i) (by simpa using h)
  | .d _ :: r, i + 1, h => hasL_of (as := r) (i := i) (by simpa using h)
  | .own _ :: r, i + 1, h => hasL_of (as := r) (i := i) (by simpa using h)
  | .scr _ :: r, i + 1, h => hasL_of (as := r) (i := i) (by simpa using h)
  | .un :: r, 0, h => by simp at h
  | .d _ :: r, 0, h => by simp at h
  | .own _ :: r, 0, h => by simp at h
  | .scr _ :: r, 0, h => by simp at h
  | [], i, h => by simp at h
/-- what a call leaves -/
structure Left (R : Res) (K : PySem.W.Frag) (G H : Hp) (la : Addr) (fp : List Addr) (l : Bool) (G' H' : Hp) : Prop where
  g : Sub G G'
  h : Sub G' H'
  new : ∀ b, H b ≠ none → G' b ≠ none → G b ≠ none
  fr : ∀ b o, H b = some o → b ∉ fp → H' b = some o
  pf : ∀ b ∈ fp, H' b ≠ none
  lm : l = true → R.ok H' la fp
def spD (R : Res) (K : PySem.W.Frag) (n : Nat) (S : Sd) : Sp := fun vs H Q _ => vs.length = n ∧ ∃ (G : Hp) (as : List Sl) (la : Addr) (fp : List Addr), Sub G H ∧ ArgR K G la vs as ∧ (∀ b ∈ fp, G b = none ∧ H b ≠ none) ∧ (hasL as = true → R.ok H la fp) ∧
  S as fun d => ∀ v G' H', Left R K G H la fp (hasL as) G' H' → Is K G' v d → Q v H'
section
variable {P : Program} {w : World} {K : PySem.W.Frag} {mg : Str → Option Value} {base : Heap} {k : Nat} {R : Res} {S : Sd}
theorem Arg1.noOwn {G : Hp} {la : Addr} {v : V} {x : PyData} (h : Arg1 K G la v (.own x)) : False := h
theorem paired_get {α β : Type} {F : α → β → Prop} : ∀ {xs : List α} {ys : List β} {i : Nat} {y : β}, Paired F xs ys → ys[i]? = some y → ∃ x, xs[i]? = some x ∧ F x y
  | _, _, _, _, .nil, e => by simp at e
  | _, _, 0, _, .cons h _, e => by simp at e; subst e; exact ⟨_, rfl, h⟩
  | _, _, i + 1, _, .cons _ t, e => by
    obtain ⟨x, h1, h2⟩ := paired_get (i := i) t (by simpa using e)
    exact ⟨x, by simpa using h1, h2⟩
theorem start_get {N : List Str} {vs : List V} {i : Nat} {v : V} (h : vs[i]? = some v) : (L2.start N vs)[i]? = some (some v) := by
  unfold L2.start
  rw [List.getElem?_append_left (by rw [List.length_map]; exact (List.getElem?_eq_some_iff.mp h).1), List.getElem?_map, h]
  rfl
/-- the slots at a def's entry -/
def entry (N : List Str) (as : List Sl) : Sls := as ++ List.replicate (N.length - as.length) .un
theorem entry_get {N : List Str} {as : List Sl} {i : Nat} {s : Sl} (h : (entry N as)[i]? = some s) : s = .un ∨ as[i]? = some s := by
  unfold entry at h
  by_cases q : i < as.length
  · rw [List.getElem?_append_left q] at h
    exact .inr h
  · rw [List.getElem?_append_right (by omega), List.getElem?_replicate] at h
    split at h
    · cases h
      exact .inl rfl
    · cases h
theorem Rel.entry {N : List Str} {vs : List V} {as : List Sl} {G H : Hp} {la : Addr} {fp : List Addr} (sg : Sub G H) (ra : ArgR K G la vs as) (hf : ∀ b ∈ fp, G b = none ∧ H b ≠ none) (hl : hasL as = true → R.ok H la fp) :
    Rel R K ⟨H, G, fp, la, hasL as⟩ G (entry N as) (L2.start N vs) H := by
  have len : vs.length = as.length := Paired.length ra
  refine ⟨sg, ?_, Same.refl G, fun b _ h => h, fun b o e _ => e, fun b hb => ⟨(hf b hb).1, (hf b hb).2, (hf b hb).2⟩, fun i x e => ?_, fun i x e => ?_, fun i x e => ?_, la, fp, fun i e => ?_, fun z => hl ?_, fun b hb => ⟨(hf b hb).1, (hf b hb).2, .inr hb, fun j y e => ?_⟩, fun _ => ⟨rfl, rfl⟩⟩
  · unfold DL.entry L2.start
    rw [List.length_append, List.length_append, List.length_replicate, List.length_replicate, List.length_map, len]
  · rcases entry_get e with z | z
    · cases z
    · obtain ⟨v, e1, e2⟩ := paired_get ra z
      exact ⟨v, start_get e1, e2⟩
  · rcases entry_get e with z | z
    · cases z
    · obtain ⟨v, e1, a, rfl, e2⟩ := paired_get ra z
      exact ⟨a, start_get e1, e2⟩
  · rcases entry_get e with z | z
    · cases z
    · obtain ⟨v, _, e2⟩ := paired_get ra z
      exact e2.noOwn.elim
  · rcases entry_get e with z | z
    · cases z
    · obtain ⟨v, e1, e2⟩ := paired_get ra z
      have e2 : v = .ref la := e2
      subst e2
      exact start_get e1
  · rcases z with ⟨i, e⟩ | z
    · rcases entry_get e with z | z
      · cases z
      · exact hasL_of z
    · exact z
  · rcases entry_get e with z | z
    · cases z
    · obtain ⟨v, _, e2⟩ := paired_get ra z
      exact e2.noOwn.elim
/-- the ends of a def's body -/
@[simp] def enD (q : PyData → Prop) : En := ⟨fun _ => q .none, q, fun _ => False, fun _ => False⟩
/-- THE RULE for a def from which no exception leaves -/
theorem gd_of {x qual : Str} {st : Stmt} {f : Addr} {fd : FuncData} {N ps : List Str} (F : Fun K x qual st f fd) (Sc : FnScope N ps (defScope st))
    (hb : ∀ (cdv : Value) (A : Around) (outer : List PySem.Env) (s : Shared) (H : Hp) (E : XK), (A.deeper (envOfC qual (defScope st) s.heap.objs.size f cdv)).guards = some [] → Room k (A.deeper (envOfC qual (defScope st) s.heap.objs.size f cdv)) →
      ∃ ws, SSs R (cxOf CX0 P w K mg base N qual (defScope st) f cdv A outer s H E).nox (defBody st) ws ∧ ∀ as q, as.length = ps.length → S as q → ws (enD q) (entry N as)) :
    GFn P w K mg base CX0 (k + 1) f fd ps (spD R K ps.length S) := by
  obtain ⟨oc, od, kV, doc, pm, an, cdv, ct, osl, rfl, lk, hcd⟩ := F.ex
  refine gfn_of lk hcd Sc (fun vs H Q E h => h.1) fun A outer s H vs Q E hg hr h => ?_
  obtain ⟨ws, hws, hq⟩ := hb cdv A outer s H E hg hr
  obtain ⟨hn, G, as, la, fp, sg, ra, hf, hl, h⟩ := h
  have left : ∀ {ρ' : Sls} {σ' : L2.St} {G' H' : Hp}, Sub G G' → Rel R K ⟨H, G, fp, la, hasL as⟩ G' ρ' σ' H' → Left R K G H la fp (hasL as) G' H' := fun s r =>
    ⟨s, r.sub, fun b h1 h2 => r.new b h1 h2, fun b o e hb => r.fr b o e hb, fun b hb => (r.fp0 b hb).2.2, fun hl => by
      obtain ⟨la', fp', q⟩ := r.l
      have z := q.ok (.inr hl)
      rw [(q.tie hl).1, (q.tie hl).2] at z
      exact z⟩
  refine ⟨_, (hws.ps ⟨H, G, fp, la, hasL as⟩).nox, entry N as, G, Rel.entry sg ra hf hl, ?_⟩
  refine hws.mono (enD fun d => ∀ v G' H', Left R K G H la fp (hasL as) G' H' → Is K G' v d → Q v H') _ _ ⟨fun ρ' q σ' G' H' s r => ?_, fun d q v ρ' σ' G' H' s r i => ?_, fun _ q => False.elim q, fun _ q => False.elim q⟩ (hq as _ (by rw [← Paired.length ra]; exact hn) h)
  · exact q _ G' H' (left s r) .non
  · exact q v G' H' (left s r) i
end
/-! ## calls -/
@[simp] def okL : List Ag → Sls → Prop
  | [], _ => True
  | .loom i :: r, ρ => ρ[i]? = some .loom ∧ okL r ρ
  | .scr _ :: r, ρ => okL r ρ
  | .e _ :: r, ρ => okL r ρ
theorem ArgsV.mono {K : PySem.W.Frag} {G G' : Hp} {σ : L2.St} (s : Sub G G') : ∀ {gs : List Ag} {vs : List V} {as : List Sl}, ArgsV K G σ gs vs as → ArgsV K G' σ gs vs as
  | [], _, _, h => h
  | .loom i :: r, _, _, h => by
    obtain ⟨v, vs', as', e1, e2, e3, t⟩ := h
    exact ⟨v, vs', as', e1, e2, e3, ArgsV.mono s t⟩
  | .scr i :: r, _, _, h => by
    obtain ⟨v, vs', as', ns, a, e1, e2, e3, e4, t⟩ := h
    exact ⟨v, vs', as', ns, a, e1, e2, e3, Same.seq s e4, ArgsV.mono s t⟩
  | .e w :: r, _, _, h => by
    obtain ⟨v, vs', as', d, e1, e2, e3, t⟩ := h
    exact ⟨v, vs', as', d, e1, e2, e3.mono s, ArgsV.mono s t⟩
theorem ArgsV.rel {R : Res} {B : Bs} {ρ : Sls} {H : Hp} {la : Addr} {fp : List Addr} {K : PySem.W.Frag} {G : Hp} {σ : L2.St} (q : LoomAt R B G ρ σ H la fp) : ∀ {gs : List Ag} {vs : List V} {as : List Sl}, ArgsV K G σ gs vs as → okL gs ρ → ArgR K G la vs as
  | [], _, _, h, _ => by
    obtain ⟨rfl, rfl⟩ := h
    exact .nil
  | .loom i :: r, _, _, h, k => by
    obtain ⟨v, vs', as', rfl, rfl, e3, t⟩ := h
    have z := q.pl i k.1
    rw [e3] at z
    cases z
    exact .cons (show V.ref la = V.ref la from rfl) (ArgsV.rel q t k.2)
  | .scr i :: r, _, _, h, k => by
    obtain ⟨v, vs', as', ns, a, rfl, rfl, e3, e4, t⟩ := h
    exact .cons (show ∃ a, v = V.ref a ∧ SqL K G a (ns.map V.int) from ⟨a, e3, e4⟩) (ArgsV.rel q t k)
  | .e w :: r, _, _, h, k => by
    obtain ⟨v, vs', as', d, rfl, rfl, e3, t⟩ := h
    exact .cons (show Is K G v d from e3) (ArgsV.rel q t k)
theorem okL_any : ∀ {gs : List Ag} {ρ : Sls} {K : PySem.W.Frag} {G : Hp} {σ : L2.St} {vs : List V} {as : List Sl}, ArgsV K G σ gs vs as → okL gs ρ → hasL as = true → ∃ i : Nat, ρ[i]? = some .loom
  | [], _, _, _, _, _, _, h, _, z => by
    obtain ⟨rfl, rfl⟩ := h
    cases z
  | .loom i :: r, _, _, _, _, _, _, h, k, z => ⟨i, k.1⟩
  | .scr i :: r, _, _, _, _, _, _, h, k, z => by
    obtain ⟨v, vs', as', ns, a, rfl, rfl, e3, e4, t⟩ := h
    exact okL_any t k z
  | .e w :: r, _, _, _, _, _, _, h, k, z => by
    obtain ⟨v, vs', as', d, rfl, rfl, e3, t⟩ := h
    exact okL_any t k z
section
variable {R : Res} {K : PySem.W.Frag} {B : Bs} {G H G' H' : Hp} {ρ : Sls} {σ : L2.St} {la : Addr} {fp : List Addr}
/-- the caller's slots behind a call -/
theorem Rel.after (r : Rel R K B G ρ σ H) (q : LoomAt R B G ρ σ H la fp) {l : Bool} (hl : l = true → ∃ i : Nat, ρ[i]? = some .loom) {fp' : List Addr} (hf : fp' = if l = true then fp else []) (z : Left R K G H la fp' l G' H') : Rel R K B G' ρ σ H' := by
  have gone : ∀ b, H b ≠ none → G b = none → G' b = none := fun b h1 h2 => by
    cases e : G' b with
    | none => rfl
    | some o => exact absurd h2 (z.new b h1 (by rw [e]; exact nofun))
  have sub' : ∀ b, b ∈ fp' → b ∈ fp := fun b hb => by
    subst hf
    split at hb
    · exact hb
    · exact absurd hb (by simp)
  have keep : ∀ b o, H b = some o → b ∉ fp → H' b = some o := fun b o e n => z.fr b o e fun hb => n (sub' b hb)
  refine ⟨z.h, r.len, r.g0.trans z.g, fun b h1 h2 => ?_, fun b o e hb => ?_, fun b hb => ?_, fun i x e => ?_, fun i x e => ?_, fun i x e => ?_, la, fp, q.pl, fun y => ?_, fun b hb => ?_, q.tie⟩
  · cases e : H b with
    | none =>
      have := r.h0 e
      exact absurd this h1
    | some o => exact r.new b h1 (z.new b (by rw [e]; exact nofun) h2)
  · refine keep b o (r.fr b o e hb) fun hf => ?_
    rcases (q.pf b hf).2.2.1 with y | y
    · rw [e] at y
      cases y
    · exact hb y
  · obtain ⟨z1, z2, z3⟩ := r.fp0 b hb
    refine ⟨gone b z3 z1, z2, ?_⟩
    by_cases hbf : b ∈ fp'
    · exact z.pf b hbf
    · cases e : H b with
      | none => exact absurd e z3
      | some o => rw [z.fr b o e hbf]; exact nofun
  · obtain ⟨v, e1, e2⟩ := r.d i x e
    exact ⟨v, e1, e2.mono z.g⟩
  · obtain ⟨a, e1, e2⟩ := r.s i x e
    exact ⟨a, e1, Same.seq z.g e2⟩
  · obtain ⟨a, ho, e1, e2, e3, e4, e5, e6⟩ := r.o i x e
    exact ⟨a, ho, e1, gone a (by rw [e4]; exact nofun) e2, e3, keep a ho e4 fun hb => (q.pf a hb).2.2.2 i x e e1, e5.mono z.g, e6⟩
  · cases l with
    | true => 
      rw [if_pos rfl] at hf
      subst hf
      exact z.lm rfl
    | false =>
      rw [if_neg Bool.false_ne_true] at hf
      subst hf
      refine R.loc H H' la fp (fun b hb => ?_) (q.ok y)
      cases e : H b with
      | none => exact absurd e (q.pf b hb).2.1
      | some o => exact z.fr b o e (by simp)
  · obtain ⟨z1, z0, z2, z3⟩ := q.pf b hb
    refine ⟨gone b z0 z1, ?_, z2, z3⟩
    by_cases hbf : b ∈ fp'
    · exact z.pf b hbf
    · cases e : H b with
      | none => exact absurd e z0
      | some o => rw [z.fr b o e hbf]; exact nofun
/-- what a callee asks, from the caller's slots -/
theorem spD_of {S : Sd} (mS : MonoD S) {n : Nat} {Q : VK} {E : XK} {vs : List V} {as : List Sl} (r : Rel R K B G ρ σ H) (q : LoomAt R B G ρ σ H la fp) (ra : ArgR K G la vs as) (hn : vs.length = n) (hl : hasL as = true → ∃ i : Nat, ρ[i]? = some .loom)
    (h : S as fun d => ∀ v G' H', Sub G G' → Rel R K B G' ρ σ H' → Is K G' v d → Q v H') : spD R K n S vs H Q E := by
  refine ⟨hn, G, as, la, if hasL as = true then fp else [], r.sub, ra, fun b hb => ?_, fun z => ?_, mS as _ _ (fun d k v G' H' z i => k v G' H' z.g (r.after q hl rfl z) i) h⟩
  · split at hb
    · exact ⟨(q.pf b hb).1, (q.pf b hb).2.1⟩
    · exact absurd hb (by simp)
  · rw [if_pos z]
    exact q.ok (.inl (hl z))
end
@[simp] def wCall (S : Sd) (gs : List Ag) : WE := fun ρ Q => wAgs gs ρ fun as ρ' => okL gs ρ' ∧ S as fun d => Q d ρ'
theorem mono_call {S : Sd} {gs : List Ag} (mS : MonoD S) (mg : MonoA gs) : MonoE (wCall S gs) := fun ρ Q Q' h => mg.run fun as ρ' ⟨k, q⟩ => ⟨k, mS as _ _ (fun d q => h d ρ' q) q⟩
theorem ArgsV.len {K : PySem.W.Frag} {G : Hp} {σ : L2.St} : ∀ {gs : List Ag} {vs : List V} {as : List Sl}, ArgsV K G σ gs vs as → vs.length = gs.length
  | [], _, _, h => congrArg List.length h.1
  | .loom i :: r, _, _, h => by
    obtain ⟨v, vs', as', rfl, _, _, t⟩ := h
    exact congrArg (· + 1) (ArgsV.len t)
  | .scr i :: r, _, _, h => by
    obtain ⟨v, vs', as', _, _, rfl, _, _, _, t⟩ := h
    exact congrArg (· + 1) (ArgsV.len t)
  | .e w :: r, _, _, h => by
    obtain ⟨v, vs', as', _, rfl, _, _, t⟩ := h
    exact congrArg (· + 1) (ArgsV.len t)
section
variable {R : Res} {X : Cx} {k n : Nat} {f : Addr} {fd : FuncData} {ps : List Str} {S : Sd} {x : Str} {p pos : Pos} {e : Expr} {es : List Expr} {gs : List Ag}
/-- f(a, ..) over data -/
theorem se_call (mS : MonoD S) (F : GFn X.prog X.w X.K X.mg X.base CX0 k f fd ps (spD R X.K n S)) (hn : gs.length = n) (hgd : X.A.guards = some []) (hr : Room k X.A) (hg : Gl X x) (hm : X.mg x = some (.ref f)) (hk : PySem.W.keepIn X.K (.ref f) = true) (hb : Binds X.K fd ps [])
    (ha : SA R X (e :: es) gs) (hdb : (x == ("__debug__" : Str)) = false := by decide) (he : starEach (e :: es) X.env = (false, eval e X.env) :: starEach es X.env := by rfl) (hpl : (backTo pos (starEach es X.env)).any (·.1) = false := by rfl) :
    SE R X (.Call (.Name x p) (e :: es) [] pos) (wCall S gs) := by
  refine ⟨fun B => PE.imp (ge_call F hgd hr hg hm hk hb pass0 (ha.pa B) hdb he hpl) fun σ H Q ⟨ρ, G, r, q⟩ => ?_, mono_call mS ha.mono⟩
  refine ⟨ρ, G, r, ha.mono.run (fun as ρ' ⟨ok, q⟩ vs G' H' s r' i => ?_) q⟩
  obtain ⟨la, fp, ql⟩ := r'.l
  rw [List.append_nil]
  exact spD_of mS r' ql (i.rel ql ok) (i.len.trans hn) (fun z => okL_any i ok z) (mS as _ _ (fun d q v G2 H2 s2 r2 i2 => q v G2 H2 (s.trans s2) r2 i2) q)
end
end DL
namespace DL
open PySem PySem.Spec PyProof.Rows L2
/-! ## calls by names -/
def pick {α : Type} (l : List α) : List Nat → Option (List α)
  | [] => some []
  | i :: r => match l[i]?, pick l r with
    | some a, some b => some (a :: b)
    | _, _ => none
/-- how many stand by place, how many by name, and which of all goes where -/
abbrev Perm := Nat × Nat × List Nat
def perm {α : Type} (is : Perm) (us ws : List α) : List α := if us.length = is.1 ∧ ws.length = is.2.1 then (pick (us ++ ws) is.2.2).getD [] else []
theorem pick_rel {α β : Type} {F : α → β → Prop} {xs : List α} {ys : List β} (h : Paired F xs ys) : ∀ is : List Nat, (pick xs is = none ∧ pick ys is = none) ∨ ∃ a b, pick xs is = some a ∧ pick ys is = some b ∧ Paired F a b
  | [] => .inr ⟨[], [], rfl, rfl, .nil⟩
  | i :: r => by
    have len := Paired.length h
    unfold pick
    rcases pick_rel h r with ⟨e1, e2⟩ | ⟨a, b, e1, e2, k⟩
    · rw [e1, e2]
      refine .inl ⟨?_, ?_⟩
      · cases xs[i]? <;> rfl
      · cases ys[i]? <;> rfl
    · rw [e1, e2]
      by_cases q : i < ys.length
      · obtain ⟨x, h1, h2⟩ := paired_get h (List.getElem?_eq_getElem q)
        rw [h1, List.getElem?_eq_getElem q]
        exact .inr ⟨_, _, rfl, rfl, .cons h2 k⟩
      · rw [List.getElem?_eq_none (by omega), List.getElem?_eq_none (by omega)]
        exact .inl ⟨rfl, rfl⟩
theorem paired_app {α β : Type} {F : α → β → Prop} : ∀ {xs xs' : List α} {ys ys' : List β}, Paired F xs ys → Paired F xs' ys' → Paired F (xs ++ xs') (ys ++ ys')
  | _, _, _, _, .nil, h => h
  | _, _, _, _, .cons h t, k => .cons h (paired_app t k)
theorem perm_rel {α β : Type} {F : α → β → Prop} {xs xs' : List α} {ys ys' : List β} (h : Paired F xs ys) (h' : Paired F xs' ys') (is : Perm) : Paired F (perm is xs xs') (perm is ys ys') := by
  unfold perm
  rw [Paired.length h, Paired.length h']
  split
  · rcases pick_rel (paired_app h h') is.2.2 with ⟨e1, e2⟩ | ⟨a, b, e1, e2, k⟩
    · rw [e1, e2]
      exact .nil
    · rw [e1, e2]
      exact k
  · exact .nil
/-- how names bind: b by rfl -/
theorem kb_of {K : PySem.W.Frag} {x qual : Str} {st : Stmt} {f : Addr} {fd : FuncData} {ps ks : List Str} {is : Perm} (F : Fun K x qual st f fd) (h0 : ps.length ≠ 0)
    (h : ∀ (kV doc pm : Value) (an : Option Addr) (cdv ct : Value) (us ws : List Value), us.length = is.1 → ws.length = is.2.1 → bindArgs (PySem.W.fnOf x qual (defArgs st) (defBody st) (defScope st) .none kV doc pm an cdv ct) ⟨us, ks.zip ws⟩ = pure (ps.zip (perm is us ws))) :
    KBinds K fd ps ks (perm is) (perm is) := by
  obtain ⟨oc, od, kV, doc, pm, an, cdv, ct, osl, rfl, lk, hcd⟩ := F.ex
  refine ⟨fun s us ws _ hl => ?_, fun r1 r2 => perm_rel r1 r2 is⟩
  by_cases hp : us.length = is.1 ∧ ws.length = is.2.1
  · exact .of_eq (h kV doc pm an cdv ct us ws hp.1 hp.2)
  · rw [show perm is us ws = [] from if_neg hp] at hl
    exact absurd hl.symm h0
structure SK (R : Res) (X : Cx) (kws : List Keyword) (gs : List Ag) : Prop where
  pk : ∀ B, PK X kws (liftA R X.K B gs)
  mono : MonoA gs
section
variable {R : Res} {X : Cx} {nm : Option Str} {kpos : Pos} {e : Expr} {kws : List Keyword} {gs : List Ag} {w : WE}
theorem PK.imp {kws : List Keyword} {t t' : TA} (h : PK X kws t) (f : ∀ σ H Q, t' σ H Q → t σ H Q) : PK X kws t' :=
  ⟨fun pos pins s σ H Q I q => h.run pos pins s σ H Q I (f σ H Q q)⟩
theorem sk_nil : SK R X [] [] := ⟨fun B => PK.imp pk_nil fun σ H Q ⟨ρ, G, r, q⟩ => q [] G H (Same.refl G) r ⟨rfl, rfl⟩, trivial⟩
theorem sk_cons (h : SE R X e w) (ht : SK R X kws gs) : SK R X (⟨nm, e, kpos⟩ :: kws) (.e w :: gs) := by
  refine ⟨fun B => PK.imp (pk_cons (h.pe B) (ht.pk B)) fun σ H Q ⟨ρ, G, r, q⟩ => ?_, ⟨h.mono, ht.mono⟩⟩
  refine ⟨ρ, G, r, h.mono ρ _ _ (fun d ρ1 q v G1 H1 s1 r1 i1 => ?_) q⟩
  refine ⟨ρ1, G1, r1, ht.mono.run (fun as ρ2 q vs G2 H2 s2 r2 i2 => ?_) q⟩
  exact q (v :: vs) G2 H2 (s1.trans s2) r2 ⟨v, vs, as, d, rfl, rfl, i1.mono s2, i2⟩
theorem sk_loom {i : Nat} {x : Str} {p : Pos} (h : PE X (.Name x p) (tVar i)) (ht : SK R X kws gs) : SK R X (⟨nm, .Name x p, kpos⟩ :: kws) (.loom i :: gs) := by
  refine ⟨fun B => PK.imp (pk_cons h (ht.pk B)) fun σ H Q ⟨ρ, G, r, q⟩ => ?_, ht.mono⟩
  obtain ⟨e, q⟩ := q
  obtain ⟨la, fp, q1⟩ := r.l
  have e1 := q1.pl i e
  refine ⟨_, e1, ρ, G, r, ht.mono.run (fun as ρ2 q vs G2 H2 s2 r2 i2 => ?_) q⟩
  exact q (_ :: vs) G2 H2 s2 r2 ⟨_, vs, as, rfl, rfl, e1, i2⟩
end
@[simp] def wCallK (S : Sd) (is : Perm) (gs ks : List Ag) : WE := fun ρ Q => wAgs gs ρ fun as ρ1 => wAgs ks ρ1 fun bs ρ' => okL gs ρ' ∧ okL ks ρ' ∧ S (perm is as bs) fun d => Q d ρ'
theorem mono_callK {S : Sd} {is : Perm} {gs ks : List Ag} (mS : MonoD S) (mg : MonoA gs) (mk : MonoA ks) : MonoE (wCallK S is gs ks) := fun ρ Q Q' h => mg.run fun as ρ1 q => mk.run (fun bs ρ' ⟨a, b, q⟩ => ⟨a, b, mS _ _ _ (fun d q => h d ρ' q) q⟩) q
theorem hasL_iff : ∀ {as : List Sl}, hasL as = true → ∃ i : Nat, as[i]? = some .loom
  | .loom :: _, _ => ⟨0, rfl⟩
  | .un :: r, h => by
    obtain ⟨i, e⟩ := hasL_iff (as := r) h
    exact ⟨i + 1, by simpa using e⟩
  | .d _ :: r, h => by
    obtain ⟨i, e⟩ := hasL_iff (as := r) h
    exact ⟨i + 1, by simpa using e⟩
  | .own _ :: r, h => by
    obtain ⟨i, e⟩ := hasL_iff (as := r) h
    exact ⟨i + 1, by simpa using e⟩
  | .scr _ :: r, h => by
    obtain ⟨i, e⟩ := hasL_iff (as := r) h
    exact ⟨i + 1, by simpa using e⟩
theorem pick_mem {α : Type} {l : List α} : ∀ {is : List Nat} {r : List α} {i : Nat} {x : α}, pick l is = some r → r[i]? = some x → ∃ j : Nat, l[j]? = some x
  | [], r, i, x, h, e => by
    cases h
    simp at e
  | j :: js, r, i, x, h, e => by
    unfold pick at h
    split at h
    · rename_i a b ha hb
      cases h
      cases i with
      | zero =>
        simp at e
        subst e
        exact ⟨j, ha⟩
      | succ i => exact pick_mem hb (by simpa using e)
    · cases h
theorem hasL_perm {is : Perm} {as bs : List Sl} (h : hasL (perm is as bs) = true) : hasL as = true ∨ hasL bs = true := by
  obtain ⟨i, e⟩ := hasL_iff h
  unfold perm at e
  split at e
  case isFalse => simp at e
  cases q : pick (as ++ bs) is.2.2 with
  | none => rw [q] at e; simp at e
  | some r =>
    rw [q] at e
    obtain ⟨j, e'⟩ := pick_mem q e
    by_cases z : j < as.length
    · rw [List.getElem?_append_left z] at e'
      exact .inl (hasL_of e')
    · rw [List.getElem?_append_right (by omega)] at e'
      exact .inr (hasL_of e')
section
variable {R : Res} {X : Cx} {k n : Nat} {f : Addr} {fd : FuncData} {ps ks : List Str} {S : Sd} {x : Str} {p pos : Pos} {e : Expr} {es : List Expr} {gs hs : List Ag} {kws : List Keyword} {is : Perm}
theorem callK_lift {K : PySem.W.Frag} {B : Bs} {σ : L2.St} {H : Hp} {Q : VK} (mS : MonoD S) (mg : MonoA gs) (mh : MonoA hs) (hn : ∀ as bs : List V, as.length = gs.length → bs.length = hs.length → (perm is as bs).length = n)
    (h : liftE R K B (wCallK S is gs hs) σ H Q) : tCallK (spD R K n S) (perm is) E0 (liftA R K B gs) (liftA R K B hs) σ H Q := by
  obtain ⟨ρ, G, r, q⟩ := h
  refine ⟨ρ, G, r, mg.run (fun as ρ1 q vs G1 H1 s1 r1 i1 => ?_) q⟩
  refine ⟨ρ1, G1, r1, mh.run (fun bs ρ2 q zs G2 H2 s2 r2 i2 => ?_) q⟩
  obtain ⟨o1, o2, q⟩ := q
  obtain ⟨la, fp, ql⟩ := r2.l
  have i1 := i1.mono s2
  exact spD_of mS r2 ql (perm_rel (i1.rel ql o1) (i2.rel ql o2) is) (hn vs zs i1.len i2.len) (fun z => (hasL_perm z).elim (okL_any i1 o1) (okL_any i2 o2)) (mS _ _ _ (fun d q v G3 H3 s3 r3 i3 => q v G3 H3 ((s1.trans s2).trans s3) r3 i3) q)
theorem se_callK (mS : MonoD S) (F : GFn X.prog X.w X.K X.mg X.base CX0 k f fd ps (spD R X.K n S)) (hn : ∀ as bs : List V, as.length = gs.length → bs.length = hs.length → (perm is as bs).length = n) (hgd : X.A.guards = some []) (hr : Room k X.A) (hg : Gl X x) (hm : X.mg x = some (.ref f)) (hk : PySem.W.keepIn X.K (.ref f) = true)
    (hb : KBinds X.K fd ps ks (perm is) (perm is)) (ha : SA R X (e :: es) gs) (hkw : SK R X kws hs) (hall : (backToKw pos (keywordEach kws X.env)).all (·.1.isSome) = true := by rfl) (hks : (backToKw pos (keywordEach kws X.env)).filterMap (·.1) = ks := by rfl)
    (hdb : (x == ("__debug__" : Str)) = false := by decide) (he : starEach (e :: es) X.env = (false, eval e X.env) :: starEach es X.env := by rfl) (hpl : ((backTo pos (starEach (e :: es) X.env)).any (·.1) || (backToKw pos (keywordEach kws X.env)).any (·.1.isNone)) = false := by rfl) :
    SE R X (.Call (.Name x p) (e :: es) kws pos) (wCallK S is gs hs) :=
  ⟨fun B => PE.imp (ge_callK F hgd hr hg hm hk hb pass0 (ha.pa B) (hkw.pk B) hall hks hdb he hpl) fun σ H Q h => callK_lift mS ha.mono hkw.mono hn h, mono_callK mS ha.mono hkw.mono⟩
theorem se_callK0 (mS : MonoD S) (F : GFn X.prog X.w X.K X.mg X.base CX0 k f fd ps (spD R X.K n S)) (hn : ∀ as bs : List V, as.length = ([] : List Ag).length → bs.length = hs.length → (perm is as bs).length = n) (hgd : X.A.guards = some []) (hr : Room k X.A) (hg : Gl X x) (hm : X.mg x = some (.ref f)) (hk : PySem.W.keepIn X.K (.ref f) = true)
    (hb : KBinds X.K fd ps ks (perm is) (perm is)) (hkw : SK R X kws hs) (hall : (backToKw pos (keywordEach kws X.env)).all (·.1.isSome) = true := by rfl) (hks : (backToKw pos (keywordEach kws X.env)).filterMap (·.1) = ks := by rfl)
    (hdb : (x == ("__debug__" : Str)) = false := by decide) (hpl : ((backTo pos (starEach [] X.env)).any (·.1) || (backToKw pos (keywordEach kws X.env)).any (·.1.isNone)) = false := by rfl) :
    SE R X (.Call (.Name x p) [] kws pos) (wCallK S is [] hs) := by
  refine ⟨fun B => PE.imp (ge_callK0 F hgd hr hg hm hk hb pass0 (hkw.pk B) hall hks hdb hpl) fun σ H Q h => ?_, mono_callK mS trivial hkw.mono⟩
  have z := callK_lift (gs := []) mS trivial hkw.mono hn h
  obtain ⟨ρ, G, r, q⟩ := z
  exact q [] G H (Same.refl G) r ⟨rfl, rfl⟩
end
/-! ## making the resource -/
def spMk (R : Res) (K : PySem.W.Frag) : Sp := fun vs H Q _ => ∃ (a : Addr) (ns : List Int), vs = [.ref a] ∧ SqL K H a (ns.map V.int) ∧ ns.length ≤ 63 ∧ ∀ la fp H', Sub H H' → R.ok H' la fp → (∀ b ∈ fp, H b = none) → Q (.ref la) H'
theorem Rel.mkL {R : Res} {K : PySem.W.Frag} {B : Bs} {G H H' : Hp} {ρ : Sls} {σ : L2.St} (r : Rel R K B G ρ σ H) (nl : hasL ρ = false) (nh : B.has = false) {la : Addr} {fp : List Addr} (s : Sub H H') (ok : R.ok H' la fp) (new : ∀ b ∈ fp, H b = none) (i : Nat) :
    Rel R K B G (ρ.set i .loom) (σ.set i (some (.ref la))) H' := by
  have nol : ∀ j : Nat, ρ[j]? ≠ some .loom := fun j e => by
    rw [hasL_of e] at nl
    cases nl
  refine ⟨r.sub.trans s, by rw [List.length_set, List.length_set]; exact r.len, r.g0, r.new, fun b o e hb => s _ _ (r.fr b o e hb), fun b hb => ?_, fun j y e => ?_, fun j y e => ?_, fun j y e => ?_, la, fp, fun j e => ?_, fun _ => ok, fun b hb => ?_, fun z => by rw [nh] at z; cases z⟩
  · obtain ⟨z1, z2, z3⟩ := r.fp0 b hb
    refine ⟨z1, z2, ?_⟩
    cases e : H b with
    | none => exact absurd e z3
    | some o => rw [s b o e]; exact nofun
  · rcases set_at e with ⟨_, z⟩ | ⟨z1, z2⟩
    · cases z
    · rw [set_get z1]
      exact r.d j y z2
  · rcases set_at e with ⟨_, z⟩ | ⟨z1, z2⟩
    · cases z
    · rw [set_get z1]
      exact r.s j y z2
  · rcases set_at e with ⟨_, z⟩ | ⟨z1, z2⟩
    · cases z
    · obtain ⟨a, ho, e1, e2, e3, e4, e5, e6⟩ := r.o j y z2
      rw [set_get z1]
      refine ⟨a, ho, e1, e2, e3, s _ _ e4, e5, fun l z h1 h2 => ?_⟩
      rcases set_at h1 with ⟨_, q⟩ | ⟨q1, q2⟩
      · cases q
      · rw [set_get q1] at h2
        exact e6 l z q2 h2
  · rcases set_at e with ⟨z1, _⟩ | ⟨_, z2⟩
    · subst z1
      have hi : i < σ.length := by
        have := (List.getElem?_eq_some_iff.mp e).1
        rw [List.length_set, r.len] at this
        exact this
      rw [List.getElem?_set_self hi]
    · exact absurd z2 (nol j)
  · have nb := new b hb
    refine ⟨r.sub.free nb, R.there H' la fp ok b hb, .inl (r.h0 nb), fun j y e z => ?_⟩
    rcases set_at e with ⟨_, q⟩ | ⟨q1, q2⟩
    · cases q
    · rw [set_get q1] at z
      obtain ⟨a, ho, e1, _, _, e4, _⟩ := r.o j y q2
      rw [e1] at z
      cases z
      rw [nb] at e4
      cases e4
/-- statements where no resource has been handed in -/
structure SS0 (R : Res) (X : Cx) (st : Stmt) (w : WS) : Prop where
  ps : ∀ B : Bs, B.has = false → PS X st (liftS R X.K B w)
  mono : MonoS w
structure SSs0 (R : Res) (X : Cx) (st : List Stmt) (w : WS) : Prop where
  ps : ∀ B : Bs, B.has = false → PSs X st (liftS R X.K B w)
  mono : MonoS w
@[simp] def wMk (i j : Nat) : WS := fun D ρ => (∃ ns : List Int, ρ[j]? = some (.scr ns) ∧ ns.length ≤ 63) ∧ hasL ρ = false ∧ D.nx (ρ.set i .loom)
section
variable {R : Res} {X : Cx} {st : Stmt} {sts : List Stmt} {ws wt : WS} {pos : Pos}
theorem sss0_cons (h : SS0 R X st ws) (t : SSs R X sts wt) : SSs0 R X (st :: sts) (wSeq ws wt) := by
  refine ⟨fun B nh => PSs.imp (pss_cons (h.ps B nh) (t.ps B)) fun D σ H ⟨ρ, G, r, q⟩ => ⟨ρ, G, r, h.mono { enL R X.K B G D with nx := wt (enL R X.K B G D) } _ ρ ⟨fun ρ1 q σ' G' H' s r' => ⟨ρ1, G', r', t.mono _ _ ρ1 (enL_le s) q⟩, fun _ h => h, fun _ h => h, fun _ h => h⟩ q⟩, fun D D' ρ l => h.mono _ _ ρ ⟨fun ρ1 q => t.mono _ _ ρ1 l q, l.rt, l.bk, l.ct⟩⟩
theorem ss0_mk {k : Nat} {f : Addr} {fd : FuncData} {ps : List Str} {x y : Str} {i j : Nat} {p p' p'' cpos : Pos} (hN : X.N.Nodup) (hi : X.N[i]? = some x) (hx : Loc X.env.scope x) (F : GFn X.prog X.w X.K X.mg X.base CX0 k f fd ps (spMk R X.K)) (hgd : X.A.guards = some []) (hr : Room k X.A) {fn : Str} (hg : Gl X fn) (hm : X.mg fn = some (.ref f)) (hk : PySem.W.keepIn X.K (.ref f) = true) (hb : Binds X.K fd ps [])
    (ha : PE X (.Name y p) (tVar j)) (hdb : (fn == ("__debug__" : Str)) = false := by decide) (he : starEach [.Name y p] X.env = [(false, eval (.Name y p) X.env)] := by rfl) (hpl : (backTo cpos (starEach [] X.env)).any (·.1) = false := by rfl)
    (hs : swapsWith (.Call (.Name fn p') [.Name y p] [] cpos) (some (.Name x p'')) pos.line X.env = pure false := by rfl) (hf : X.fn x = true ∨ X.env.scope.names.lookup x = some .local := by first | exact .inl rfl | exact .inr rfl | assumption) :
    SS0 R X (.Assign [.Name x p''] (.Call (.Name fn p') [.Name y p] [] cpos) pos) (wMk i j) := by
  refine ⟨fun B nh => PS.imp (ps_set hN hi hx (ge_call F hgd hr hg hm hk hb pass0 (pa_cons ha pa_nil (by rw [he]; rfl)) hdb (by rw [he]; rfl) hpl) hs hf) fun D σ H ⟨ρ, G, r, ⟨ns, e, hl⟩, nl, q⟩ => ?_, fun D D' ρ l ⟨a, b, q⟩ => ⟨a, b, l.nx _ q⟩⟩
  obtain ⟨a, e1, e2⟩ := r.s j ns e
  refine ⟨_, e1, a, ns, rfl, Same.seq r.sub e2, hl, fun la fp H' s ok new => ?_⟩
  exact q _ G H' (Same.refl G) (r.mkL nl nh s ok new i)
end
/-- the law's own promise -/
def spLaw (K : PySem.W.Frag) : Sp := fun vs H Q _ => ∃ (a : Addr) (ns : List Int), vs = [.ref a] ∧ SqL K H a (ns.map V.int) ∧ ns.length ≤ 63 ∧ ∀ H', Q (.bl true) H'
section
variable {P : Program} {w : World} {K : PySem.W.Frag} {mg : Str → Option Value} {base : Heap} {k : Nat} {R : Res}
theorem law_gd {x qual p : Str} {st : Stmt} {f : Addr} {fd : FuncData} {N : List Str} (F : Fun K x qual st f fd) (Sc : FnScope N [p] (defScope st))
    (hb : ∀ (cdv : Value) (A : Around) (outer : List PySem.Env) (s : Shared) (H : Hp) (E : XK), (A.deeper (envOfC qual (defScope st) s.heap.objs.size f cdv)).guards = some [] → Room k (A.deeper (envOfC qual (defScope st) s.heap.objs.size f cdv)) →
      ∃ ws, SSs0 R (cxOf CX0 P w K mg base N qual (defScope st) f cdv A outer s H E).nox (defBody st) ws ∧ ∀ ns : List Int, ns.length ≤ 63 → ws (enD (· = .bool true)) (entry N [.scr ns])) :
    GFn P w K mg base CX0 (k + 1) f fd [p] (spLaw K) := by
  obtain ⟨oc, od, kV, doc, pm, an, cdv, ct, osl, rfl, lk, hcd⟩ := F.ex
  refine gfn_of lk hcd Sc (fun vs H Q E h => ?_) fun A outer s H vs Q E hg hr h => ?_
  · obtain ⟨a, ns, rfl, _⟩ := h
    rfl
  obtain ⟨ws, hws, hq⟩ := hb cdv A outer s H E hg hr
  obtain ⟨a, ns, rfl, hS, hl, q⟩ := h
  have hr0 : Rel R K ⟨H, H, [], 0, false⟩ H (entry N [.scr ns]) (L2.start N [.ref a]) H :=
    
    Rel.entry (la := 0) (fp := []) (as := [.scr ns]) (Same.refl H) (.cons (show Arg1 K H 0 (.ref a) (.scr ns) from ⟨a, rfl, hS⟩) .nil) (fun b hb => absurd hb (by simp)) (fun z => absurd z Bool.false_ne_true)
  refine ⟨_, (hws.ps ⟨H, H, [], 0, false⟩ rfl).nox, _, H, hr0, hws.mono (enD (· = .bool true)) _ _ ⟨fun ρ' z => (nomatch (show PyData.none = PyData.bool true from z)), fun d z v ρ' σ' G' H' s r i => ?_, fun _ z => False.elim z, fun _ z => False.elim z⟩ (hq ns hl)⟩
  have z : d = .bool true := z
  subst z
  rw [i.bool]
  exact q H'
end
/-! ## the end of a law -/
/-- the module sys.modules is an object that nobody has made here -/
def SysIn (base : Heap) : Prop := ∃ o, base.get? sysModules = some o
theorem law_call {P : Program} {w : World} {K : PySem.W.Frag} {mg mb : Str → Option Value} {k : Nat} {fa a : Addr} {fd : FuncData} {x : Str} {s₁ : Shared} {vs : List Value} {ns : List Int}
    (KX : K.In s₁.heap) (hns : s₁.heap.Ns mainGlobals mg) (hb : s₁.heap.Ns builtinsNs mb) (hbb : ∀ x : Str, x ≠ "__name__" → mb x = bootBuiltins x) (hlim : s₁.heap.NoLimit) (hg : s₁.gens = #[]) (hsys : ∃ mm, s₁.heap.Ns sysModules mm)
    (ha : s₁.heap.get? a = some { cls := .type "list", data := .seq vs.toArray }) (hi : IntsAre vs ns) (hl : ns.length ≤ 63) (hr : Room k callerA)
    (F : ∀ base : Heap, K.In base → base.Ns mainGlobals mg → SysIn base → GFn P w K mg base CX0 k fa fd [x] (spLaw K)) (hbind : ∀ (s : Shared) (u : Value), BindsTo s fd ⟨[u], []⟩ [(x, u)]) :
    codeAny (model P w) callerA (.call (.ref fa) ⟨[.ref a], []⟩) (fun r s' => r = .ok (.ret (.bool true)) ∧ OldK s₁.heap s'.heap ∧ s'.os = s₁.os ∧ AllBare s'.gens) s₁ := by
  have rv := vals_ints hi
  have lenV := hi.length
  have big : ns.length ≤ sizeLine := Nat.le_trans hl (by decide)
  let O : Obj := { cls := .type "list", data := .seq vs.toArray }
  let H : Hp := fun b => if b = a ∧ K.lookup a = none then some (.frz O (.lst (ns.map V.int))) else none
  have Hn : ∀ b, b ≠ a → H b = none := fun b h => if_neg fun z => h z.1
  have Hs : ∀ b o, H b = some o → b = a ∧ K.lookup a = none ∧ o = .frz O (.lst (ns.map V.int)) := fun b o e => by
    by_cases z : b = a ∧ K.lookup a = none
    · have e' := (show H b = _ from if_pos z).symm.trans e
      exact ⟨z.1, z.2, (Option.some.inj e').symm⟩
    · have e' := (show H b = none from if_neg z).symm.trans e
      cases e'
  have hok : HOk P w H s₁.heap := fun b o e => by
    obtain ⟨rfl, _, rfl⟩ := Hs b o e
    exact ⟨ha, by rw [List.length_map]; exact big, vs, _, rv, ha⟩
  have hS : SqL K H a (ns.map V.int) := by
    cases q : K.lookup a with
    | none => exact .inl (.inr ⟨O, if_pos ⟨rfl, q⟩⟩)
    | some o =>
      have e := KX a o q
      rw [ha] at e
      cases e
      exact .inr ⟨_, vs.toArray, _, q, rfl, rfl, rfl, by rw [List.size_toArray, lenV]; exact big, by simpa using rv⟩
  have dictN : ∀ {b : Addr} {o : Obj} {es : Array DictEntry} {ep : Nat}, s₁.heap.get? b = some o → o.data = .dict es ep → H b = none := fun {b o es ep} e d => by
    by_cases z : b = a
    · subst z
      rw [ha] at e
      cases e
      exact nomatch (show Data.seq vs.toArray _ = Data.dict es ep from d)
    · exact Hn b z
  have nsH : ∀ {b : Addr} {m : Str → Option Value}, s₁.heap.Ns b m → (hidT s₁.heap H).Ns b m := fun {b m} ⟨o, es, ep, e, d, r⟩ => ⟨o, es, ep, hidT_get e (dictN e d), d, r⟩
  have kinH : K.In (hidT s₁.heap H) := fun b o e => hidT_get (KX b o e) (by
    cases q : H b with
    | none => rfl
    | some u =>
      obtain ⟨rfl, h1, _⟩ := Hs b u q
      rw [h1] at e
      cases e)
  have md : Mod K mg (hidT s₁.heap H) := by
    obtain ⟨mc, l1, l2⟩ := hlim
    exact ⟨kinH, nsH hns, ⟨mb, nsH hb, hbb⟩, ⟨mc, nsH l1, l2⟩⟩
  have e0 : Env0 P w K mg (hidT s₁.heap H) callerA [] s₁ H :=
    ⟨rfl, md, fun b o e => of_hidT e, Nat.le_of_eq (hidT_size _ _), trivial, (fun b z => nomatch z), hok, .of_eq hg⟩
  refine codeAny_mono ((F _ kinH (nsH hns) (let ⟨_, h⟩ := hsys; let ⟨o, _, _, e, _⟩ := nsH h; ⟨o, e⟩)).go callerA [] s₁ H ⟨[.ref a], []⟩ [.ref a] [.ref a] (fun v _ => v = .bl true) (fun _ _ _ => False) rfl hr e0 (hbind s₁ (.ref a)) (.cons rfl .nil) ⟨a, ns, rfl, hS, hl, fun _ => rfl⟩) ?_
  intro r s' h
  match r, h with
  | .error e, h => exact False.elim h
  | .ok (.ret u), h =>
    obtain ⟨v, H', os, bare, un, hok', r', q⟩ := h
    have q : v = .bl true := q
    subst q
    obtain rfl : u = Value.bool true := r'
    refine ⟨rfl, OldK.of_keep fun b o e => ?_, os, bare⟩
    cases q : H b with
    | none => exact un.keep b o e q (List.not_mem_nil) (List.not_mem_nil)
    | some u =>
      obtain ⟨rfl, _, rfl⟩ := Hs b u q
      rw [ha] at e
      cases e
      obtain ⟨e2, _⟩ := hok' b _ (un.frzs b _ _ q)
      exact e2
theorem law_end {l : PySem.W.OpenLaw} {k : Nat} {q : Program} {loose : List Str} {XP : (Str → Option Value) → Heap → Prop} {YP : World → Heap → Prop} {d : DefRec} {K : Params → PySem.W.Frag} {x : Str}
    (hn : l.most = some 63) (hi : importsNone q = true) (hdf : d.params.defaults = []) (hr : Room k callerA) (hY : ∀ (w : World) (h : Heap), YP w h → (K w.params).In h)
    (F : ∀ (w : World) (mg : Str → Option Value) (fa : Addr) (h : Heap), (K w.params).In h → h.Ns mainGlobals mg → mg d.name = some (.ref fa) →
      ∃ fd : FuncData, (∀ (s : Shared) (u : Value), BindsTo s fd ⟨[u], []⟩ [(x, u)]) ∧ ∀ base : Heap, (K w.params).In base → base.Ns mainGlobals mg → SysIn base → GFn l.prog w (K w.params) mg base CX0 k fa fd [x] (spLaw (K w.params))) :
    PySem.W.WalkO q loose XP YP l.row.toRowW d [] (fun f vs => PySem.call f vs) := by
  refine Att.attach_call hn hdf ?_
  intro w s₀ s₁ mg mb fa o pm cd doc a vs ns G Y _ _ _ hmg hobj hints hlen hg
  have KX := hY w _ Y
  obtain ⟨fd, hb, hF⟩ := F w mg fa _ KX G.T.g hmg
  exact law_call KX G.T.g G.T.b G.T.builtins G.T.nolimit hg (let ⟨mm, h, _⟩ := (G.T.seer hi).mods; ⟨mm, h⟩) hobj hints hlen hr hF hb
end DL
namespace DL
open PySem PySem.Spec PyProof.Rows L2
/-! ## the operations of the language, over data -/
section
variable {R : Res} {K : PySem.W.Frag}
theorem aft {B : Bs} {G : Hp} {ρ : Sls} {σ : L2.St} {H : Hp} {Q : VK} {z : PyData} {v : V} (q : Aft R K B G ρ σ Q z) (r : Rel R K B G ρ σ H) (i : Is K G v z) : Q v H := q v G H (Same.refl G) r i
theorem aftN {B : Bs} {G : Hp} {ρ : Sls} {σ : L2.St} {H : Hp} {Q : VK} {z : PyData} {p : Addr} {o : HO} (q : Aft R K B G ρ σ Q z) (r : Rel R K B G ρ σ H) (n : H p = none) (i : Is K (upd G p o) (.ref p) z) : Q (.ref p) (upd H p o) :=
  q _ _ _ (upd_new (r.sub.free n)) (r.laid n) i
theorem isTup {G H : Hp} {p : Addr} {vs : List V} {ds : List PyData} (n : G p = none) (h : Iss K G vs ds) : Is K (upd G p (.tup vs)) (.ref p) (.tuple ds) := .tup (.inl (.inl upd_same)) (h.mono (upd_new n))
theorem isLst {G H : Hp} {p : Addr} {vs : List V} {ds : List PyData} (n : G p = none) (h : Iss K G vs ds) : Is K (upd G p (.lst vs)) (.ref p) (.list ds) := .lst upd_same (h.mono (upd_new n))
@[simp] def addD : D2
  | .int i, .int j, q => q (.int (i + j))
  | .int i, .bool c, q => q (.int (i + b2i c))
  | .str a, .str b, q => a.length + b.length ≤ sizeLine ∧ q (.str (a ++ b))
  | .tuple a, .tuple b, q => a.length + b.length ≤ sizeLine ∧ q (.tuple (a ++ b))
  | .list a, .list b, q => a.length + b.length ≤ sizeLine ∧ q (.list (a ++ b))
  | _, _, _ => False
def rAddD (K : PySem.W.Frag) : R2 := fun x y H Q => ((((rI0 (fun i j => .int (i + j)) x y H Q) ∨ (∃ i k, x = .int i ∧ y = .bl k ∧ Q (.int (i + b2i k)) H)) ∨ (∃ i j, x = .str i ∧ y = .str j ∧ i.length + j.length ≤ sizeLine ∧ Q (.str (i ++ j)) H)) ∨ rCatA K x y H Q) ∨ rCat x y H Q
theorem op_addD {X : Cx} : OpR X (binaryOp .Add) (rAddD X.K) := (((op_add.or op_add_ib).or op_add_str).or op_catA).or op_cat
theorem Iss.nil_iff {G : Hp} {vs : List V} {ds : List PyData} (h : Iss K G vs ds) : vs = [] ↔ ds = [] := by
  cases h <;> simp
theorem lk_add : Lk2 R K (rAddD K) addD := by
  refine ⟨fun B G ρ σ H v u x y Q r hx hy h => ?_, fun x y q q' hq h => ?_⟩
  · cases hx <;> cases hy <;> first
      | exact h.elim
      | exact .inl (.inl (.inl (.inl ⟨_, _, rfl, rfl, aft h r (.int _)⟩)))
      | exact .inl (.inl (.inl (.inr ⟨_, _, rfl, rfl, aft h r (.int _)⟩)))
      | exact .inl (.inl (.inr ⟨_, _, rfl, rfl, h.1, aft h.2 r (.str _)⟩))
      | skip
    · rename_i a vs ds sa ha b us es sb hb
      refine .inr ⟨a, b, vs, us, rfl, rfl, sa, sb, by rw [ha.length, hb.length]; exact h.1, fun p np => aftN h.2 r np (isLst (H := H) (r.sub.free np) (ha.append hb))⟩
    · rename_i a vs ds sa ha b us es sb hb
      refine .inl (.inr ⟨a, b, vs, us, rfl, rfl, Sub.seqT r.sub sa, Sub.seqT r.sub sb, by rw [ha.length, hb.length]; exact h.1, fun e => ?_, fun e1 e2 => ?_, fun e1 e2 p np => aftN h.2 r np (isTup (H := H) (r.sub.free np) (ha.append hb))⟩)
      · have e' := ha.nil_iff.mp e
        subst e'
        exact aft h.2 r (.tup sb hb)
      · have e' := hb.nil_iff.mp e2
        subst e'
        have q := aft h.2 r (.tup (ds := ds ++ []) sa (by rw [List.append_nil]; exact ha))
        exact q
  · unfold addD at h ⊢
    split at h <;> first
      | exact hq _ h
      | exact ⟨h.1, hq _ h.2⟩
      | exact h.elim
end
end DL
namespace DL
open PySem PySem.Spec PyProof.Rows L2
section
variable {R : Res} {K : PySem.W.Frag}
/-- two ints -/
@[simp] def intD (C : Int → Int → Prop) (g : Int → Int → PyData) : D2
  | .int i, .int j, q => C i j ∧ q (g i j)
  | _, _, _ => False
theorem lk_int {C : Int → Int → Prop} {g : Int → Int → V} {gd : Int → Int → PyData} (hg : ∀ i j G, Is K G (g i j) (gd i j)) : Lk2 R K (rI C g) (intD C gd) := by
  refine ⟨fun B G ρ σ H v u x y Q r hx hy h => ?_, fun x y q q' hq h => ?_⟩
  · cases hx <;> cases hy <;> first
      | exact h.elim
      | exact ⟨_, _, rfl, rfl, h.1, aft h.2 r (hg _ _ _)⟩
  · unfold intD at h ⊢
    split at h
    · exact ⟨h.1, hq _ h.2⟩
    · exact h.elim
@[simp] def intD0 (g : Int → Int → PyData) : D2
  | .int i, .int j, q => q (g i j)
  | _, _, _ => False
theorem lk_int0 {g : Int → Int → V} {gd : Int → Int → PyData} (hg : ∀ i j G, Is K G (g i j) (gd i j)) : Lk2 R K (rI0 g) (intD0 gd) := by
  refine ⟨fun B G ρ σ H v u x y Q r hx hy h => ?_, fun x y q q' hq h => ?_⟩
  · cases hx <;> cases hy <;> first
      | exact h.elim
      | exact ⟨_, _, rfl, rfl, aft h r (hg _ _ _)⟩
  · unfold intD0 at h ⊢
    split at h
    · exact hq _ h
    · exact h.elim
@[simp] abbrev subD : D2 := intD0 fun i j => .int (i - j)
theorem lk_sub : Lk2 R K (rI0 fun i j => .int (i - j)) subD := lk_int0 fun _ _ _ => .int _
@[simp] abbrev mulD : D2 := intD CMul fun i j => .int (i * j)
theorem lk_mul : Lk2 R K (rI CMul fun i j => .int (i * j)) mulD := lk_int fun _ _ _ => .int _
@[simp] abbrev fdivD : D2 := intD CDiv fun i j => .int (i / j)
theorem lk_fdiv : Lk2 R K (rI CDiv fun i j => .int (i / j)) fdivD := lk_int fun _ _ _ => .int _
@[simp] abbrev modD : D2 := intD (fun _ j => 0 < j) fun i j => .int (i % j)
theorem lk_mod : Lk2 R K (rI (fun _ j => 0 < j) fun i j => .int (i % j)) modD := lk_int fun _ _ _ => .int _
@[simp] abbrev powD : D2 := intD CPow fun i j => .int (i ^ j.toNat)
theorem lk_pow : Lk2 R K (rI CPow fun i j => .int (i ^ j.toNat)) powD := lk_int fun _ _ _ => .int _
@[simp] abbrev ltD : D2 := intD0 fun i j => .bool (decide (i < j))
@[simp] abbrev leD : D2 := intD0 fun i j => .bool (decide (i ≤ j))
@[simp] abbrev gtD : D2 := intD0 fun i j => .bool (decide (j < i))
@[simp] abbrev geD : D2 := intD0 fun i j => .bool (decide (j ≤ i))
theorem lk_lt : Lk2 R K (rI0 fun i j => .bl (decide (i < j))) ltD := lk_int0 fun _ _ _ => .bl _
theorem lk_le : Lk2 R K (rI0 fun i j => .bl (decide (i ≤ j))) leD := lk_int0 fun _ _ _ => .bl _
theorem lk_gt : Lk2 R K (rI0 fun i j => .bl (decide (j < i))) gtD := lk_int0 fun _ _ _ => .bl _
theorem lk_ge : Lk2 R K (rI0 fun i j => .bl (decide (j ≤ i))) geD := lk_int0 fun _ _ _ => .bl _
@[simp] def negD : D1
  | .int i, q => q (.int (-i))
  | _, _ => False
theorem lk_neg : Lk1 R K (rU fun i => .int (-i)) negD := by
  refine ⟨fun B G ρ σ H v x Q r hx h => ?_, fun x q q' hq h => ?_⟩
  · cases hx <;> first
      | exact h.elim
      | exact ⟨_, rfl, aft h r (.int _)⟩
  · unfold negD at h ⊢
    split at h
    · exact hq _ h
    · exact h.elim
/-! ### equality -/
def noDct : PyData → Bool
  | .dict _ => false
  | _ => true
mutual
theorem Iss.dp {G H : Hp} (s : Sub G H) : ∀ {vs : List V} {ds : List PyData}, PyData.canLayAll0 ds = true → Iss K G vs ds → DpAll K H vs ds
  | _, _, _, .nil => .nil
  | _, _, c, .cons h t => by
    simp only [PyData.canLayAll0, Bool.and_eq_true] at c
    exact .cons (Is.dp s c.1 h) (Iss.dp s c.2 t)
theorem Is.dp {G H : Hp} (s : Sub G H) : ∀ {v : V} {d : PyData}, d.canLay0 = true → Is K G v d → Dp K H v d
  | _, _, _, .non => .non
  | _, _, _, .bl b => .bl b
  | _, _, _, .int i => .int i
  | _, _, _, .str x => .str x
  | _, _, c, .lst sa ha => .lst (.of (s _ _ sa)) (Iss.dp s (by simpa [PyData.canLay0] using c) ha)
  | _, _, c, .tup sa ha => .tup (Sub.seqT s sa) (Iss.dp s (by simpa [PyData.canLay0] using c) ha)
  | _, _, c, .dct sa ha => by simp [PyData.canLay0] at c
end
theorem IsH.dp {G H : Hp} (s : Sub G H) {v : V} {d : PyData} (c : d.canLay0 = true) : IsH K G H v d → Dp K H v d
  | .non => .non
  | .bl b => .bl b
  | .int i => .int i
  | .str x => .str x
  | .lst sa ha => .lst (.of sa) (ha.dp s (by simpa [PyData.canLay0] using c))
  | .tup sa ha => .tup (Sub.seqT s sa) (ha.dp s (by simpa [PyData.canLay0] using c))
  | .dct sa ha => by simp [PyData.canLay0] at c
@[simp] def eqD : D2 := fun x y q => SeqAt.shaped x = true ∧ SeqAt.shaped y = true ∧ q (.bool (PyData.eqv x y))
@[simp] def neD : D2 := fun x y q => SeqAt.shaped x = true ∧ SeqAt.shaped y = true ∧ q (.bool (!PyData.eqv x y))
theorem lk_eq : Lk2 R K (rEqD K) eqD := by
  refine ⟨fun B G ρ σ H v u x y Q r hx hy h => ?_, fun x y q q' hq h => ⟨h.1, h.2.1, hq _ h.2.2⟩⟩
  exact ⟨x, y, hx.dp r.sub (SeqAt.canLay_of_shaped h.1), hy.dp r.sub (SeqAt.canLay_of_shaped h.2.1), h.1, h.2.1, aft h.2.2 r (.bl _)⟩
theorem lk_ne : Lk2 R K (rNeD K) neD := by
  refine ⟨fun B G ρ σ H v u x y Q r hx hy h => ?_, fun x y q q' hq h => ⟨h.1, h.2.1, hq _ h.2.2⟩⟩
  exact ⟨x, y, hx.dp r.sub (SeqAt.canLay_of_shaped h.1), hy.dp r.sub (SeqAt.canLay_of_shaped h.2.1), h.1, h.2.1, aft h.2.2 r (.bl _)⟩
/-! ### is None -/
@[simp] def isND (neg : Bool) : D2 := fun x y q => y = .none ∧ q (.bool (match x with | .none => !neg | _ => neg))
theorem lk_isN : Lk2 R K (fun x y H Q => y = .non ∧ Q (.bl (decide (x = .non))) H) (isND false) := by
  refine ⟨fun B G ρ σ H v u x y Q r hx hy h => ?_, fun x y q q' hq h => ⟨h.1, hq _ h.2⟩⟩
  obtain ⟨rfl, h⟩ := h
  cases hy
  refine ⟨rfl, ?_⟩
  cases hx <;> exact aft h r (.bl _)
theorem lk_notN : Lk2 R K (fun x y H Q => y = .non ∧ Q (.bl (!decide (x = .non))) H) (isND true) := by
  refine ⟨fun B G ρ σ H v u x y Q r hx hy h => ?_, fun x y q q' hq h => ⟨h.1, hq _ h.2⟩⟩
  obtain ⟨rfl, h⟩ := h
  cases hy
  refine ⟨rfl, ?_⟩
  cases hx <;> exact aft h r (.bl _)
/-! ### subscripts -/
@[simp] def ixD : D2
  | .list ds, .int i, q => ∃ d, atI ds i = some d ∧ q d
  | .tuple ds, .int i, q => ∃ d, atI ds i = some d ∧ q d
  | .str z, .int i, q => z.length ≤ sizeLine ∧ ∃ c, atI z.cps.toList i = some c ∧ q (.str ⟨#[c]⟩)
  | _, _, _ => False
theorem Iss.atI {G : Hp} {vs : List V} {ds : List PyData} (h : Iss K G vs ds) {i : Int} {d : PyData} (e : L2.atI ds i = some d) : ∃ v, L2.atI vs i = some v ∧ Is K G v d := by
  unfold L2.atI at e ⊢
  rw [h.length]
  cases q : ixN ds.length i with
  | none => rw [q] at e; cases e
  | some j =>
    rw [q] at e
    exact h.get e
theorem lk_ix : Lk2 R K (rIx K) ixD := by
  refine ⟨fun B G ρ σ H v u x y Q r hx hy h => ?_, fun x y q q' hq h => ?_⟩
  · cases hx <;> cases hy <;> first
      | exact h.elim
      | skip
    · obtain ⟨z, c, e, q⟩ := h
      exact .inr (.inr ⟨_, _, c, rfl, rfl, z, e, aft q r (.str _)⟩)
    · rename_i sa ha i
      obtain ⟨d, e, q⟩ := h
      obtain ⟨w, e1, i1⟩ := ha.atI e
      exact .inl ⟨_, _, _, w, rfl, rfl, .of sa, e1, aft q r i1⟩
    · rename_i sa ha i
      obtain ⟨d, e, q⟩ := h
      obtain ⟨w, e1, i1⟩ := ha.atI e
      exact .inr (.inl ⟨_, _, _, w, rfl, rfl, Sub.seqT r.sub sa, e1, aft q r i1⟩)
  · unfold ixD at h ⊢
    split at h
    · exact ⟨h.choose, h.choose_spec.1, hq _ h.choose_spec.2⟩
    · exact ⟨h.choose, h.choose_spec.1, hq _ h.choose_spec.2⟩
    · exact ⟨h.1, h.2.choose, h.2.choose_spec.1, hq _ h.2.choose_spec.2⟩
    · exact h.elim
end
/-! ### slices -/
structure LkS (R : Res) (K : PySem.W.Frag) (r : V → Option Int → Option Int → Hp → VK → Prop) (f : PyData → Option Int → Option Int → (PyData → Prop) → Prop) : Prop where
  to : ∀ (B : Bs) (G : Hp) (ρ : Sls) (σ : L2.St) (H : Hp) (v : V) (x : PyData) (lo hi : Option Int) (Q : VK), Rel R K B G ρ σ H → IsH K G H v x → f x lo hi (Aft R K B G ρ σ Q) → r v lo hi H Q
  mono : ∀ x lo hi (q q' : PyData → Prop), (∀ z, q z → q' z) → f x lo hi q → f x lo hi q'
/-- a part of a slice -/
inductive Pt where
  | no
  | e (w : WE)
@[simp] def Pt.run : Pt → Sls → (Option Int → Sls → Prop) → Prop
  | .no, ρ, Q => Q none ρ
  | .e w, ρ, Q => w ρ fun d ρ' => ∃ i, d = .int i ∧ Q (some i) ρ'
def Pt.Mono : Pt → Prop
  | .no => True
  | .e w => MonoE w
theorem Pt.Mono.run {p : Pt} (m : p.Mono) {ρ : Sls} {Q Q' : Option Int → Sls → Prop} (h : ∀ o ρ', Q o ρ' → Q' o ρ') (q : p.run ρ Q) : p.run ρ Q' := by
  cases p with
  | no => exact h _ _ q
  | e w => exact m ρ _ _ (fun d ρ' ⟨i, hi, q⟩ => ⟨i, hi, h _ _ q⟩) q
def liftP (R : Res) (K : PySem.W.Frag) (B : Bs) (p : Pt) : TO := fun σ H Q => ∃ ρ G, Rel R K B G ρ σ H ∧ p.run ρ fun o ρ' => ∀ G' H', Sub G G' → Rel R K B G' ρ' σ H' → Q o H'
structure SP' (R : Res) (X : Cx) (e : Option Expr) (p : Pt) : Prop where
  po : ∀ B, PO X e (liftP R X.K B p)
  mono : p.Mono
@[simp] def wSl (f : PyData → Option Int → Option Int → (PyData → Prop) → Prop) (a : Od) (lo hi : Pt) : WE := fun ρ Q => a.run ρ fun ga ρ1 => lo.run ρ1 fun l ρ2 => hi.run ρ2 fun u ρ3 => ∃ x, ga ρ3 = some x ∧ f x l u fun z => Q z ρ3
section
variable {R : Res} {X : Cx} {e : Expr} {w : WE} {a : Od} {lo hi : Option Expr} {pl ph : Pt} {pos p2 : Pos}
theorem PO.imp {e : Option Expr} {t t' : TO} (h : PO X e t) (f : ∀ σ H Q, t' σ H Q → t σ H Q) : PO X e t' := ⟨fun pins s σ H Q I q => h.run pins s σ H Q I (f σ H Q q)⟩
theorem sp_no : SP' R X none .no := ⟨fun B => PO.imp po_none fun σ H Q ⟨ρ, G, r, q⟩ => q G H (Same.refl G) r, trivial⟩
theorem sp_e (h : SE R X e w) : SP' R X (some e) (.e w) := ⟨fun B => PO.imp (po_some (h.pe B)) fun σ H Q ⟨ρ, G, r, q⟩ => ⟨ρ, G, r, h.mono ρ _ _ (fun d ρ' ⟨i, e, q⟩ v G' H' s r' iv => by
  subst e
  exact ⟨i, iv.intV, q G' H' s r'⟩) q⟩, h.mono⟩
theorem se_slice {r : V → Option Int → Option Int → Hp → VK → Prop} {f : PyData → Option Int → Option Int → (PyData → Prop) → Prop} (hr : SlR X r) (L : LkS R X.K r f) (ha : SO R X e a) (hl : SP' R X lo pl) (hh : SP' R X hi ph) : SE R X (.Subscript e (.Slice lo hi none p2) pos) (wSl f a pl ph) := by
  refine ⟨fun B => PE.imp (pe_slice hr (ha.pe B) (hl.po B) (hh.po B)) fun σ H Q ⟨ρ, G, rl, h⟩ => ?_, fun ρ Q Q' h => ha.mono.run fun _ _ q => hl.mono.run (fun _ _ q => hh.mono.run (fun _ _ ⟨x, e, q⟩ => ⟨x, e, L.mono _ _ _ _ _ (fun z q => h z _ q) q⟩) q) q⟩
  refine od_step ha.mono rl h fun ga ρ1 v G1 H1 s1 r1 i1 h1 => ?_
  refine ⟨ρ1, G1, r1, hl.mono.run (fun l ρ2 h2 G2 H2 s2 r2 => ?_) h1⟩
  refine ⟨ρ2, G2, r2, hh.mono.run (fun u ρ3 h3 G3 H3 s3 r3 => ?_) h2⟩
  obtain ⟨x, e, q⟩ := h3
  exact L.to B G3 ρ3 σ H3 v x l u Q r3 ((i1.mono (s2.trans s3)).at r3 e) (L.mono _ _ _ _ _ (fun z q v' G' H' s r' i => q v' G' H' (((s1.trans s2).trans s3).trans s) r' i) q)
end
def cutD (xs : List PyData) (lo hi : Option Int) : List PyData := (xs.drop (HT.sIx xs.length 0 lo)).take (HT.sIx xs.length xs.length hi - HT.sIx xs.length 0 lo)
@[simp] def slD : PyData → Option Int → Option Int → (PyData → Prop) → Prop
  | .list ds, lo, hi, q => q (.list (cutD ds lo hi))
  | .tuple ds, lo, hi, q => q (.tuple (cutD ds lo hi))
  | .str z, lo, hi, q => z.length ≤ sizeLine ∧ q (.str (cutS z lo hi))
  | _, _, _, _ => False
def rSlD (K : PySem.W.Frag) : V → Option Int → Option Int → Hp → VK → Prop := fun x lo hi H Q => (rSlL K x lo hi H Q ∨ rSlA K x lo hi H Q) ∨ (∃ z, x = .str z ∧ z.length ≤ sizeLine ∧ Q (.str (cutS z lo hi)) H)
theorem Iss.cut {K : PySem.W.Frag} {G : Hp} {vs : List V} {ds : List PyData} (h : Iss K G vs ds) (lo hi : Option Int) : Iss K G (cutV vs lo hi) (cutD ds lo hi) := by
  unfold cutV cutD
  rw [h.length]
  exact (h.drop _).take _
theorem cut_whole {α : Type} {xs : List α} {lo hi : Option Int} (h : HT.sIx xs.length 0 lo = 0 ∧ HT.sIx xs.length xs.length hi = xs.length) : (xs.drop (HT.sIx xs.length 0 lo)).take (HT.sIx xs.length xs.length hi - HT.sIx xs.length 0 lo) = xs := by
  rw [h.1, h.2]
  simp
theorem lk_sl {R : Res} {K : PySem.W.Frag} : LkS R K (rSlD K) slD := by
  refine ⟨fun B G ρ σ H v x lo hi Q r hx h => ?_, fun x lo hi q q' hq h => ?_⟩
  · cases hx <;> first
      | exact h.elim
      | skip
    · exact .inr ⟨_, rfl, h.1, aft h.2 r (.str _)⟩
    · rename_i a vs ds sa ha
      exact .inl (.inl ⟨_, _, rfl, .of sa, fun p np => aftN h r np (isLst (H := H) (r.sub.free np) (ha.cut lo hi))⟩)
    · rename_i a vs ds sa ha
      refine .inl (.inr ⟨_, _, rfl, Sub.seqT r.sub sa, fun hw => ?_, fun hw p np => aftN h r np (isTup (H := H) (r.sub.free np) (ha.cut lo hi))⟩)
      have : cutD ds lo hi = ds := cut_whole (by rw [← ha.length]; exact hw)
      have h : Aft R K B G ρ σ Q (.tuple (cutD ds lo hi)) := h
      rw [this] at h
      exact aft h r (.tup sa ha)
  · unfold slD at h ⊢
    split at h
    · exact hq _ h
    · exact hq _ h
    · exact ⟨h.1, hq _ h.2⟩
    · exact h.elim
theorem sl_D {X : Cx} : SlR X (rSlD X.K) := (sl_list.or sl_tupA).or (fun pins s σ H x v vl vu lo hi sl Q I rx hs pl pu h => sl_str pins s σ H x v vl vu lo hi sl Q I rx hs pl pu h)
end DL
namespace DL
open PySem PySem.Spec PyProof.Rows L2
/-! ## the text of a value -/
section
variable {X : Cx} {pins : List (Addr × Obj)} {σ : L2.St} {H : Hp} {s : Shared}
def Trk (H : Hp) (as : List Addr) : Prop := ∀ b ∈ as, ∃ o, H b = some o
theorem Trk.nil {H : Hp} : Trk H [] := fun _ h => absurd h List.not_mem_nil
theorem Trk.app {H : Hp} {as bs : List Addr} (h : Trk H as) (k : Trk H bs) : Trk H (as ++ bs) := fun b hb => (List.mem_append.mp hb).elim (h b) (k b)
theorem key_reads {h : Heap} {k : Key} {v : Value} (e : keyIs k v = true) : Reads h v (kD k) [] := by
  rcases keyIs_shape e with ⟨i, t, rfl, rfl⟩ | ⟨x, t, rfl, rfl⟩
  · exact .int i t
  · exact .str x t
mutual
theorem Is.reads (I : Inv X pins σ H s) : ∀ {d : PyData} {v : V} {u : Value}, Is X.K H v d → RelV v u → ∃ as, Reads s.heap u d as ∧ Trk H as
  | .none, _, _, h, r => by
    cases h
    cases r
    exact ⟨_, .none, .nil⟩
  | .bool b, _, _, h, r => by
    cases h
    cases r
    exact ⟨_, .bool b, .nil⟩
  | .int i, _, _, h, r => by
    cases h
    obtain ⟨t, rfl⟩ := r
    exact ⟨_, .int i t, .nil⟩
  | .str x, _, _, h, r => by
    cases h
    obtain ⟨t, rfl⟩ := r
    exact ⟨_, .str x t, .nil⟩
  | .list ds, _, _, h, r => by
    cases h with
    | lst sa ha =>
      cases r
      obtain ⟨its, rv, ⟨o, n, ho, hc, _, hd⟩, _⟩ := I.list (SqL.of sa)
      obtain ⟨as, q, t⟩ := Iss.reads I ha rv
      refine ⟨_, .list ho hc hd q, fun b hb => ?_⟩
      rcases List.mem_cons.mp hb with rfl | hb
      · exact ⟨_, sa⟩
      · exact t b hb
  | .tuple ds, _, _, h, r => by
    cases h with
    | tup sa ha =>
      cases r
      obtain ⟨its, rv, ⟨o, ho, hc, n, hd⟩, _⟩ := I.tuple sa
      obtain ⟨as, q, t⟩ := Iss.reads I ha rv
      exact ⟨_, .tuple ho hc hd q, t⟩
  | .dict ps, _, _, h, r => by
    cases h with
    | dct sa ha =>
      cases r
      rename_i a kvs
      obtain ⟨_, _, vs, kv, o, es, ep, ho, hx, hd, _, hp, _⟩ := I.hok a _ sa
      obtain ⟨as, q1, q2, t⟩ := Isd.reads I ha kv hp
      refine ⟨_, .dict ho hx.1 hd q1 q2, fun b hb => ?_⟩
      have hb : b ∈ a :: ([] ++ as) := hb
      rcases List.mem_cons.mp hb with rfl | hb
      · exact ⟨_, sa⟩
      · exact t b (by simpa using hb)
theorem Iss.reads (I : Inv X pins σ H s) : ∀ {ds : List PyData} {vs : List V} {us : List Value}, Iss X.K H vs ds → Vals vs us → ∃ as, ReadsAll s.heap us ds as ∧ Trk H as
  | [], _, _, h, r => by
    cases h
    cases r
    exact ⟨_, .nil, .nil⟩
  | d :: ds, _, _, h, r => by
    cases h with
    | cons h1 h2 =>
      cases r with
      | cons r1 r2 =>
        obtain ⟨as, q1, t1⟩ := Is.reads I h1 r1
        obtain ⟨bs, q2, t2⟩ := Iss.reads I h2 r2
        exact ⟨_, .cons q1 q2, t1.app t2⟩
theorem Isd.reads (I : Inv X pins σ H s) : ∀ {ps : List (PyData × PyData)} {kvs : List (Key × V)} {us : List (Key × Value)} {es : List DictEntry}, Isd X.K H kvs ps → KV kvs us → Pairs (mixKind X.prog X.w) es us →
    ∃ as, ReadsAll s.heap (es.map (·.key)) (ps.map (·.1)) [] ∧ ReadsAll s.heap (es.map (·.val)) (ps.map (·.2)) as ∧ Trk H as
  | [], _, _, _, h, r, p => by
    cases h
    cases r
    cases p
    exact ⟨_, .nil, .nil, .nil⟩
  | (k, d) :: ps, _, _, _, h, r, p => by
    cases h with
    | cons h1 h2 =>
      cases r with
      | cons r1 r2 =>
        cases p with
        | cons p1 p2 p3 =>
          rename_i k' v kvs kv us e es
          obtain ⟨kk, u⟩ := kv
          obtain ⟨e1, rv⟩ := r1
          have e1 : k' = kk := e1
          subst e1
          obtain ⟨as, q1, t1⟩ := Is.reads I h1 (show RelV v e.val by rw [p2]; exact rv)
          obtain ⟨bs, q2, q3, t2⟩ := Isd.reads I h2 r2 p3
          refine ⟨as ++ bs, ?_, .cons q1 q3, t1.app t2⟩
          have z := ReadsAll.cons (key_reads (h := s.heap) (show keyIs k' e.key = true from p1)) q2
          exact z
end
end
@[simp] def shownD : D1 := fun x q => x.showable = true ∧ x.depth ≤ 60 ∧ x.shown.length ≤ sizeLine ∧ q (.str x.shown)
def rShown (K : PySem.W.Frag) : V → Hp → VK → Prop := fun v H Q => ∃ d, Is K H v d ∧ d.showable = true ∧ d.depth ≤ 60 ∧ d.shown.length ≤ sizeLine ∧ Q (.str d.shown) H
theorem call_shown {X : Cx} {k : Nat} (hg : X.A.guards = some []) (hr : Room k X.A) (hs : SysIn X.base) : CallR X (.builtin "repr") (fun xs H Q => ∃ v, xs = [v] ∧ rShown X.K v H Q) := by
  intro pins s σ H xs us Q I rx h
  obtain ⟨v, rfl, d, hi, h1, h2, h3, q⟩ := h
  obtain ⟨u, rfl, ru⟩ := vals1 rx
  obtain ⟨as, rd, tk⟩ := hi.reads I ru
  have hu := hr.units
  have nsys : sysModules ∉ as := fun hm => by
    obtain ⟨o, e⟩ := tk _ hm
    obtain ⟨o', e'⟩ := hs
    rw [(I.bs _ _ e').2] at e
    cases e
  have fin : ∀ (h' : Heap) (t tk' : Nat), (∀ b o, s.heap.get? b = some o → h'.get? b = some o) → EP X pins σ Q (.str d.shown t) { s with heap := h', toks := tk' } :=
    fun h' t tk' keep => ⟨.str d.shown, H, I.kept keep, ⟨t, rfl⟩, q⟩
  cases hi with
  | non =>
    cases ru
    exact PySem.P.repr_of_none (fin s.heap _ _ fun _ _ e => e)
  | bl b =>
    cases ru
    exact PySem.P.repr_of_bool (by
      have := fin s.heap s.toks (s.toks + 1) fun _ _ e => e
      cases b <;> exact this)
  | int i =>
    obtain ⟨t, rfl⟩ := ru
    exact PySem.P.repr_of_int (by simpa [PyData.showable] using h1) (fin s.heap _ _ fun _ _ e => e)
  | str x =>
    obtain ⟨t, rfl⟩ := ru
    exact PySem.P.repr_of_str (by
      have := fin s.heap s.toks (s.toks + 1) fun _ _ e => e
      simpa only [PyData.shown] using this) (by simpa only [PyData.shown] using h3)
  | lst _ _ =>
    cases ru
    exact repr_of_reads' rd h1 (fun _ => nsys) hg (by omega) (fun _ _ e => e) (fun h' t tk' keep => fin h' t tk' keep) h3
  | tup _ _ =>
    cases ru
    exact repr_of_reads' rd h1 (fun _ => nsys) hg (by omega) (fun _ _ e => e) (fun h' t tk' keep => fin h' t tk' keep) h3
  | dct _ _ =>
    cases ru
    exact repr_of_reads' rd h1 (fun _ => nsys) hg (by omega) (fun _ _ e => e) (fun h' t tk' keep => fin h' t tk' keep) h3
theorem IsH.full {K : PySem.W.Frag} {G H : Hp} (s : Sub G H) {v : V} {d : PyData} : IsH K G H v d → Is K H v d
  | .non => .non
  | .bl b => .bl b
  | .int i => .int i
  | .str x => .str x
  | .lst sa ha => .lst sa (ha.mono s)
  | .tup sa ha => .tup (Sub.seqT s sa) (ha.mono s)
  | .dct sa ha => .dct sa (ha.mono s)
section
variable {R : Res} {K : PySem.W.Frag}
theorem lk_shown : Lk1 R K (rShown K) shownD :=
  ⟨fun B G ρ σ H v x Q r hx h => ⟨x, hx.full r.sub, h.1, h.2.1, h.2.2.1, aft h.2.2.2 r (.str _)⟩, fun x q q' hq h => ⟨h.1, h.2.1, h.2.2.1, hq _ h.2.2.2⟩⟩
end
/-! ## calls of built-ins -/
section
variable {R : Res} {X : Cx} {id T : String} {x : Str} {p pos : Pos} {e e2 : Expr} {a b : Od}
theorem se_b1 {r : List V → Hp → VK → Prop} {f : D1} (hc : CallR X (.builtin id) r) (L : Lk1 R X.K (fun v H Q => r [v] H Q) f) (hg : Gl X x) (hm : X.mg x = none) (hv : bootBuiltins x = some (.builtin id)) (ha : SO R X e a) (hn : x ≠ "__name__" := by decide) (hdb : (x == ("__debug__" : Str)) = false := by decide)
    (he : starEach [e] X.env = (false, eval e X.env) :: starEach [] X.env := by rfl) (hpl : (backTo pos (starEach [] X.env)).any (·.1) = false := by rfl) : SE R X (.Call (.Name x p) [e] [] pos) (wOp1 f a) :=
  ⟨fun B => PE.imp (pe_callB hc hg hm hv (pa_cons (ha.pe B) pa_nil he) hn hdb he hpl) fun σ H Q h => op1 L ha.mono h, mono_op1 L.mono ha.mono⟩
theorem se_t1 {r : List V → Hp → VK → Prop} {f : D1} (hc : CallR X (.type T) r) (L : Lk1 R X.K (fun v H Q => r [v] H Q) f) (hg : Gl X x) (hm : X.mg x = none) (hv : bootBuiltins x = some (.type T)) (ha : SO R X e a) (hn : x ≠ "__name__" := by decide) (hdb : (x == ("__debug__" : Str)) = false := by decide)
    (he : starEach [e] X.env = (false, eval e X.env) :: starEach [] X.env := by rfl) (hpl : (backTo pos (starEach [] X.env)).any (·.1) = false := by rfl) : SE R X (.Call (.Name x p) [e] [] pos) (wOp1 f a) :=
  ⟨fun B => PE.imp (pe_callTy hc hg hm hv (pa_cons (ha.pe B) pa_nil he) hn hdb he hpl) fun σ H Q h => op1 L ha.mono h, mono_op1 L.mono ha.mono⟩
theorem se_b2 {r : List V → Hp → VK → Prop} {f : D2} (hc : CallR X (.builtin id) r) (L : Lk2 R X.K (fun v u H Q => r [v, u] H Q) f) (hg : Gl X x) (hm : X.mg x = none) (hv : bootBuiltins x = some (.builtin id)) (ha : SO R X e a) (hb : SO R X e2 b) (hn : x ≠ "__name__" := by decide) (hdb : (x == ("__debug__" : Str)) = false := by decide)
    (he : starEach [e, e2] X.env = (false, eval e X.env) :: starEach [e2] X.env := by rfl) (he2 : starEach [e2] X.env = (false, eval e2 X.env) :: starEach [] X.env := by rfl) (hpl : (backTo pos (starEach [e2] X.env)).any (·.1) = false := by rfl) : SE R X (.Call (.Name x p) [e, e2] [] pos) (wOp2 f a b) :=
  ⟨fun B => PE.imp (pe_callB hc hg hm hv (pa_cons (ha.pe B) (pa_cons (hb.pe B) pa_nil he2) he) hn hdb he hpl) fun σ H Q h => op2 L ha.mono hb.mono h, mono_op2 L.mono ha.mono hb.mono⟩
/-! ### len -/
@[simp] def lenD : D1
  | .list ds, q => q (.int ds.length)
  | .tuple ds, q => q (.int ds.length)
  | .str z, q => z.length ≤ sizeLine ∧ q (.int z.length)
  | _, _ => False
theorem lk_len {K : PySem.W.Frag} : Lk1 R K (fun v H Q => (fun xs H Q => ∃ x n, xs = [x] ∧ LenV K x H n ∧ Q (.int n) H) [v] H Q) lenD := by
  refine ⟨fun B G ρ σ H v x Q r hx h => ?_, fun x q q' hq h => ?_⟩
  · cases hx <;> first
      | exact h.elim
      | skip
    · exact ⟨_, _, rfl, ⟨h.1, rfl⟩, aft h.2 r (.int _)⟩
    · rename_i sa ha
      exact ⟨_, _, rfl, .inl ⟨_, .of sa, rfl⟩, by rw [ha.length]; exact aft h r (.int _)⟩
    · rename_i sa ha
      exact ⟨_, _, rfl, .inr ⟨_, Sub.seqT r.sub sa, rfl⟩, by rw [ha.length]; exact aft h r (.int _)⟩
  · unfold lenD at h ⊢
    split at h
    · exact hq _ h
    · exact hq _ h
    · exact ⟨h.1, hq _ h.2⟩
    · exact h.elim
/-! ### isinstance of a built-in class -/
@[simp] def tyN : PyData → String
  | .none => "NoneType"
  | .bool _ => "bool"
  | .int _ => "int"
  | .str _ => "str"
  | .list _ => "list"
  | .tuple _ => "tuple"
  | .dict _ => "dict"
@[simp] def isiD (t : String → Bool) : D1 := fun x q => q (.bool (t (tyN x)))
@[simp] def isInt (n : String) : Bool := n == "int" || n == "bool"
theorem IsH.ty {K : PySem.W.Frag} {G H : Hp} (s : Sub G H) {v : V} {d : PyData} : IsH K G H v d → TyX K H v (.type (tyN d))
  | .non => .base .non
  | .bl b => .base (.bl b)
  | .int i => .base (.int i)
  | .str x => .base (.str x)
  | .lst sa ha => .base (.lst sa)
  | .tup sa ha => by
    rcases Sub.seqT s sa with (q | ⟨o, q⟩) | ⟨o, its, n, q1, q2, _⟩
    · exact .base (.tup q)
    · exact .fTuple q
    · exact .kTuple q1 q2
  | .dct sa ha => .base (.dK sa)
theorem lk_isi {K : PySem.W.Frag} {T : String} {t : String → Bool} (h : ∀ n ∈ ["NoneType", "bool", "int", "str", "list", "tuple", "dict"], kitB n T = some (t n)) : Lk1 R K (fun v H Q => rIsi K [v, .ty T] H Q) (isiD t) :=
  ⟨fun B G ρ σ H v x Q r hx q => ⟨v, .ty T, _, _, _, rfl, .ty T, hx.ty r.sub, kit_ty (h (tyN x) (by cases x <;> simp [tyN])), aft q r (.bl _)⟩, fun x q q' hq h => hq _ h⟩
theorem se_isi {t : String → Bool} {y : Str} {p2 : Pos} (h : ∀ n ∈ ["NoneType", "bool", "int", "str", "list", "tuple", "dict"], kitB n T = some (t n)) (hg : Gl X "isinstance") (hm : X.mg "isinstance" = none) (hy : PE X (.Name y p2) (tC (.ty T))) (ha : SO R X e a)
    (he : starEach [e, .Name y p2] X.env = (false, eval e X.env) :: starEach [.Name y p2] X.env := by rfl) (he2 : starEach [.Name y p2] X.env = (false, eval (.Name y p2) X.env) :: starEach [] X.env := by rfl) (hpl : (backTo pos (starEach [.Name y p2] X.env)).any (·.1) = false := by rfl) :
    SE R X (.Call (.Name "isinstance" p) [e, .Name y p2] [] pos) (wOp1 (isiD t) a) :=
  ⟨fun B => PE.imp (pe_callB call_isi hg hm (by decide +kernel) (pa_cons (ha.pe B) (pa_cons hy pa_nil he2) he) (by decide) (by decide) he hpl) fun σ H Q q => op1 (lk_isi h) ha.mono q, mono_op1 (fun x q q' hq h => hq _ h) ha.mono⟩
theorem kit_int : ∀ n ∈ ["NoneType", "bool", "int", "str", "list", "tuple", "dict"], kitB n "int" = some (isInt n) := by decide +kernel
theorem kit_bool : ∀ n ∈ ["NoneType", "bool", "int", "str", "list", "tuple", "dict"], kitB n "bool" = some (n == "bool") := by decide +kernel
theorem kit_tuple : ∀ n ∈ ["NoneType", "bool", "int", "str", "list", "tuple", "dict"], kitB n "tuple" = some (n == "tuple") := by decide +kernel
theorem kit_str : ∀ n ∈ ["NoneType", "bool", "int", "str", "list", "tuple", "dict"], kitB n "str" = some (n == "str") := by decide +kernel
theorem kit_list : ∀ n ∈ ["NoneType", "bool", "int", "str", "list", "tuple", "dict"], kitB n "list" = some (n == "list") := by decide +kernel
theorem kit_dict : ∀ n ∈ ["NoneType", "bool", "int", "str", "list", "tuple", "dict"], kitB n "dict" = some (n == "dict") := by decide +kernel
end
end DL
namespace DL
open PySem PySem.Spec PyProof.Rows L2
/-! ## t[::-1] -/
section
variable {prog : Program} {w : World} {A : Around} {E : Value → Shared → Prop} {s : Shared}
theorem adjust_rev (n : Nat) : Builtin.Slice.sliceAdjust none none (-1) (n : Int) = ((n : Int) - 1, -1) := by
  unfold Builtin.Slice.sliceAdjust
  simp
theorem places_rev (n : Nat) : Builtin.Slice.slicePlaces ((n : Int) - 1) (-1) (-1) = n := by
  unfold Builtin.Slice.slicePlaces
  simp
  split <;> omega
theorem sliceApplied_rev {sl : Addr} {t : Tok} {n : Nat} {Q : Int × Int × Nat → Shared → Prop} (hs : s.heap.IsSliceOf sl .none .none (.int (-1) t))
    (h : Q ((n : Int) - 1, -1, n) s) : wpAny (model prog w) A (Builtin.Slice.sliceApplied (.ref sl) (pure (n : Int))) Q E s := by
  obtain ⟨os, hos, hcs, hds⟩ := id hs
  unfold Builtin.Slice.sliceApplied Builtin.Slice.sliceFields
  refine wpAny_bind (wpAny_bind (wpAny_field hos hds (x := .none) rfl (wpAny_bind (wpAny_field hos hds (x := .none) rfl (wpAny_bind (wpAny_field hos hds (x := .int (-1) t) rfl (wpAny_pure ?_)))))))
  refine wpAny_bind (slicePart_int ?_)
  show wpAny _ _ (if ((-1 : Int) == 0) = true then _ else _) _ _ s
  rw [if_neg (by decide)]
  refine wpAny_bind (slicePart_none (wpAny_bind (slicePart_none (wpAny_bind (wpAny_pure ?_)))))
  show wpAny _ _ (match Builtin.Slice.sliceAdjust none none (-1) (n : Int) with | (lo, hi) => pure (lo, (-1 : Int), Builtin.Slice.slicePlaces lo hi (-1))) _ _ s
  rw [adjust_rev n]
  show wpAny _ _ (pure ((n : Int) - 1, (-1 : Int), Builtin.Slice.slicePlaces ((n : Int) - 1) (-1) (-1))) _ _ s
  rw [places_rev]
  exact wpAny_pure h
theorem fm_congr {α β : Type} {f g : α → Option β} : ∀ {l : List α}, (∀ m ∈ l, f m = g m) → l.filterMap f = l.filterMap g
  | [], _ => rfl
  | a :: l, h => by
    rw [List.filterMap_cons, List.filterMap_cons, h a List.mem_cons_self, fm_congr fun m hm => h m (List.mem_cons_of_mem _ hm)]
theorem fm_get {α : Type} (l : List α) : ∀ k, k ≤ l.length → (List.range k).filterMap (fun m => l[m]?) = l.take k := by
  intro k
  induction k with
  | zero => intro _; simp
  | succ k ih =>
    intro h
    rw [List.range_succ, List.filterMap_append, ih (by omega)]
    rw [List.filterMap_cons_some (b := l[k]) (List.getElem?_eq_getElem (by omega))]
    rw [List.filterMap_nil, List.take_add_one, List.getElem?_eq_getElem (by omega)]
    rfl
theorem pick_rev (xs : Array Value) : ((List.range xs.size).filterMap fun (m : Nat) => xs[(((xs.size : Int) - 1) + (m : Int) * -1).toNat]?).toArray = xs.toList.reverse.toArray := by
  have e : (List.range xs.size).filterMap (fun (m : Nat) => xs[(((xs.size : Int) - 1) + (m : Int) * -1).toNat]?) = (List.range xs.size).filterMap (fun m => xs.toList.reverse[m]?) := by
    refine fm_congr fun m hm => ?_
    have hm : m < xs.size := List.mem_range.mp hm
    rw [List.getElem?_reverse (by simpa using hm)]
    have : (((xs.size : Int) - 1) + (m : Int) * -1).toNat = xs.toList.length - 1 - m := by
      rw [Array.length_toList]
      omega
    rw [this, Array.getElem?_toList]
  rw [e, fm_get _ _ (by simp)]
  rw [List.take_of_length_le (by simp)]
theorem getItem_tuple_rev {t sl : Addr} {items : Array Value} {tk : Tok} {Q : Value → Shared → Prop} (ht : IsTup s.heap t items) (hs : s.heap.IsSliceOf sl .none .none (.int (-1) tk))
    (h : Q (.ref s.heap.objs.size) { s with heap := s.heap.push { cls := .type "tuple", data := .seq items.toList.reverse.toArray } })
    (hsz : items.size ≤ sizeLine) : wpAny (model prog w) A (getItem (.ref t) (.ref sl)) Q E s := by
  have htake : sizeOk (.seq items.toList.reverse.toArray) := by
    show items.toList.reverse.toArray.size ≤ sizeLine
    simpa using hsz
  obtain ⟨os, hos, hcs, hds⟩ := id hs
  have hTs : s.TypeIs (.ref sl) "slice" := ⟨os, hos, hcs⟩
  unfold getItem
  try with_reducible refine wpAny_holding ?_
  first | refine wpAny_bind (wpAny_pure ?_) | skip
  refine wpAny_bind (wpAny_sequenceKey ht.typeIs (by decide) ?_)
  refine wpAny_bind (wpAny_callSpecial?_slot (name := Str.ofString "__getitem__") ht.typeIs PyProof.Rows.slot_tuple_getitem
    (wpAny_call_entry PyProof.Rows.slot_tuple_getitem ht.typeIs entry_tuple_getitem ?_ (args_tuple_getitem _ _)))
  show wpAny _ _ (Builtin.Tuple.tupleItemsOf (.ref t) >>= _) _ _ s
  refine wpAny_bind (tupleItemsOf_ ht ?_)
  refine wpAny_bind (wpAny_typeOf hTs ?_)
  rw [if_pos (by decide)]
  refine wpAny_bind (sliceApplied_rev hs ?_)
  have hno : ¬ ((((items.size : Int) - 1) == 0 && (-1 : Int) == 1 && items.size == items.size) = true) := by
    intro q
    rw [Bool.and_eq_true, Bool.and_eq_true] at q
    exact absurd q.1.2 (by decide)
  show wpAny _ _ (if (((items.size : Int) - 1) == 0 && (-1 : Int) == 1 && items.size == items.size) = true then _ else _) _ _ s
  rw [if_neg hno, pick_rev]
  first
    | exact wpAny_bind (m := Builtin.Tuple.tupleExact _) (wpAny_newObj_type (wpAny_pure ⟨_, rfl, wpAny_pure h⟩) htake)
    | exact wpAny_bind (m := Builtin.Tuple.tupleExact _) (wpAny_newObj_type (wpAny_bind (wpAny_pure (wpAny_pure ⟨_, rfl, wpAny_pure h⟩))) htake)
    | exact wpAny_bind (wpAny_bind (m := Builtin.Tuple.tupleExact _) (wpAny_newObj_type (wpAny_pure (wpAny_pure ⟨_, rfl, wpAny_pure h⟩)) htake))
    | exact wpAny_bind (wpAny_bind (m := Builtin.Tuple.tupleExact _) (wpAny_newObj_type (wpAny_pure ⟨_, rfl, wpAny_pure h⟩) htake))
end
section
variable {X : Cx} {e st : Expr} {te : TE} {pos p2 : Pos}
/-- a[::-1] of a tuple -/
def tRevT (K : PySem.W.Frag) (te : TE) : TE := fun σ H Q => te σ H fun x H1 => ∃ a xs, x = .ref a ∧ SqT K H1 a xs ∧ ∀ p, H1 p = none → Q (.ref p) (upd H1 p (.tup xs.reverse))
theorem vals_rev {xs : List V} {us : List Value} (r : Vals xs us) : Vals xs.reverse us.reverse := by
  induction r with
  | nil => exact .nil
  | cons h t ih =>
    rw [List.reverse_cons, List.reverse_cons]
    exact Vals.append ih (.cons h .nil)
theorem pe_revT (he : PE X e te) (hs : PE X st (tC (.int (-1)))) : PE X (.Subscript e (.Slice none none (some st) p2) pos) (tRevT X.K te) := by
  refine ⟨fun pins s σ H Q I h => ?_⟩
  refine Subscript_ (thn (he.run pins s σ H _ I h) fun v s1 ⟨x, H1, I1, r1, a, xs, ex, hx, q⟩ => ?_)
  subst ex
  obtain rfl : v = Value.ref a := r1
  refine wpAny_Slice ?_
  rw [evalPart_none]
  refine wpAny_pure ?_
  refine wpAny_pure ?_
  rw [evalPart_some]
  refine thn (hs.run pins s1 σ H1 (fun y H2 => H2 = H1 ∧ y = .int (-1)) I1 ⟨rfl, rfl⟩) fun u s2 ⟨y, H2, I2, r2, e1, e2⟩ => ?_
  subst e1 e2
  obtain ⟨t, rfl⟩ := r2
  obtain ⟨its, r, ht, hz⟩ := I2.tuple hx
  have hlen : its.toArray.size = xs.length := by rw [List.size_toArray]; exact r.length.symm
  have up : ∀ b ob, s2.heap.get? b = some ob → (s2.heap.push { cls := .type "slice", data := .fields #[.none, .none, .int (-1) t] }).get? b = some ob := fun b ob q => Heap.get?_push_of_some _ q
  have I4 : Inv X pins σ H2 { s2 with heap := s2.heap.push { cls := .type "slice", data := .fields #[.none, .none, .int (-1) t] } } := I2.kept (t' := s2.toks) up
  obtain ⟨its2, r2, ht2, hz2⟩ := I4.tuple hx
  have hlen2 : its2.toArray.size = xs.length := by rw [List.size_toArray]; exact r2.length.symm
  show wpAny (model X.prog X.w) X.A (subscriptTail e (.Slice none none (some st) p2) (.ref a) (.ref s2.heap.objs.size)) (EP X pins σ Q) X.xe { s2 with heap := s2.heap.push { cls := .type "slice", data := .fields #[.none, .none, .int (-1) t] } }
  refine tail_any (ops := [.ref a, .ref s2.heap.objs.size]) ht2.typeIs PyProof.Rows.slot_tuple_getitem.lookup ?_ (by with_unfolding_all rfl)
  refine getItem_tuple_rev ht2 (Heap.IsSliceOf.new ..) ?_ (by rw [hlen2]; exact hz2)
  refine ⟨.ref _, _, I4.laid (t' := s2.toks) (o := .tup xs.reverse) (fun b ob q => Heap.get?_push_of_some _ q) (Nat.le_refl _) ?_, rfl, q _ (I4.hok.fresh (Nat.le_refl _))⟩
  exact ⟨by rw [List.length_reverse]; exact hz2, _, vals_rev r2, IsTup.new _ _⟩
end
@[simp] def wRev (a : Od) : WE := fun ρ Q => a.run ρ fun ga ρ1 => ∃ ds, ga ρ1 = some (.tuple ds) ∧ Q (.tuple ds.reverse) ρ1
theorem Iss.rev {K : PySem.W.Frag} {G : Hp} {vs : List V} {ds : List PyData} (h : Iss K G vs ds) : Iss K G vs.reverse ds.reverse := by
  induction ds generalizing vs with
  | nil => cases h; exact .nil
  | cons d ds ih =>
    cases h with
    | cons h1 h2 =>
      rw [List.reverse_cons, List.reverse_cons]
      exact (ih h2).append (.cons h1 .nil)
theorem se_rev {R : Res} {X : Cx} {e st : Expr} {a : Od} {pos p2 : Pos} (ha : SO R X e a) (hs : PE X st (tC (.int (-1)))) : SE R X (.Subscript e (.Slice none none (some st) p2) pos) (wRev a) := by
  refine ⟨fun B => PE.imp (pe_revT (ha.pe B) hs) fun σ H Q ⟨ρ, G, rl, h⟩ => ?_, fun ρ Q Q' h => ha.mono.run fun _ _ ⟨ds, e, q⟩ => ⟨ds, e, h _ _ q⟩⟩
  refine od_step ha.mono rl h fun ga ρ1 v G1 H1 s1 r1 i1 h1 => ?_
  obtain ⟨ds, e, q⟩ := h1
  have i2 := i1.at r1 e
  cases i2 with
  | tup sa ha' => exact ⟨_, _, rfl, Sub.seqT r1.sub sa, fun p np => q _ _ _ (s1.trans (upd_new (r1.sub.free np))) (r1.laid np) (isTup (H := H1) (r1.sub.free np) ha'.rev)⟩
end DL
namespace DL
open PySem PySem.Spec PyProof.Rows L2
/-! ## tuple * int, of any tuple -/
theorem tuple_mul_same (l : Addr) (items : Array Value) (n : Nat) (dd : Option Addr) (sl : Array (Option Value)) (x : Int) (u : Tok) (c0 : (decide (x < -(2 ^ 63)) || decide (x ≥ 2 ^ 63)) = false) (c1 : (items.isEmpty || x == 1) = true) :
    Meets (Builtin.«tuple.__mul__» ⟨[.ref l, .int x u], []⟩) (fun _ R s => s.heap.get? l = some { cls := .type "tuple", dict := dd, data := .seq items n, slots := sl } ∧ R (.ok (.ret (Value.ref l))) s) :=
  .of_wp fun prog w A R s h => by
    obtain ⟨hp, g, d, tk, os⟩ := s
    obtain ⟨hl, h⟩ := h
    have f1 := AutoSeq1.idx_int
    wp_walk using wpAny_loadPart' hl
    repeat (first
      | (refine wpAny_ite_false (decide_eq_false (by rw [c0]; exact Bool.false_ne_true)) ?_; wp_walk using wpAny_loadPart' hl)
      | (refine wpAny_ite_true (decide_eq_true c1) ?_; wp_walk using wpAny_loadPart' hl))
    exact ⟨_, rfl, h⟩
theorem tuple_mul_none (l : Addr) (items : Array Value) (n : Nat) (dd : Option Addr) (sl : Array (Option Value)) (x : Int) (u : Tok) (c0 : (decide (x < -(2 ^ 63)) || decide (x ≥ 2 ^ 63)) = false) (c1 : (items.isEmpty || x == 1) = false) (c2 : (decide (x ≤ 0) || items.isEmpty) = true) :
    Meets (Builtin.«tuple.__mul__» ⟨[.ref l, .int x u], []⟩) (fun _ R s => s.heap.get? l = some { cls := .type "tuple", dict := dd, data := .seq items n, slots := sl } ∧
      R (.ok (.ret (Value.ref s.heap.objs.size))) { s with heap := s.heap.push { cls := Value.type "tuple", data := Data.seq #[] } }) :=
  .of_wp fun prog w A R s h => by
    obtain ⟨hp, g, d, tk, os⟩ := s
    obtain ⟨hl, h⟩ := h
    have f1 := AutoSeq1.idx_int
    wp_walk using wpAny_loadPart' hl
    repeat (first
      | (refine wpAny_ite_false (decide_eq_false (by rw [c0]; exact Bool.false_ne_true)) ?_; wp_walk using wpAny_loadPart' hl)
      | (refine wpAny_ite_false (decide_eq_false (by rw [c1]; exact Bool.false_ne_true)) ?_; wp_walk using wpAny_loadPart' hl)
      | (refine wpAny_ite_true (decide_eq_true c2) ?_; wp_walk using wpAny_loadPart' hl))
    exact ⟨_, rfl, h⟩
def rMulT (K : PySem.W.Frag) : R2 := fun x y H Q => ∃ l k xs, x = .ref l ∧ y = .int k ∧ SqT K H l xs ∧ -(2 ^ 63) ≤ k ∧ k < 2 ^ 63 ∧ xs.length * k.toNat ≤ sizeLine ∧
  (xs = [] ∨ k = 1 → Q (.ref l) H) ∧ (xs ≠ [] → k ≠ 1 → ∀ p, H p = none → Q (.ref p) (upd H p (.tup (List.replicate k.toNat xs).flatten)))
theorem op_mulT {X : Cx} : OpR X (binaryOp .Mult) (rMulT X.K) := by
  intro pins s σ H x y v u Q I rx ry h
  obtain ⟨l, k, xs, rfl, rfl, hT, h1, h2, hz, q1, q2⟩ := h
  cases rx
  obtain ⟨t, rfl⟩ := ry
  obtain ⟨its, r, ⟨⟨cls, dd, data, sl⟩, ho, hc, n, hd⟩, hs⟩ := I.tuple hT
  simp only at hc hd
  subst hc hd
  have hle : its.length = xs.length := r.length.symm
  have nil_iff : its = [] ↔ xs = [] := by
    rw [← List.length_eq_zero_iff, ← List.length_eq_zero_iff, hle]
  have c0 : (decide (k < -(2 ^ 63)) || decide (k ≥ 2 ^ 63)) = false := by
    rw [decide_eq_false (by omega), decide_eq_false (by omega)] <;> rfl
  by_cases hsame : xs = [] ∨ k = 1
  · have c1 : (its.toArray.isEmpty || k == 1) = true := by
      rcases hsame with z | z
      · rw [nil_iff.mpr z]
        rfl
      · rw [z]
        simp
    exact wpAny_binaryOp_repeat_ref (T := "tuple") (U := "int") (by decide) ⟨_, ho, rfl⟩ (fun s' => typeIs_int s' k t) noFill_tuple_mul F.fills_int_mul F.slot_int_rmul repeat_tuple F.slot_int_index.lookup
      (call_meets F.slot_int_rmul (typeIs_int s k t) F.entry_int_rmul (F.args_int_rmul_2 _ _) (int_rmul_tuple k t l its.toArray n dd sl)
        ⟨ho, rfl, ⟨_, ho, rfl⟩, call_meets F.slot_tuple_mul ⟨_, ho, rfl⟩ F.entry_tuple_mul (F.args_tuple_mul_2 _ _) (tuple_mul_same l its.toArray n dd sl k t c0 c1) ⟨ho, ⟨.ref l, H, I, rfl, q1 hsame⟩⟩⟩)
  · have hne : xs ≠ [] := fun z => hsame (.inl z)
    have hk1 : k ≠ 1 := fun z => hsame (.inr z)
    have hn : its ≠ [] := fun z => hne (nil_iff.mp z)
    have hi : its.toArray.isEmpty = false := by
      cases its with
      | nil => exact absurd rfl hn
      | cons a b => rfl
    have c1 : (its.toArray.isEmpty || k == 1) = false := by
      rw [hi, Bool.false_or]
      exact beq_eq_false_iff_ne.mpr hk1
    have flen : (List.replicate k.toNat its).flatten.length ≤ sizeLine := by
      rw [PyProof.Rows.lm_len_rep_flat, hle, Nat.mul_comm]
      exact hz
    have flen2 : (List.replicate k.toNat xs).flatten.length ≤ sizeLine := by
      rw [PyProof.Rows.lm_len_rep_flat, Nat.mul_comm]
      exact hz
    by_cases hk0 : k ≤ 0
    · have c2 : (decide (k ≤ 0) || its.toArray.isEmpty) = true := by
        rw [decide_eq_true hk0, Bool.true_or]
      have z : k.toNat = 0 := by omega
      refine wpAny_binaryOp_repeat_ref (T := "tuple") (U := "int") (by decide) ⟨_, ho, rfl⟩ (fun s' => typeIs_int s' k t) noFill_tuple_mul F.fills_int_mul F.slot_int_rmul repeat_tuple F.slot_int_index.lookup
        (call_meets F.slot_int_rmul (typeIs_int s k t) F.entry_int_rmul (F.args_int_rmul_2 _ _) (int_rmul_tuple k t l its.toArray n dd sl)
          ⟨ho, rfl, ⟨_, ho, rfl⟩, call_meets F.slot_tuple_mul ⟨_, ho, rfl⟩ F.entry_tuple_mul (F.args_tuple_mul_2 _ _) (tuple_mul_none l its.toArray n dd sl k t c0 c1 c2) ⟨ho, ?_⟩⟩)
      have q := q2 hne hk1
      rw [z] at q
      refine ⟨.ref s.heap.objs.size, _, I.laid (t' := s.toks) (o := .tup (List.replicate 0 xs).flatten) (fun b ob q => Heap.get?_push_of_some _ q) (Nat.le_refl _) ?_, rfl, q _ (I.hok.fresh (Nat.le_refl _))⟩
      exact ⟨Nat.zero_le _, [], .nil, IsTup.new _ _⟩
    · have hm : ((its.toArray.size : Nat) : Int) * k ≤ sizeLine := by
        rw [List.size_toArray, hle]
        have e : k = (k.toNat : Int) := by omega
        rw [e]
        exact_mod_cast hz
      have c2 : (decide (k ≤ 0) || its.toArray.isEmpty) = false := by
        rw [hi, Bool.or_false]
        exact decide_eq_false hk0
      have c4 : Builtin.Tuple.tupleTooMany (((its.toArray.size : Nat) : Int) * k) = false := by
        unfold Builtin.Tuple.tupleTooMany
        exact decide_eq_false (by omega)
      have c3 : ¬ ((its.toArray.size : Nat) : Int) * k > (2 ^ 63 - 1) / 8 := by
        rw [sizeLine_eq] at hm
        omega
      refine wpAny_binaryOp_repeat_ref (T := "tuple") (U := "int") (by decide) ⟨_, ho, rfl⟩ (fun s' => typeIs_int s' k t) noFill_tuple_mul F.fills_int_mul F.slot_int_rmul repeat_tuple F.slot_int_index.lookup
        (call_meets F.slot_int_rmul (typeIs_int s k t) F.entry_int_rmul (F.args_int_rmul_2 _ _) (int_rmul_tuple k t l its.toArray n dd sl)
          ⟨ho, rfl, ⟨_, ho, rfl⟩, call_meets F.slot_tuple_mul ⟨_, ho, rfl⟩ F.entry_tuple_mul (F.args_tuple_mul_2 _ _) (tuple_mulW l its.toArray n dd sl k t c0 c1 c2 c3 c4 (by rw [size_rep, List.size_toArray]; exact flen)) ⟨ho, ?_⟩⟩)
      rw [size_rep]
      refine ⟨.ref s.heap.objs.size, _, I.laid (t' := s.toks) (o := .tup (List.replicate k.toNat xs).flatten) (fun b ob q => Heap.get?_push_of_some _ q) (Nat.le_refl _) ?_, rfl, q2 hne hk1 _ (I.hok.fresh (Nat.le_refl _))⟩
      exact ⟨flen2, _, r.rep k.toNat, IsTup.new _ _⟩
/-! ### sequences times a number, numbers times a number -/
def repD (ds : List PyData) (k : Int) : List PyData := (List.replicate k.toNat ds).flatten
def Fit63 (k : Int) : Prop := -(2 ^ 63) ≤ k ∧ k < 2 ^ 63
@[simp] def mulsD : D2
  | .tuple ds, .int k, q => Fit63 k ∧ ds.length * k.toNat ≤ sizeLine ∧ q (.tuple (repD ds k))
  | .list ds, .int k, q => Fit63 k ∧ ds.length * k.toNat ≤ sizeLine ∧ q (.list (repD ds k))
  | _, _, _ => False
def rMulsD (K : PySem.W.Frag) : R2 := fun x y H Q => rMulT K x y H Q ∨ rRep x y H Q
theorem op_muls {X : Cx} : OpR X (binaryOp .Mult) (rMulsD X.K) := op_mulT.or op_rep
theorem Iss.rep {K : PySem.W.Frag} {G : Hp} {vs : List V} {ds : List PyData} (h : Iss K G vs ds) : ∀ n : Nat, Iss K G (List.replicate n vs).flatten (List.replicate n ds).flatten
  | 0 => .nil
  | n + 1 => by
    rw [List.replicate_succ, List.replicate_succ, List.flatten_cons, List.flatten_cons]
    exact h.append (h.rep n)
theorem lk_muls {R : Res} {K : PySem.W.Frag} : Lk2 R K (rMulsD K) mulsD := by
  refine ⟨fun B G ρ σ H v u x y Q r hx hy h => ?_, fun x y q q' hq h => ?_⟩
  · cases hx <;> cases hy <;> first
      | exact h.elim
      | skip
    · rename_i a vs ds sa ha k
      exact .inr ⟨a, k, vs, rfl, rfl, sa, h.1.1, h.1.2, by rw [ha.length]; exact h.2.1, fun p np => aftN h.2.2 r np (isLst (H := H) (r.sub.free np) (ha.rep _))⟩
    · rename_i a vs ds sa ha k
      refine .inl ⟨a, k, vs, rfl, rfl, Sub.seqT r.sub sa, h.1.1, h.1.2, by rw [ha.length]; exact h.2.1, fun e => ?_, fun _ _ p np => aftN h.2.2 r np (isTup (H := H) (r.sub.free np) (ha.rep _))⟩
      have z : repD ds k = ds := by
        unfold repD
        rcases e with e | e
        · have := ha.nil_iff.mp e
          subst this
          simp
        · subst e
          simp
      have q := h.2.2
      rw [z] at q
      exact aft q r (.tup sa ha)
  · unfold mulsD at h ⊢
    split at h
    · exact ⟨h.1, h.2.1, hq _ h.2.2⟩
    · exact ⟨h.1, h.2.1, hq _ h.2.2⟩
    · exact h.elim
end DL
namespace DL
open PySem PySem.Spec PyProof.Rows L2
/-! ## enumerate of a tuple, of a text -/
set_option maxHeartbeats 1000000 in
theorem meets_enumerate_new1 {v : Value} {o : Obj} {H : Heap → Prop} (B : Begins v o H) :
    Meets (Builtin.«enumerate.__new__» ⟨[.type "enumerate", v], []⟩) (fun _ R s => H s.heap ∧
      R (.ok (.ret (.ref (s.heap.push o).objs.size))) { s with heap := (s.heap.push o).push { cls := .type "enumerate", data := .fields #[.none, .bool false, .ref s.heap.objs.size, rawInt 0, .none, .none] } }) :=
  .of_wp fun prog w A R s h => by
    obtain ⟨hp, g, d, tk, os⟩ := s
    obtain ⟨h1, h⟩ := h
    have hsub := sub_enumerate
    have q1 : ∀ {A' : Around} {E : Value → Shared → Prop} {Q : Value → Shared → Prop}, Q (.ref hp.objs.size) ⟨hp.push o, g, d, tk, os⟩ → wpAny (model prog w) A' (pyIter v) Q E ⟨hp, g, d, tk, os⟩ :=
      fun q => B.iter prog w _ _ ⟨hp, g, d, tk, os⟩ _ h1 q
    wp_walk using q1
    refine wpAny_stack_any fun st => wpAny_pure ?_
    split
    · rename_i c _ _ _ _ _
      cases (c == Value.type "enumerate")
      · wp_walk using q1
        exact ⟨_, rfl, h⟩
      · wp_walk using q1
        exact ⟨_, rfl, h⟩
    · wp_walk using q1
      exact ⟨_, rfl, h⟩
theorem enum_begins1 {prog : Program} {w : World} {A : Around} {E : Value → Shared → Prop} {s : Shared} {v : Value} {o : Obj} {H : Heap → Prop} {Q : Value → Shared → Prop} (B : Begins v o H) (h1 : H s.heap)
    (h : ∀ h', IsEnum h' (s.heap.objs.size + 1) s.heap.objs.size 0 .none → h'.get? s.heap.objs.size = some o → h'.objs.size = s.heap.objs.size + 2 →
      (∀ b o, s.heap.get? b = some o → h'.get? b = some o) → Q (.ref (s.heap.objs.size + 1)) { s with heap := h' }) :
    wpAny (model prog w) A (call (.type "enumerate") [v]) Q E s := by
  refine callType_new F.called_enumerate (by decide) (F.typeCall_enumerate_1 _) (F.newCall_enumerate_1 _) (fun obj => F.args_object_init_2 obj _) F.entry_enumerate_new
    (meets_enumerate_new1 B) ⟨h1, ?_⟩
  have hz : (s.heap.push o).objs.size = s.heap.objs.size + 1 := Heap.size_push ..
  show _ ∧ _
  rw [hz]
  have he : IsEnum ((s.heap.push o).push { cls := .type "enumerate", data := .fields #[.none, .bool false, .ref s.heap.objs.size, rawInt 0, .none, .none] }) (s.heap.objs.size + 1) s.heap.objs.size 0 .none := by
    have := Heap.get?_push_size (s.heap.push o) (o := { cls := .type "enumerate", data := .fields #[.none, .bool false, .ref s.heap.objs.size, rawInt 0, .none, .none] }) rfl
    rw [hz] at this; exact this
  refine ⟨⟨_, he, rfl⟩, h _ he (Heap.get?_push_of_some _ (Heap.get?_push_size _ B.free)) (by rw [Heap.size_push, hz]) fun b o x => Heap.get?_push_of_some _ (Heap.get?_push_of_some _ x)⟩
/-- the tuple at a, each item in a new pair -/
def Itet (K : PySem.W.Frag) (a : Addr) (n : Nat) : It :=
  ⟨fun i H => i < n ∧ ∃ xs : List V, SqT K H a xs ∧ xs.length = n, fun i H v H' => ∃ T x, v = .ref T ∧ H T = none ∧ H' = upd H T (.tup [.int (i : Nat), x]) ∧ ∀ xs, SqT K H a xs → xs[i]? = some x, fun i H => n ≤ i ∧ ∃ xs : List V, SqT K H a xs ∧ xs.length = n⟩
theorem turn_enumT {P : Program} {w : World} {K : PySem.W.Frag} {elts : List Expr} {kk : Nat} {tpos : Pos} (a e it : Addr) (n : Nat) :
    Turn P w K (.Tuple elts kk tpos) (Itet K a n) [e, it] e (fun i h => (∃ old, IsEnum h e it ((i : Nat) : Int) old) ∧ h.IsTupleIter it a i ∧ e ≠ it ∧ i ≤ n) where
  mem := by simp
  obj := fun i h st b hb => by
    obtain ⟨⟨old, he⟩, ⟨o, ho, hc, hd⟩, _⟩ := st
    have e' : b = e ∨ b = it := by simpa using hb
    rcases e' with z | z
    · rw [z]; exact ⟨_, he, fun v q => nomatch q⟩
    · rw [z]; exact ⟨o, ho, fun v q => by rw [hd] at q; cases q⟩
  keep := fun i h h' st k => let ⟨⟨old, he⟩, hi, hne, hle⟩ := st; ⟨⟨old, k e (by simp) _ he⟩, hi.at fun o q => k it (by simp) o q, hne, hle⟩
  item := by
    intro X hP hw hK hc i pins s σ H E I hf st hg
    subst hP hw hK
    obtain ⟨⟨old, he⟩, hit, hne, hle⟩ := st
    obtain ⟨hlt, xs, hq, hx⟩ := hg
    obtain ⟨its, rv, p, hz⟩ := I.tuple hq
    have hlen : its.length = n := by rw [← rv.length]; exact hx
    have p' : s.heap.IsTuple a its.toArray := p
    have hae : a ≠ e := fun z => by
      subst z
      obtain ⟨o, ho, hcl, _⟩ := p'
      have := he.symm.trans ho
      cases this
      injection (show Value.type "enumerate" = Value.type "tuple" from hcl) with z
      exact absurd z (by decide)
    have hai : a ≠ it := fun z => by
      subst z
      obtain ⟨o, ho, hcl, _⟩ := p'
      obtain ⟨o', ho', hcl', _⟩ := hit
      rw [ho] at ho'
      cases ho'
      rw [hcl] at hcl'
      injection hcl' with z
      exact absurd z (by decide)
    have hel : e < s.heap.objs.size := Heap.lt_size he
    have hil : it < s.heap.objs.size := by obtain ⟨_, q, _⟩ := hit; exact Heap.lt_size q
    have D := Draws.tuple (prog := X.prog) (w := X.w) (A := X.A.in1) (I.ok.hd hc) it a hai its.toArray
    refine wpAny_pyNext_enum_itemC D he ⟨hit, p'⟩ (by rw [List.size_toArray, hlen]; exact hlt) hne (by simp [hne, Ne.symm hae]) fun u h' tk hu ho hst hT hsz hk => ?_
    obtain ⟨x, hxi, ru⟩ : ∃ x, xs[i]? = some x ∧ RelV x u := by
      have hix : i < xs.length := by rw [hx]; exact hlt
      obtain ⟨u', hu', r'⟩ := rv.get (List.getElem?_eq_getElem hix)
      have hu2 : its[i]? = some u := by simpa using hu
      rw [hu2] at hu'
      cases hu'
      exact ⟨_, List.getElem?_eq_getElem hix, r'⟩
    refine ⟨_, rfl, wpAny_letOwnedTupleGo_enum (s := { s with heap := h', toks := tk + 1 }) ho fun h'' he' sb => ?_⟩
    have hT2 : h''.get? s.heap.objs.size = some { cls := .type "tuple", data := .seq #[.int i tk, u] } := (sb.2 _ (Nat.ne_of_gt hel)).trans hT
    have new : ObjOk X.prog X.w (upd H s.heap.objs.size (.tup [.int (i : Nat), x])) h'' s.heap.objs.size (.tup [.int (i : Nat), x]) :=
      ⟨by show 2 ≤ sizeLine; decide, [.int i tk, u], .cons ⟨_, rfl⟩ (.cons ru .nil), ⟨_, hT2, rfl, _, rfl⟩⟩
    have I1 : L2.Inv X pins σ (upd H s.heap.objs.size (.tup [.int (i : Nat), x])) { s with heap := h'', toks := tk + 1 } :=
      I.turnedNew (ch := [e, it]) (fun b ob hb q => (sb.2 b (fun z => hb (by simp [z]))).trans (hk b ob (fun z => hb (by simp [z])) (fun z => hb (by simp [z])) q)) hf (Nat.le_refl _) new
    refine ⟨.ref s.heap.objs.size, _, I1, rfl, ⟨_, x, rfl, I.hok.fresh (Nat.le_refl _), rfl, fun ys hy => by rw [I.tuple_inj hy hq]; exact hxi⟩, ⟨⟨u, ?_⟩, hst.1.at fun o q => (sb.2 it (Ne.symm hne)).trans q, hne, hlt⟩, fun b hb => ?_⟩
    · have e1 : ((i + 1 : Nat) : Int) = (i : Int) + 1 := by omega
      rw [e1]; exact he'
    · have hb' : b < s.heap.objs.size := by
        have e' : b = e ∨ b = it := by simpa using hb
        rcases e' with z | z
        · rw [z]; exact hel
        · rw [z]; exact hil
      rw [upd_ne (Nat.ne_of_lt hb')]
      exact (hf b hb).1
  done := by
    intro X hP hw hK hc i pins s σ H E I hf st hg
    subst hP hw hK
    obtain ⟨⟨old, he⟩, hit, hne, hle⟩ := st
    obtain ⟨hlt, xs, hq, hx⟩ := hg
    obtain ⟨its, rv, p, hz⟩ := I.tuple hq
    have hlen : its.length = n := by rw [← rv.length]; exact hx
    have ein : i = its.toArray.size := by rw [List.size_toArray, hlen]; omega
    subst ein
    have p' : s.heap.IsTuple a its.toArray := p
    have hai : a ≠ it := fun z => by
      subst z
      obtain ⟨o, ho, hcl, _⟩ := p'
      obtain ⟨o', ho', hcl', _⟩ := hit
      rw [ho] at ho'
      cases ho'
      rw [hcl] at hcl'
      injection hcl' with z
      exact absurd z (by decide)
    obtain ⟨f0, f1, f2, f3, f4, f5⟩ := hf it (by simp)
    have D := Draws.tuple (prog := X.prog) (w := X.w) (A := X.A.in1) (I.ok.hd hc) it a hai its.toArray
    exact wpAny_pyNext_enum_endD D he ⟨hit, p'⟩ fun h' eb => ⟨rfl, I.turned (t' := s.toks) (fun b o hb q => eb b o hb q) f0 f1 f3 f4 f5⟩
  self := fun A i s Q E st h => let ⟨⟨_, he⟩, _⟩ := st; wpAny_pyIter_enum he h
/-- a text, each sign in a new pair -/
def Ites (z : Str) : It :=
  ⟨fun i H => i < z.cps.size, fun i H v H' => ∃ T c, v = .ref T ∧ H T = none ∧ H' = upd H T (.tup [.int (i : Nat), .str ⟨#[c]⟩]) ∧ z.cps[i]? = some c, fun i H => z.cps.size ≤ i⟩
theorem turn_enumS {P : Program} {w : World} {K : PySem.W.Frag} {elts : List Expr} {kk : Nat} {tpos : Pos} (z : Str) (t : Tok) (e it : Addr) :
    Turn P w K (.Tuple elts kk tpos) (Ites z) [e, it] e (fun i h => (∃ old, IsEnum h e it ((i : Nat) : Int) old) ∧ h.IsStrIter it (strIterType z) z t i ∧ e ≠ it ∧ i ≤ z.cps.size) where
  mem := by simp
  obj := fun i h st b hb => by
    obtain ⟨⟨old, he⟩, ⟨o, ho, hc, hd⟩, _⟩ := st
    have e' : b = e ∨ b = it := by simpa using hb
    rcases e' with z | z
    · rw [z]; exact ⟨_, he, fun v q => nomatch q⟩
    · rw [z]; exact ⟨o, ho, fun v q => by rw [hd] at q; cases q⟩
  keep := fun i h h' st k => let ⟨⟨old, he⟩, hi, hne, hle⟩ := st; ⟨⟨old, k e (by simp) _ he⟩, (let ⟨o, ho, r⟩ := hi; ⟨o, k it (by simp) o ho, r⟩), hne, hle⟩
  item := by
    intro X hP hw hK hc i pins s σ H E I hf st hg
    subst hP hw hK
    obtain ⟨⟨old, he⟩, hit, hne, hle⟩ := st
    have hlt : i < z.cps.size := hg
    have hel : e < s.heap.objs.size := Heap.lt_size he
    have hil : it < s.heap.objs.size := by obtain ⟨_, q, _⟩ := hit; exact Heap.lt_size q
    have D := Draws.text (prog := X.prog) (w := X.w) (A := X.A.in1) (I.ok.hd hc) it z t
    refine wpAny_pyNext_enum_itemC D he hit hlt hne (by simp [hne]) fun u h' tk hu ho hst hT hsz hk => ?_
    obtain ⟨c, t2, hc2, rfl⟩ := hu
    have ru : RelV (.str ⟨#[c]⟩) (.str ⟨#[c]⟩ t2) := ⟨_, rfl⟩
    refine ⟨_, rfl, wpAny_letOwnedTupleGo_enum (s := { s with heap := h', toks := tk + 1 }) ho fun h'' he' sb => ?_⟩
    have hT2 : h''.get? s.heap.objs.size = some { cls := .type "tuple", data := .seq #[.int i tk, .str ⟨#[c]⟩ t2] } := (sb.2 _ (Nat.ne_of_gt hel)).trans hT
    have new : ObjOk X.prog X.w (upd H s.heap.objs.size (.tup [.int (i : Nat), .str ⟨#[c]⟩])) h'' s.heap.objs.size (.tup [.int (i : Nat), .str ⟨#[c]⟩]) :=
      ⟨by show 2 ≤ sizeLine; decide, [.int i tk, .str ⟨#[c]⟩ t2], .cons ⟨_, rfl⟩ (.cons ru .nil), ⟨_, hT2, rfl, _, rfl⟩⟩
    have I1 : L2.Inv X pins σ (upd H s.heap.objs.size (.tup [.int (i : Nat), .str ⟨#[c]⟩])) { s with heap := h'', toks := tk + 1 } :=
      I.turnedNew (ch := [e, it]) (fun b ob hb q => (sb.2 b (fun z => hb (by simp [z]))).trans (hk b ob (fun z => hb (by simp [z])) (fun z => hb (by simp [z])) q)) hf (Nat.le_refl _) new
    refine ⟨.ref s.heap.objs.size, _, I1, rfl, ⟨_, c, rfl, I.hok.fresh (Nat.le_refl _), rfl, hc2⟩, ⟨⟨.str ⟨#[c]⟩ t2, ?_⟩, ?_, hne, hlt⟩, fun b hb => ?_⟩
    · have e1 : ((i + 1 : Nat) : Int) = (i : Int) + 1 := by omega
      rw [e1]; exact he'
    · obtain ⟨o, ho', r⟩ := hst
      exact ⟨o, (sb.2 it (Ne.symm hne)).trans ho', r⟩
    · have hb' : b < s.heap.objs.size := by
        have e' : b = e ∨ b = it := by simpa using hb
        rcases e' with z | z
        · rw [z]; exact hel
        · rw [z]; exact hil
      rw [upd_ne (Nat.ne_of_lt hb')]
      exact (hf b hb).1
  done := by
    intro X hP hw hK hc i pins s σ H E I hf st hg
    subst hP hw hK
    obtain ⟨⟨old, he⟩, hit, hne, hle⟩ := st
    have hge : z.cps.size ≤ i := hg
    have ein : i = z.cps.size := Nat.le_antisymm hle hge
    subst ein
    obtain ⟨f0, f1, f2, f3, f4, f5⟩ := hf it (by simp)
    have D := Draws.text (prog := X.prog) (w := X.w) (A := X.A.in1) (I.ok.hd hc) it z t
    exact wpAny_pyNext_enum_endD D he hit fun h' eb => ⟨rfl, I.turned (t' := s.toks) (fun b o hb q => eb b o hb q) f0 f1 f3 f4 f5⟩
  self := fun A i s Q E st h => let ⟨⟨_, he⟩, _⟩ := st; wpAny_pyIter_enum he h
end DL
namespace DL
open PySem PySem.Spec PyProof.Rows L2
def enumD : Int → List PyData → List PyData
  | _, [] => []
  | k, x :: r => .tuple [.int k, x] :: enumD (k + 1) r
theorem enumD_length : ∀ (k : Int) (xs : List PyData), (enumD k xs).length = xs.length
  | _, [] => rfl
  | k, x :: r => congrArg (· + 1) (enumD_length (k + 1) r)
theorem enumD_get : ∀ {k : Int} {xs : List PyData} {i : Nat} {d : PyData}, (enumD k xs)[i]? = some d → ∃ x, xs[i]? = some x ∧ d = .tuple [.int (k + (i : Nat)), x]
  | k, [], i, d, h => by simp [enumD] at h
  | k, x :: r, 0, d, h => by
    simp [enumD] at h
    exact ⟨x, rfl, by rw [← h]; simp⟩
  | k, x :: r, i + 1, d, h => by
    obtain ⟨y, h1, h2⟩ := enumD_get (k := k + 1) (xs := r) (i := i) (by simpa [enumD] using h)
    refine ⟨y, by simpa using h1, ?_⟩
    rw [h2]
    have : k + 1 + (i : Int) = k + ((i + 1 : Nat) : Int) := by omega
    rw [this]
section
variable {K : PySem.W.Frag} {G : Hp}
theorem itd_enumL {a : Addr} {vs : List V} {ds : List PyData} (s : G a = some (.lst vs)) (h : Iss K G vs ds) : ItD K G (Ite K a) (enumD 0 ds) :=
  ⟨fun i H hi q => by
      rw [enumD_length] at hi
      obtain ⟨v, e, _⟩ := h.get (List.getElem?_eq_getElem hi)
      exact ⟨vs, v, .of (q _ _ s), e⟩,
    fun H q => ⟨vs, .of (q _ _ s), by rw [enumD_length]; exact Nat.le_of_eq h.length⟩,
    fun i H v H' x e q y => by
      obtain ⟨d, e1, rfl⟩ := enumD_get e
      obtain ⟨u, e2, i2⟩ := h.get e1
      obtain ⟨T, x, rfl, hT, rfl, hx⟩ := y
      have e3 := hx vs (.of (q _ _ s))
      rw [e2] at e3
      cases e3
      exact .inr ⟨T, _, [.int (0 + (i : Nat)), d], hT, rfl, rfl, .cons (by rw [Int.zero_add]; exact .int _) (.cons i2 .nil), rfl⟩⟩
theorem itd_enumT {a : Addr} {vs : List V} {ds : List PyData} (s : SqT K G a vs) (h : Iss K G vs ds) : ItD K G (Itet K a ds.length) (enumD 0 ds) :=
  ⟨fun i H hi q => by
      rw [enumD_length] at hi
      exact ⟨hi, vs, Sub.seqT q s, h.length⟩,
    fun H q => ⟨by rw [enumD_length]; exact Nat.le_refl _, vs, Sub.seqT q s, h.length⟩,
    fun i H v H' x e q y => by
      obtain ⟨d, e1, rfl⟩ := enumD_get e
      obtain ⟨u, e2, i2⟩ := h.get e1
      obtain ⟨T, x, rfl, hT, rfl, hx⟩ := y
      have e3 := hx vs (Sub.seqT q s)
      rw [e2] at e3
      cases e3
      exact .inr ⟨T, _, [.int (0 + (i : Nat)), d], hT, rfl, rfl, .cons (by rw [Int.zero_add]; exact .int _) (.cons i2 .nil), rfl⟩⟩
theorem itd_enumS {z : Str} : ItD K G (Ites z) (enumD 0 (signs z)) :=
  ⟨fun i H hi q => by rw [enumD_length, signs_length] at hi; exact hi,
    fun H q => by rw [enumD_length, signs_length]; exact Nat.le_refl _,
    fun i H v H' x e q y => by
      obtain ⟨d, e1, rfl⟩ := enumD_get e
      obtain ⟨c, e2, rfl⟩ := signs_get e1
      obtain ⟨T, c', rfl, hT, rfl, hx⟩ := y
      rw [e2] at hx
      cases hx
      exact .inr ⟨T, _, [.int (0 + (i : Nat)), .str ⟨#[c]⟩], hT, rfl, rfl, .cons (by rw [Int.zero_add]; exact .int _) (.cons (.str _) .nil), rfl⟩⟩
end
@[simp] def wEnum (w : WE) : WI := fun ρ Q => w ρ fun d ρ' => ∃ xs, seqD d = some xs ∧ Q (enumD 0 xs) ρ'
theorem si_enum {R : Res} {X : Cx} {e : Expr} {w : WE} {p pos tpos : Pos} {elts : List Expr} {kk : Nat} (hg : Gl X "enumerate") (hm : X.mg "enumerate" = none) (he : SE R X e w) (hs : starEach [e] X.env = [(false, eval e X.env)] := by rfl) :
    SI R X (.Tuple elts kk tpos) (.Call (.Name "enumerate" p) [e] [] pos) (wEnum w) := by
  have ha : SEs R X [e] [w] := ses_cons he ses_nil (by rw [hs]; rfl)
  refine ⟨fun B => ⟨fun pins s σ H q I ⟨ρ, G, r, h⟩ => ?_⟩, fun ρ Q Q' hq => he.mono ρ _ _ fun d ρ' ⟨xs, e, q⟩ => ⟨xs, e, hq _ _ q⟩⟩
  have h' : liftEs R X.K B [w] σ H fun vs H1 => ∃ d xs ρ' G', Rel R X.K B G' ρ' σ H1 ∧ Iss X.K G' vs [d] ∧ seqD d = some xs ∧ ∀ J, ItD X.K G' J (enumD 0 xs) → q J H1 :=
    ⟨ρ, G, r, he.mono ρ _ _ (fun d ρ' ⟨xs, e, k⟩ v G' H' s r' i => ⟨d, xs, ρ', G', r', i, e, fun J j => k J G' H' s r' j⟩) h⟩
  refine Call_ (ld_blt I hg hm boot_enumerate (PyProof.Rows.callWith_type1 (thn ((ha.pa B).run pos pins s σ H _ I h') fun us s1 ⟨vs, H1, I1, r1, d, xs, ρ', G', rl, i, e, k⟩ => ?_) hs rfl))
  have fresh : ∀ {h' : Heap} (I2 : L2.Inv X pins σ H1 { s1 with heap := h' }), ∀ b ∈ [s1.heap.objs.size + 1, s1.heap.objs.size], FpOk X pins H1 b := fun I2 b hb => by
    have e' : b = s1.heap.objs.size + 1 ∨ b = s1.heap.objs.size := by simpa using hb
    have hle : s1.heap.objs.size ≤ b := by
      rcases e' with z | z
      · rw [z]; exact Nat.le_add_right _ _
      · rw [z]; exact Nat.le_refl _
    exact I1.fpOk hle (I1.hok.fresh hle)
  cases i with
  | cons i1 i2 =>
    cases i2
    cases r1 with
    | cons r rr =>
      cases rr
      cases i1 with
      | lst sa ha' =>
        cases e
        cases r
        obtain ⟨its, rv, p', hz⟩ := I1.list (SqL.of (rl.sub _ _ sa))
        refine call_enumerate_list p'.isList fun h' he hit hsz hk => wpAny_pyIter_enum he ?_
        have I2 : L2.Inv X pins σ H1 { s1 with heap := h' } := I1.kept (t' := s1.toks) hk
        exact ⟨s1.heap.objs.size + 1, [s1.heap.objs.size + 1, s1.heap.objs.size], _, _, H1, rfl, I2, turn_enum _ (s1.heap.objs.size + 1) s1.heap.objs.size, ⟨⟨.none, he⟩, hit, Nat.succ_ne_self _⟩, fresh I2, k _ (itd_enumL sa ha')⟩
      | tup sa ha' =>
        cases e
        cases r
        obtain ⟨its, rv, p', hz⟩ := I1.tuple (Sub.seqT rl.sub sa)
        refine enum_begins1 (begins_tuple _ its.toArray) p' fun h' he hit hsz hk => wpAny_pyIter_enum he ?_
        have I2 : L2.Inv X pins σ H1 { s1 with heap := h' } := I1.kept (t' := s1.toks) hk
        exact ⟨s1.heap.objs.size + 1, [s1.heap.objs.size + 1, s1.heap.objs.size], _, _, H1, rfl, I2, turn_enumT _ (s1.heap.objs.size + 1) s1.heap.objs.size _, ⟨⟨.none, he⟩, ⟨_, hit, rfl, rfl⟩, Nat.succ_ne_self _, Nat.zero_le _⟩, fresh I2, k _ (itd_enumT sa ha')⟩
      | str z =>
        cases e
        obtain ⟨t, rfl⟩ := r
        refine enum_begins1 (begins_text z t) trivial fun h' he hit hsz hk => wpAny_pyIter_enum he ?_
        have I2 : L2.Inv X pins σ H1 { s1 with heap := h' } := I1.kept (t' := s1.toks) hk
        exact ⟨s1.heap.objs.size + 1, [s1.heap.objs.size + 1, s1.heap.objs.size], _, _, H1, rfl, I2, turn_enumS z t (s1.heap.objs.size + 1) s1.heap.objs.size, ⟨⟨.none, he⟩, ⟨_, hit, rfl, rfl⟩, Nat.succ_ne_self _, Nat.zero_le _⟩, fresh I2, k _ itd_enumS⟩
      | non => cases e
      | bl _ => cases e
      | int _ => cases e
      | dct _ _ => cases e
end DL
namespace DL
open PySem PySem.Spec PyProof.Rows L2
/-! ## a cell set apart while other things are done -/
def Bs.wthH (B : Bs) (D : Addr) (ho : HO) : Bs := { B with H0 := upd B.H0 D ho }
section
variable {R : Res} {K : PySem.W.Frag} {B : Bs} {G : Hp} {ρ : Sls} {σ : L2.St} {H : Hp} {D : Addr} {oo : HO}
/-- the new list of a comprehension, set apart -/
theorem Rel.beginH (r : Rel R K B G ρ σ H) (n : H D = none) : Rel R K (B.wthH D oo) G ρ σ (upd H D oo) := by
  have u := r.up (o := oo) n
  have g0 : B.G0 D = none := by
    cases q : B.G0 D with
    | none => rfl
    | some o =>
      have := r.sub _ _ (r.g0 _ _ q)
      rw [n] at this
      cases this
  have h0 : B.H0 D = none := r.h0 n
  have nfp : ∀ b ∈ B.fp, b ≠ D := fun b hb z => (r.fp0 b hb).2.2 (by rw [z]; exact n)
  refine ⟨u.sub, u.len, u.g0, fun b h1 h2 => ?_, fun b o e hb => ?_, fun b hb => ?_, u.d, u.s, fun i x e => ?_, ?_⟩
  · by_cases hb : b = D
    · subst hb
      exact absurd (r.sub.free n) h2
    · rw [show (B.wthH D oo).H0 b = B.H0 b from upd_ne hb] at h1
      exact u.new b h1 h2
  · by_cases hb' : b = D
    · subst hb'
      rw [show (B.wthH b oo).H0 b = some oo from upd_same] at e
      cases e
      exact upd_same
    · rw [show (B.wthH D oo).H0 b = B.H0 b from upd_ne hb'] at e
      exact u.fr b o e hb
  · obtain ⟨z1, z2, z3⟩ := u.fp0 b hb
    exact ⟨z1, by rw [show (B.wthH D oo).H0 b = B.H0 b from upd_ne (nfp b hb)]; exact z2, z3⟩
  · obtain ⟨a, ho, e1, e2, e3, e4, e5, e6⟩ := u.o i x e
    have na : a ≠ D := fun z => by
      obtain ⟨a', ho', q1, _, _, q4, _⟩ := r.o i x e
      rw [e1] at q1
      cases q1
      rw [z, n] at q4
      cases q4
    exact ⟨a, ho, e1, e2, by rw [show (B.wthH D oo).H0 a = B.H0 a from upd_ne na]; exact e3, e4, e5, e6⟩
  · obtain ⟨la, fp, q⟩ := r.l
    have nb : ∀ b ∈ fp, b ≠ D := fun b hb z => (q.pf b hb).2.1 (by rw [z]; exact n)
    refine ⟨la, fp, q.pl, fun z => R.loc H _ la fp (fun b hb => upd_ne (nb b hb)) (q.ok z), fun b hb => ?_, q.tie⟩
    obtain ⟨z1, z0, z2, z3⟩ := q.pf b hb
    rw [upd_ne (nb b hb)]
    exact ⟨z1, z0, z2.imp (fun z => by rw [show (B.wthH D oo).H0 b = B.H0 b from upd_ne (nb b hb)]; exact z) id, z3⟩
/-- what is true of the cell set apart -/
theorem Rel.apartH (r : Rel R K (B.wthH D oo) G ρ σ H) (h0 : B.G0 D = none) (nf : D ∉ B.fp) : H D = some oo ∧ G D = none := by
  refine ⟨r.fr D _ upd_same nf, ?_⟩
  cases q : G D with
  | none => rfl
  | some o => exact absurd h0 (r.new D (by rw [show (B.wthH D oo).H0 D = some oo from upd_same]; exact nofun) (by rw [q]; exact nofun))
theorem Rel.turnH (r : Rel R K (B.wthH D oo) G ρ σ H) (h0 : B.G0 D = none) (nf : D ∉ B.fp) (oo' : HO) : Rel R K (B.wthH D oo') G ρ σ (upd H D oo') := by
  obtain ⟨hD, gD⟩ := r.apartH h0 nf
  have same : ∀ b, b ≠ D → (B.wthH D oo').H0 b = (B.wthH D oo).H0 b := fun b n => by
    rw [show (B.wthH D oo').H0 b = B.H0 b from upd_ne n, show (B.wthH D oo).H0 b = B.H0 b from upd_ne n]
  have wD : (B.wthH D oo).H0 D = some oo := upd_same
  refine ⟨r.sub.up gD, r.len, r.g0, fun b h1 h2 => ?_, fun b o e hb => ?_, fun b hb => ?_, r.d, r.s, fun i x e => ?_, ?_⟩
  · by_cases hb : b = D
    · subst hb
      exact absurd gD h2
    · rw [same b hb] at h1
      exact r.new b h1 h2
  · by_cases hb' : b = D
    · subst hb'
      rw [show (B.wthH b oo').H0 b = some oo' from upd_same] at e
      cases e
      exact upd_same
    · rw [same b hb'] at e
      rw [upd_ne hb']
      exact r.fr b o e hb
  · have nb : b ≠ D := fun z => nf (z ▸ hb)
    rw [same b nb, upd_ne nb]
    exact r.fp0 b hb
  · obtain ⟨a, ho, e1, e2, e3, e4, e5, e6⟩ := r.o i x e
    have na : a ≠ D := fun z => by
      rw [z, wD] at e3
      cases e3
    exact ⟨a, ho, e1, e2, by rw [same a na]; exact e3, by rw [upd_ne na]; exact e4, e5, e6⟩
  · obtain ⟨la, fp, q⟩ := r.l
    have nb : ∀ b ∈ fp, b ≠ D := fun b hb z => by
      rcases (q.pf b hb).2.2.1 with y | y
      · rw [z, wD] at y
        cases y
      · exact nf (z ▸ y)
    refine ⟨la, fp, q.pl, fun z => R.loc H _ la fp (fun b hb => upd_ne (nb b hb)) (q.ok z), fun b hb => ?_, q.tie⟩
    rw [upd_ne (nb b hb), same b (nb b hb)]
    exact q.pf b hb
/-- the block is over -/
theorem Rel.overH {ρ0 : Sls} {G0' : Hp} {H0' : Hp} {vs : List Nat} (r0 : Rel R K B G0' ρ0 σ H0') (sg : Sub G0' G) (n0 : H0' D = none) (r : Rel R K (B.wthH D oo) G (wipS ρ vs) (wipe σ vs) H) {d : PyData} (ha : Own1 K G oo d) :
    Rel R K B G (backS ρ0 ρ vs) σ H ∧ IsNew R K B G σ (backS ρ0 ρ vs) H (.ref D) d := by
  have h0 : B.H0 D = none := r0.h0 n0
  have g0 : B.G0 D = none := by
    cases q : B.G0 D with
    | none => rfl
    | some o =>
      have := r0.sub _ _ (r0.g0 _ _ q)
      rw [n0] at this
      cases this
  have nf : D ∉ B.fp := fun hb => (r0.fp0 D hb).2.2 n0
  obtain ⟨hD, gD⟩ := r.apartH g0 nf
  have wD : (B.wthH D oo).H0 D = some oo := upd_same
  have back : ∀ (b : Addr), b ≠ D → (B.wthH D oo).H0 b = B.H0 b := fun b n => upd_ne n
  have hlen : ρ.length = σ.length := by
    have := r.len
    rw [wipS_length, wipe_length] at this
    exact this
  have bget : ∀ (i : Nat) (s : Sl), (backS ρ0 ρ vs)[i]? = some s → (i ∈ vs ∧ (s = .un ∨ ∃ x, s = .d x ∧ ρ0[i]? = some (.d x))) ∨ (i ∉ vs ∧ ρ[i]? = some s) := fun i s e => by
    unfold backS at e
    rw [List.getElem?_mapIdx] at e
    cases q : ρ[i]? with
    | none => rw [q] at e; cases e
    | some s' =>
      rw [q] at e
      simp only [Option.map_some, Option.some.injEq] at e
      by_cases hi : i ∈ vs
      · rw [if_pos hi] at e
        refine .inl ⟨hi, ?_⟩
        split at e
        · rename_i x ex
          exact .inr ⟨x, e.symm, ex⟩
        · exact .inl e.symm
      · rw [if_neg hi] at e
        exact .inr ⟨hi, by rw [e]⟩
  have win : ∀ (i : Nat) (s : Sl), i ∉ vs → ρ[i]? = some s → (wipS ρ vs)[i]? = some s := fun i s hi e => by
    have hl : i < (wipS ρ vs).length := by
      rw [wipS_length]
      exact (List.getElem?_eq_some_iff.mp e).1
    have : ∀ (ws : List Nat), i ∉ ws → (wipS ρ ws)[i]? = ρ[i]? := fun ws => by
      induction ws with
      | nil => intro _; rfl
      | cons v ws ih =>
        intro h
        simp only [List.mem_cons, not_or] at h
        show ((wipS ρ ws).set v .un)[i]? = _
        rw [List.getElem?_set_ne (fun z => h.1 z.symm), ih h.2]
    rw [this vs hi, e]
  have own : ∀ (i : Nat) (x : PyData), (backS ρ0 ρ vs)[i]? = some (.own x) → i ∉ vs ∧ (wipS ρ vs)[i]? = some (.own x) := fun i x e => by
    rcases bget i _ e with ⟨_, z | ⟨y, z, _⟩⟩ | ⟨z1, z2⟩
    · cases z
    · cases z
    · exact ⟨z1, win i _ z1 z2⟩
  have lom : ∀ (i : Nat), (backS ρ0 ρ vs)[i]? = some .loom → i ∉ vs ∧ (wipS ρ vs)[i]? = some .loom := fun i e => by
    rcases bget i _ e with ⟨_, z | ⟨y, z, _⟩⟩ | ⟨z1, z2⟩
    · cases z
    · cases z
    · exact ⟨z1, win i _ z1 z2⟩
  have ol : ∀ b, (∀ (j : Nat) (y : PyData), (wipS ρ vs)[j]? = some (.own y) → (wipe σ vs)[j]? ≠ some (some (.ref b))) → ∀ (j : Nat) (y : PyData), (backS ρ0 ρ vs)[j]? = some (.own y) → σ[j]? ≠ some (some (.ref b)) := fun b h j y e => by
    obtain ⟨n, e'⟩ := own j y e
    have := h j y e'
    rw [wipe_out n] at this
    exact this
  obtain ⟨la, fp, q⟩ := r.l
  have fne : ∀ b ∈ fp, b ≠ D := fun b hb z => by
    rcases (q.pf b hb).2.2.1 with y | y
    · rw [z, wD] at y
      cases y
    · exact nf (z ▸ y)
  have lpart : LoomAt R B G (backS ρ0 ρ vs) σ H la fp := by
    refine ⟨fun i e => ?_, fun z => q.ok (z.imp (fun ⟨i, e⟩ => ⟨i, (lom i e).2⟩) id), fun b hb => ?_, q.tie⟩
    · obtain ⟨n, e'⟩ := lom i e
      have := q.pl i e'
      rw [wipe_out n] at this
      exact this
    · obtain ⟨z1, z0, z2, z3⟩ := q.pf b hb
      exact ⟨z1, z0, z2.imp (fun z => by rw [back b (fne b hb)] at z; exact z) id, ol b z3⟩
  refine ⟨⟨r.sub, by unfold backS; rw [List.length_mapIdx]; exact hlen, r.g0, fun b h1 h2 => ?_, fun b o e hb => ?_, fun b hb => ?_, fun i x e => ?_, fun i x e => ?_, fun i x e => ?_, la, fp, lpart⟩, ?_⟩
  · by_cases hb : b = D
    · subst hb
      exact absurd h0 h1
    · exact r.new b (by rw [back b hb]; exact h1) h2
  · have nb : b ≠ D := fun z => by
      rw [z, h0] at e
      cases e
    exact r.fr b o (by rw [back b nb]; exact e) hb
  · have nb : b ≠ D := fun z => nf (z ▸ hb)
    have := r.fp0 b hb
    rw [back b nb] at this
    exact this
  · rcases bget i _ e with ⟨z0, z | ⟨y, z, z'⟩⟩ | ⟨z1, z2⟩
    · cases z
    · cases z
      obtain ⟨v, e1, e2⟩ := r0.d i x z'
      exact ⟨v, e1, e2.mono sg⟩
    · obtain ⟨v, e1, e2⟩ := r.d i x (win i _ z1 z2)
      rw [wipe_out z1] at e1
      exact ⟨v, e1, e2⟩
  · rcases bget i _ e with ⟨z0, z | ⟨y, z, z'⟩⟩ | ⟨z1, z2⟩
    · cases z
    · cases z
    · obtain ⟨a, e1, e2⟩ := r.s i x (win i _ z1 z2)
      rw [wipe_out z1] at e1
      exact ⟨a, e1, e2⟩
  · obtain ⟨n, e'⟩ := own i x e
    obtain ⟨a, ho, e1, e2, e3, e4, e5, e6⟩ := r.o i x e'
    have na : a ≠ D := fun z => by
      rw [z, wD] at e3
      cases e3
    rw [wipe_out n] at e1
    refine ⟨a, ho, e1, e2, by rw [back a na] at e3; exact e3, e4, e5, fun j y h1 h2 => ?_⟩
    obtain ⟨nj, h1'⟩ := own j y h1
    exact e6 j y h1' (by rw [wipe_out nj]; exact h2)
  · refine ⟨D, _, rfl, gD, h0, hD, ha, ol D fun j y e z => ?_, la, fp, lpart, fun z => fne D z rfl⟩
    obtain ⟨a, ho, e1, _, e3, _⟩ := r.o j y e
    rw [e1] at z
    cases z
    rw [wD] at e3
    cases e3
end
theorem backS_nil (ρ0 ρ : Sls) : backS ρ0 ρ [] = ρ := by
  unfold backS
  apply List.ext_getElem?
  intro i
  rw [List.getElem?_mapIdx]
  cases ρ[i]? <;> simp
section
variable {R : Res} {X : Cx} {pos : Pos}
/-! ### dict displays with keys that are told -/
def trsOf (R : Res) (K : PySem.W.Frag) : List Key → List WE → List (TE × TE)
  | k :: ks, w :: ws => (tC (kV k), anyE R K w) :: trsOf R K ks ws
  | _, _ => []
structure SDs (R : Res) (X : Cx) (pos : Pos) (es : List (Option Expr)) (vs : List Expr) (ks : List Key) (ws : List WE) : Prop where
  pp : PPs X pos es vs (trsOf R X.K ks ws)
  mono : MonoEs ws
  le : ks.length = ws.length
theorem sds_nil : SDs R X pos [] [] [] [] := ⟨pps_nil, trivial, rfl⟩
theorem sds_cons {e v : Expr} {es : List (Option Expr)} {vs : List Expr} {k : Key} {ks : List Key} {w : WE} {ws : List WE} (hk : PE X e (tC (kV k))) (hv : SE R X v w) (hr : SDs R X pos es vs ks ws) : SDs R X pos (some e :: es) (v :: vs) (k :: ks) (w :: ws) :=
  ⟨pps_cons hk hv.any hr.pp, ⟨hv.mono, hr.mono⟩, congrArg (· + 1) hr.le⟩
theorem pairs_run {K : PySem.W.Frag} {B : Bs} {σ : L2.St} : ∀ {ks : List Key} {ws : List WE} {ρ : Sls} {G H : Hp} {Q : List (V × V) → Hp → Prop}, ks.length = ws.length → MonoEs ws → Rel R K B G ρ σ H →
    (wEs ws ρ fun ds ρ' => ∀ vs G' H', Sub G G' → Rel R K B G' ρ' σ H' → Iss K G' vs ds → Q ((ks.zip vs).map fun kv => (kV kv.1, kv.2)) H') → tPairs (trsOf R K ks ws) σ H Q
  | [], [], ρ, G, H, Q, _, _, r, h => h [] G H (Same.refl G) r .nil
  | k :: ks, w :: ws, ρ, G, H, Q, hl, m, r, h => by
    refine ⟨B, ρ, G, r, m.1 ρ _ _ (fun d ρ1 h1 v G1 H1 s1 r1 i1 => ?_) h⟩
    refine pairs_run (ks := ks) (ws := ws) (by simpa using hl) m.2 r1 (MonoEs.run m.2 (fun ds ρ' q vs G2 H2 s2 r2 i2 => ?_) h1)
    exact q (v :: vs) G2 H2 (s1.trans s2) r2 (.cons (i1.mono s2) i2)
def dataOf (ks : List Key) (ds : List PyData) : List (PyData × PyData) := (ks.zip ds).map fun kv => (kD kv.1, kv.2)
theorem isd_zip {K : PySem.W.Frag} {G : Hp} : ∀ {ks : List Key} {vs : List V} {ds : List PyData}, Iss K G vs ds → Isd K G (ks.zip vs) (dataOf ks ds)
  | [], _, _, _ => .nil
  | k :: ks, _, _, .nil => .nil
  | k :: ks, _, _, .cons h t => .cons h (isd_zip t)
theorem put_new : ∀ {kvs : List (Key × V)} {k : Key} {v : V}, k ∉ kvs.map (·.1) → putK kvs k v = kvs ++ [(k, v)] := by
  intro kvs k v h
  unfold putK
  rw [if_neg]
  intro z
  obtain ⟨p, hp, e⟩ := List.any_eq_true.mp z
  exact h (List.mem_map.mpr ⟨p, hp, of_decide_eq_true e⟩)
theorem merge_new : ∀ {more kvs : List (Key × V)}, (kvs.map (·.1) ++ more.map (·.1)).Nodup → mergeK kvs more = kvs ++ more
  | [], kvs, _ => by simp [mergeK]
  | p :: r, kvs, h => by
    have hp : p.1 ∉ kvs.map (·.1) := fun z => by
      rw [List.nodup_append] at h
      exact h.2.2 _ z _ (by simp) rfl
    show mergeK (putK kvs p.1 p.2) r = _
    rw [put_new hp, merge_new]
    · simp
    · simpa using h
@[simp] def wDisp (ks : List Key) (ws : List WE) : WE := fun ρ Q => wEs ws ρ fun ds ρ' => Q (.dict (dataOf ks ds)) ρ'
theorem zip_keys {α : Type} : ∀ {ks : List Key} {vs : List α}, ks.length = vs.length → (ks.zip vs).map (·.1) = ks
  | [], _, _ => rfl
  | k :: ks, [], h => by simp at h
  | k :: ks, v :: vs, h => congrArg (k :: ·) (zip_keys (by simpa using h))
theorem wEs_len {ws : List WE} : MonoEs ws → ∀ {ρ : Sls} {Q : List PyData → Sls → Prop}, wEs ws ρ Q → wEs ws ρ fun ds ρ' => ds.length = ws.length ∧ Q ds ρ' := by
  induction ws with
  | nil => intro _ ρ Q h; exact ⟨rfl, h⟩
  | cons w ws ih =>
    intro m ρ Q h
    exact m.1 ρ _ _ (fun d ρ1 q => MonoEs.run m.2 (fun ds ρ' ⟨e, q⟩ => ⟨congrArg (· + 1) e, q⟩) (ih m.2 q)) h
theorem sf_disp {es : List (Option Expr)} {vs : List Expr} {ks : List Key} {ws : List WE} (h : SDs R X pos es vs ks ws) (hd : ks.Nodup) (h15k : ks.length ≤ 15) (hall : es.all (·.isSome) = true) (hl : es.length = vs.length) (h0 : es ≠ []) (h15 : es.length ≤ 15) : SF R X (.Dict es vs pos) (wDisp ks ws) := by
  refine ⟨fun B => PE.imp (pe_disp h.pp hall hl h0 h15) fun σ H Q ⟨ρ, G, r, q⟩ => fun p np => ?_, fun ρ Q Q' hq => h.mono.run fun ds ρ1 q => hq _ _ q⟩
  have g0 : B.G0 p = none := by
    cases z : B.G0 p with
    | none => rfl
    | some o =>
      have := r.sub _ _ (r.g0 _ _ z)
      rw [np] at this
      cases this
  have nf : p ∉ B.fp := fun hb => (r.fp0 p hb).2.2 np
  refine pairs_run h.le h.mono (r.beginH (oo := .dK []) np) (h.mono.run (fun ds ρ' ⟨el, q⟩ vs G' H' s r' i => ?_) (wEs_len h.mono q))
  obtain ⟨hD, gD⟩ := r'.apartH g0 nf
  have elen : ks.length = vs.length := by rw [i.length, el]; exact h.le
  refine ⟨hD, ks.zip vs, rfl, by rw [List.length_zip]; omega, ?_⟩
  rw [merge_new (by rw [List.map_nil, List.nil_append, zip_keys elen]; exact hd), List.nil_append]
  have rt := r'.turnH g0 nf (.dK (ks.zip vs))
  obtain ⟨r3, n3⟩ := Rel.overH (vs := []) r s np rt (Own1.dct (isd_zip (ks := ks) i))
  rw [backS_nil] at r3 n3
  exact q _ _ _ s r3 n3
theorem sf_dict0 : SF R X (.Dict [] [] pos) (wC (.dict [])) := by
  refine ⟨fun B => PE.imp pe_dnewK fun σ H Q ⟨ρ, G, r, q⟩ => fun p np => ?_, fun ρ Q Q' hq q => hq _ _ q⟩
  exact q _ _ _ (Same.refl G) (r.up np) (IsNew.of r np (.dct .nil))
end
end DL
namespace DL
open PySem PySem.Spec PyProof.Rows L2
/-! ## tuple(x), list(x), int(x) -/
@[simp] def tupD : D1
  | .list ds, q => q (.tuple ds)
  | .tuple ds, q => q (.tuple ds)
  | _, _ => False
@[simp] def lstD : D1
  | .list ds, q => q (.list ds)
  | .tuple ds, q => q (.list ds)
  | _, _ => False
@[simp] def toIntD : D1
  | .int i, q => q (.int i)
  | .bool k, q => q (.int (if k then 1 else 0))
  | _, _ => False
section
variable {R : Res} {K : PySem.W.Frag}
theorem lk_tuple : Lk1 R K (fun v H Q => (fun xs H Q => ∃ p ys, xs = [.ref p] ∧ ((SqL K H p ys ∧ ∀ l, H l = none → Q (.ref l) (upd H l (.tup ys))) ∨ (SqT K H p ys ∧ Q (.ref p) H))) [v] H Q) tupD := by
  refine ⟨fun B G ρ σ H v x Q r hx h => ?_, fun x q q' hq h => ?_⟩
  · cases hx <;> first
      | exact h.elim
      | skip
    · rename_i a vs ds sa ha
      exact ⟨a, vs, rfl, .inl ⟨.of sa, fun p np => aftN h r np (isTup (H := H) (r.sub.free np) ha)⟩⟩
    · rename_i a vs ds sa ha
      exact ⟨a, vs, rfl, .inr ⟨Sub.seqT r.sub sa, aft h r (.tup sa ha)⟩⟩
  · unfold tupD at h ⊢
    split at h <;> first
      | exact hq _ h
      | exact h.elim
theorem lk_list : Lk1 R K (fun v H Q => (fun xs H Q => ∃ p ys, xs = [.ref p] ∧ (SqL K H p ys ∨ SqT K H p ys) ∧ ∀ l, H l = none → Q (.ref l) (upd H l (.lst ys))) [v] H Q) lstD := by
  refine ⟨fun B G ρ σ H v x Q r hx h => ?_, fun x q q' hq h => ?_⟩
  · cases hx <;> first
      | exact h.elim
      | skip
    · rename_i a vs ds sa ha
      exact ⟨a, vs, rfl, .inl (.of sa), fun p np => aftN h r np (isLst (H := H) (r.sub.free np) ha)⟩
    · rename_i a vs ds sa ha
      exact ⟨a, vs, rfl, .inr (Sub.seqT r.sub sa), fun p np => aftN h r np (isLst (H := H) (r.sub.free np) ha)⟩
  · unfold lstD at h ⊢
    split at h <;> first
      | exact hq _ h
      | exact h.elim
theorem lk_toInt : Lk1 R K (fun v H Q => (fun xs H Q => (∃ i, xs = [.int i] ∧ Q (.int i) H) ∨ ∃ k, xs = [.bl k] ∧ Q (.int (if k then 1 else 0)) H) [v] H Q) toIntD := by
  refine ⟨fun B G ρ σ H v x Q r hx h => ?_, fun x q q' hq h => ?_⟩
  · cases hx <;> first
      | exact h.elim
      | exact .inl ⟨_, rfl, aft h r (.int _)⟩
      | exact .inr ⟨_, rfl, aft h r (.int _)⟩
  · unfold toIntD at h ⊢
    split at h <;> first
      | exact hq _ h
      | exact h.elim
end
/-! ## methods of texts -/
@[simp] def wOpS (f : D2) (a b : Od) : WE := fun ρ Q => a.run ρ fun ga ρ1 => (∃ z, ga ρ1 = some (.str z)) ∧ b.run ρ1 fun gb ρ2 => ∃ x y, ga ρ2 = some x ∧ gb ρ2 = some y ∧ f x y fun z => Q z ρ2
section
variable {R : Res} {X : Cx} {o e c : Expr} {a b : Od}
theorem IsH.strV {K : PySem.W.Frag} {G H : Hp} {v : V} {z : Str} (h : IsH K G H v (.str z)) : v = .str z := by cases h; rfl
theorem se_m1 {r : V → List V → Hp → VK → Prop} {f : D2} (h : ∀ to te, PE X o to → PE X e te → PE X c (tM1 r to te)) (L : Lk2 R X.K (fun v u H Q => r v [u] H Q) f) (ha : SO R X o a) (hb : SO R X e b) : SE R X c (wOpS f a b) := by
  refine ⟨fun B => PE.imp (h _ _ (ha.pe B) (hb.pe B)) fun σ H Q ⟨ρ, G, rl, h⟩ => ?_, fun ρ Q Q' h => ha.mono.run fun _ _ ⟨z, q⟩ => ⟨z, hb.mono.run (fun _ _ ⟨x, y, e1, e2, q⟩ => ⟨x, y, e1, e2, L.mono x y _ _ (fun z => h z _) q⟩) q⟩⟩
  refine od_step ha.mono rl h fun ga ρ1 v G1 H1 s1 r1 i1 h1 => ?_
  obtain ⟨⟨z, ez⟩, h1⟩ := h1
  refine ⟨⟨z, (i1.at r1 ez).strV⟩, od_step hb.mono r1 h1 fun gb ρ2 u G2 H2 s2 r2 i2 h2 => ?_⟩
  obtain ⟨x, y, e1, e2, q⟩ := h2
  exact L.to B G2 ρ2 σ H2 v u x y Q r2 ((i1.mono s2).at r2 e1) (i2.at r2 e2) (L.mono _ _ _ _ (fun z q v' G' H' s r' i => q v' G' H' ((s1.trans s2).trans s) r' i) q)
end
@[simp] def joinD : D2
  | .str a, .list ds, q => ∃ ys : List Str, ds = ys.map PyData.str ∧ (ys.map (·.length)).sum + ys.length * a.length ≤ 16777216 ∧ q (.str (Txt.join a ys))
  | .str a, .tuple ds, q => ∃ ys : List Str, ds = ys.map PyData.str ∧ (ys.map (·.length)).sum + ys.length * a.length ≤ 16777216 ∧ q (.str (Txt.join a ys))
  | _, _, _ => False
theorem Iss.strs {K : PySem.W.Frag} {G : Hp} : ∀ {ys : List Str} {vs : List V}, Iss K G vs (ys.map PyData.str) → vs = ys.map V.str
  | [], _, h => by cases h; rfl
  | y :: ys, _, h => by
    cases h with
    | cons h1 h2 =>
      cases h1
      rw [Iss.strs h2]
      rfl
theorem lk_join {R : Res} {K : PySem.W.Frag} : Lk2 R K (fun v u H Q => (fun x xs H Q => ∃ a p, ∃ ys : List Str, x = .str a ∧ xs = [.ref p] ∧ (SqL K H p (ys.map V.str) ∨ SqT K H p (ys.map V.str)) ∧
      (ys.map (·.length)).sum + ys.length * a.length ≤ 16777216 ∧ Q (.str (Txt.join a ys)) H) v [u] H Q) joinD := by
  refine ⟨fun B G ρ σ H v u x y Q r hx hy h => ?_, fun x y q q' hq h => ?_⟩
  · cases hx <;> cases hy <;> first
      | exact h.elim
      | skip
    · rename_i a p vs ds sa ha
      obtain ⟨ys, e, hz, q⟩ := h
      subst e
      rw [ha.strs] at sa
      exact ⟨a, p, ys, rfl, rfl, .inl (.of sa), hz, aft q r (.str _)⟩
    · rename_i a p vs ds sa ha
      obtain ⟨ys, e, hz, q⟩ := h
      subst e
      rw [ha.strs] at sa
      exact ⟨a, p, ys, rfl, rfl, .inr (Sub.seqT r.sub sa), hz, aft q r (.str _)⟩
  · unfold joinD at h ⊢
    split at h
    · obtain ⟨ys, e, hz, q⟩ := h
      exact ⟨ys, e, hz, hq _ q⟩
    · obtain ⟨ys, e, hz, q⟩ := h
      exact ⟨ys, e, hz, hq _ q⟩
    · exact h.elim
theorem se_join {R : Res} {X : Cx} {o e : Expr} {a b : Od} {apos pos : Pos} (ha : SO R X o a) (hb : SO R X e b) (hs : starEach [e] X.env = [(false, eval e X.env)] := by rfl) (hbase : attributeBase o "join" X.env (eval o X.env) = eval o X.env := by rfl) (hline : (apos.endLine == pos.line) = true := by rfl) :
    SE R X (.Call (.Attribute o "join" apos) [e] [] pos) (wOpS joinD a b) :=
  se_m1 (fun to te h1 h2 => pe_join h1 h2 hs hbase hline) lk_join ha hb
/-! ## a, b = x, y -/
@[simp] def wPar (i j : Nat) (ws : List WE) : WS := fun D ρ => wEs ws ρ fun ds ρ' => ∃ x y, ds = [x, y] ∧ D.nx ((ρ'.set i (.d x)).set j (.d y))
theorem ss_par {R : Res} {X : Cx} {i j : Nat} {x y : Str} {a b : Expr} {ws : List WE} {px py pt pos : Pos} {kt k2 pt2} (hc : X.calm = true) (hN : X.N.Nodup) (hi : X.N[i]? = some x) (hj : X.N[j]? = some y)
    (hx : X.env.scope.names.lookup x = some .local) (hy : X.env.scope.names.lookup y = some .local) (ha : SEs R X [a, b] ws) (hij : i ≠ j := by decide)
    (hw : swappedStores [.Tuple [.Name x px, .Name y py] kt pt] (.Tuple [a, b] k2 pt2) X.env = pure (some [x, y]) := by rfl)
    (hs : swapsWithSole [.Tuple [.Name x px, .Name y py] kt pt] (.Tuple [a, b] k2 pt2) pos.line X.env = pure false := by rfl) :
    SS R X (.Assign [.Tuple [.Name x px, .Name y py] kt pt] (.Tuple [a, b] k2 pt2) pos) (wPar i j ws) := by
  refine ⟨fun B => PS.imp (ps_par hc hN hi hj hij hx hy (ha.pa B) hw hs) fun D σ H ⟨ρ, G, r, q⟩ => ⟨ρ, G, r, ha.mono.run (fun ds ρ' ⟨x, y, e, q⟩ vs G' H' s r' i => ?_) q⟩, fun D D' ρ l => ha.mono.run fun ds ρ' ⟨x, y, e, q⟩ => ⟨x, y, e, l.nx _ q⟩⟩
  subst e
  cases i with
  | cons i1 i2 =>
    cases i2 with
    | cons i2 i3 =>
      cases i3
      exact ⟨_, _, rfl, q _ G' H' s ((r'.setD i1).setD i2)⟩
end DL
namespace DL
open PySem PySem.Spec PyProof.Rows L2
/-! ## defs as they stand, and calls of them -/
/-- where a def stands -/
def Here (K : PySem.W.Frag) (mg : Str → Option Value) (x : Str) (st : Stmt) : Prop := ∃ f fd, Fun K x x st f fd ∧ mg x = some (.ref f)
structure Def (R : Res) (P : Program) (w : World) (K : PySem.W.Frag) (mg : Str → Option Value) (base : Heap) (k : Nat) (x : Str) (st : Stmt) (ps : List Str) (S : Sd) : Prop where
  mS : MonoD S
  ex : ∃ f fd, Fun K x x st f fd ∧ GFn P w K mg base CX0 k f fd ps (spD R K ps.length S) ∧ mg x = some (.ref f) ∧ Binds K fd ps []
section
variable {R : Res} {X : Cx} {k j : Nat} {st : Stmt} {ps : List Str} {S : Sd} {x : Str} {p pos : Pos} {e : Expr} {es : List Expr} {gs hs : List Ag} {kws : List Keyword} {is : Perm} {ks : List Str}
theorem Def.imp {P : Program} {w : World} {K : PySem.W.Frag} {mg : Str → Option Value} {base : Heap} {S' : Sd} (D : Def R P w K mg base k x st ps S) (mS : MonoD S') (h : ∀ as q, S' as q → S as q) : Def R P w K mg base k x st ps S' := by
  obtain ⟨f, fd, F, G, m, b⟩ := D.ex
  exact ⟨mS, f, fd, F, G.imp fun vs H Q E ⟨h1, Gp, as, la, fp, a, b, c, d, q⟩ => ⟨h1, Gp, as, la, fp, a, b, c, d, h as _ q⟩, m, b⟩
theorem Def.up {P : Program} {w : World} {K : PySem.W.Frag} {mg : Str → Option Value} {base : Heap} (D : Def R P w K mg base k x st ps S) (h : k ≤ j) : Def R P w K mg base j x st ps S := by
  obtain ⟨f, fd, F, G, m, b⟩ := D.ex
  exact ⟨D.mS, f, fd, F, G.up h, m, b⟩
theorem se_cD (D : Def R X.prog X.w X.K X.mg X.base k x st ps S) (hgd : X.A.guards = some []) (hr : Room j X.A) (ha : SA R X (e :: es) gs) (hj : k ≤ j := by first | exact Nat.le_refl _ | decide | omega) (hn : gs.length = ps.length := by rfl) (hg : Gl X x := by rfl)
    (hdb : (x == ("__debug__" : Str)) = false := by decide) (he : starEach (e :: es) X.env = (false, eval e X.env) :: starEach es X.env := by rfl) (hpl : (backTo pos (starEach es X.env)).any (·.1) = false := by rfl) :
    SE R X (.Call (.Name x p) (e :: es) [] pos) (wCall S gs) := by
  obtain ⟨f, fd, F, G, m, b⟩ := D.ex
  exact se_call D.mS G hn hgd (hr.mono hj) hg m F.kp b ha hdb he hpl
theorem se_cK0 (D : Def R X.prog X.w X.K X.mg X.base k x st ps S) (hgd : X.A.guards = some []) (hr : Room j X.A) (is : Perm) (h0 : ps.length ≠ 0)
    (hb : ∀ (kV doc pm : Value) (an : Option Addr) (cdv ct : Value) (us ws : List Value), us.length = is.1 → ws.length = is.2.1 → bindArgs (PySem.W.fnOf x x (defArgs st) (defBody st) (defScope st) .none kV doc pm an cdv ct) ⟨us, ks.zip ws⟩ = pure (ps.zip (perm is us ws)))
    (hn : ∀ as bs : List V, as.length = 0 → bs.length = hs.length → (perm is as bs).length = ps.length)
    (hkw : SK R X kws hs) (hj : k ≤ j := by first | exact Nat.le_refl _ | decide | omega) (hg : Gl X x := by rfl) (hall : (backToKw pos (keywordEach kws X.env)).all (·.1.isSome) = true := by rfl) (hks : (backToKw pos (keywordEach kws X.env)).filterMap (·.1) = ks := by rfl)
    (hdb : (x == ("__debug__" : Str)) = false := by decide) (hpl : ((backTo pos (starEach [] X.env)).any (·.1) || (backToKw pos (keywordEach kws X.env)).any (·.1.isNone)) = false := by rfl) :
    SE R X (.Call (.Name x p) [] kws pos) (wCallK S is [] hs) := by
  obtain ⟨f, fd, F, G, m, b⟩ := D.ex
  exact se_callK0 D.mS G (fun as bs h1 h2 => hn as bs h1 h2) hgd (hr.mono hj) hg m F.kp (kb_of F h0 hb) hkw hall hks hdb hpl
theorem se_cK (D : Def R X.prog X.w X.K X.mg X.base k x st ps S) (hgd : X.A.guards = some []) (hr : Room j X.A) (is : Perm) (h0 : ps.length ≠ 0)
    (hb : ∀ (kV doc pm : Value) (an : Option Addr) (cdv ct : Value) (us ws : List Value), us.length = is.1 → ws.length = is.2.1 → bindArgs (PySem.W.fnOf x x (defArgs st) (defBody st) (defScope st) .none kV doc pm an cdv ct) ⟨us, ks.zip ws⟩ = pure (ps.zip (perm is us ws)))
    (hn : ∀ as bs : List V, as.length = gs.length → bs.length = hs.length → (perm is as bs).length = ps.length)
    (ha : SA R X (e :: es) gs) (hkw : SK R X kws hs) (hj : k ≤ j := by first | exact Nat.le_refl _ | decide | omega) (hg : Gl X x := by rfl) (hall : (backToKw pos (keywordEach kws X.env)).all (·.1.isSome) = true := by rfl) (hks : (backToKw pos (keywordEach kws X.env)).filterMap (·.1) = ks := by rfl)
    (hdb : (x == ("__debug__" : Str)) = false := by decide) (he : starEach (e :: es) X.env = (false, eval e X.env) :: starEach es X.env := by rfl) (hpl : ((backTo pos (starEach (e :: es) X.env)).any (·.1) || (backToKw pos (keywordEach kws X.env)).any (·.1.isNone)) = false := by rfl) :
    SE R X (.Call (.Name x p) (e :: es) kws pos) (wCallK S is gs hs) := by
  obtain ⟨f, fd, F, G, m, b⟩ := D.ex
  exact se_callK D.mS G hn hgd (hr.mono hj) hg m F.kp (kb_of F h0 hb) ha hkw hall hks hdb he hpl
/-! ### constants -/
theorem se_int {i : Int} {q : Nat} : SE R X (.Constant (.int i) q pos) (wC (.int i)) := se_c pe_int fun _ => .int _
theorem se_str {z : Str} {q : Nat} : SE R X (.Constant (.str z) q pos) (wC (.str z)) := se_c pe_str fun _ => .str _
theorem se_non {q : Nat} : SE R X (.Constant .none q pos) (wC .none) := se_c pe_non fun _ => .non
theorem se_bl {b : Bool} {q : Nat} : SE R X (.Constant (.bool b) q pos) (wC (.bool b)) := se_c pe_bl fun _ => .bl _
theorem pe_neg {i : Int} {q : Nat} {p2 : Pos} : PE X (.UnaryOp .USub (.Constant (.int i) q p2) pos) (tC (.int (-i))) := PE.imp (pe_un un_neg pe_int) fun _ _ _ q => ⟨i, rfl, q⟩
theorem se_neg1 {i : Int} {q : Nat} {p2 : Pos} : SE R X (.UnaryOp .USub (.Constant (.int i) q p2) pos) (wC (.int (-i))) := se_c pe_neg fun _ => .int _
theorem pe_gI {i : Int} (h : ∃ t, X.mg x = some (.int i t)) (hg : Gl X x := by rfl) (hd : (x == ("__debug__" : Str)) = false := by decide) : PE X (.Name x pos) (tC (.int i)) := by
  obtain ⟨t, e⟩ := h
  exact pe_glob hg e ⟨t, rfl⟩ hd
theorem se_gI {i : Int} (h : ∃ t, X.mg x = some (.int i t)) (hg : Gl X x := by rfl) (hd : (x == ("__debug__" : Str)) = false := by decide) : SE R X (.Name x pos) (wC (.int i)) := se_c (pe_gI h hg hd) fun _ => .int _
theorem pe_gS {z : Str} (h : ∃ t, X.mg x = some (.str z t)) (hg : Gl X x := by rfl) (hd : (x == ("__debug__" : Str)) = false := by decide) : PE X (.Name x pos) (tC (.str z)) := by
  obtain ⟨t, e⟩ := h
  exact pe_glob hg e ⟨t, rfl⟩ hd
theorem se_gS {z : Str} (h : ∃ t, X.mg x = some (.str z t)) (hg : Gl X x := by rfl) (hd : (x == ("__debug__" : Str)) = false := by decide) : SE R X (.Name x pos) (wC (.str z)) := se_c (pe_gS h hg hd) fun _ => .str _
end
/-! ### displays of constants -/
theorem SE.imp {R : Res} {X : Cx} {e : Expr} {w w' : WE} (h : SE R X e w) (hw : ∀ ρ Q, w' ρ Q → w ρ Q) (m : MonoE w') : SE R X e w' :=
  ⟨fun B => PE.imp (h.pe B) fun σ H Q ⟨ρ, G, r, q⟩ => ⟨ρ, G, r, hw _ _ q⟩, m⟩
theorem mono_c {d : PyData} : MonoE (wC d) := fun ρ Q Q' h q => h _ _ q
def SCs (R : Res) (X : Cx) (es : List Expr) (ds : List PyData) : Prop := SEs R X es (ds.map wC)
theorem wEs_c : ∀ (ds : List PyData) (ρ : Sls) (Q : List PyData → Sls → Prop), Q ds ρ → wEs (ds.map wC) ρ Q
  | [], ρ, Q, h => h
  | d :: ds, ρ, Q, h => wEs_c ds ρ (fun ds ρ' => Q (d :: ds) ρ') h
section
variable {R : Res} {X : Cx} {e : Expr} {es : List Expr} {d : PyData} {ds : List PyData} {pos : Pos}
theorem scs_nil : SCs R X [] [] := ses_nil
theorem scs_cons (h : SE R X e (wC d)) (t : SCs R X es ds) (hs : starEach (e :: es) X.env = (false, eval e X.env) :: starEach es X.env := by rfl) : SCs R X (e :: es) (d :: ds) := ses_cons h t hs
theorem se_ctup {k} (h : SCs R X es ds) (hl : ds.length ≤ 1000 := by decide) : SE R X (.Tuple es k pos) (wC (.tuple ds)) :=
  (se_tup h).imp (fun ρ Q q => wEs_c ds ρ _ ⟨Nat.le_trans hl (by decide), q⟩) mono_c
theorem se_clst (h : SCs R X es ds) (hl : ds.length ≤ 1000 := by decide) : SE R X (.List es pos) (wC (.list ds)) :=
  (se_lst h).imp (fun ρ Q q => wEs_c ds ρ _ ⟨Nat.le_trans hl (by decide), q⟩) mono_c
theorem se_cpow {i j : Int} {a b : Nat} {p q : Pos} (h : CPow i j) : SE R X (.BinOp (.Constant (.int i) a p) .Pow (.Constant (.int j) b q) pos) (wC (.int (i ^ j.toNat))) :=
  (se_bin op_pow lk_pow (so_val se_int) (so_val se_int)).imp (fun ρ Q k => ⟨_, _, rfl, rfl, h, k⟩) mono_c
end
/-! ### numbers and sequences times a number -/
@[simp] def mulXD : D2 := fun x y q => mulD x y q ∨ mulsD x y q
theorem op_mulX {X : Cx} : OpR X (binaryOp .Mult) (fun x y H Q => rI CMul (fun i j => .int (i * j)) x y H Q ∨ rMulsD X.K x y H Q) := op_mul.or op_muls
theorem lk_mulX {R : Res} {K : PySem.W.Frag} : Lk2 R K (fun x y H Q => rI CMul (fun i j => .int (i * j)) x y H Q ∨ rMulsD K x y H Q) mulXD :=
  ⟨fun B G ρ σ H v u x y Q r hx hy h => h.imp (lk_mul.to B G ρ σ H v u x y Q r hx hy) (lk_muls.to B G ρ σ H v u x y Q r hx hy), fun x y q q' hq h => h.imp (lk_mul.mono (R := R) (K := K) x y q q' hq) (lk_muls.mono (R := R) (K := K) x y q q' hq)⟩
theorem lk_shown1 {R : Res} {K : PySem.W.Frag} : Lk1 R K (fun v H Q => (fun xs H Q => ∃ v, xs = [v] ∧ rShown K v H Q) [v] H Q) shownD :=
  ⟨fun B G ρ σ H v x Q r hx h => ⟨v, rfl, lk_shown.to B G ρ σ H v x Q r hx h⟩, lk_shown.mono (R := R) (K := K)⟩
/-! ### == and != -/
@[simp] def eqXD : D2
  | .str a, .str b, q => q (.bool (a == b))
  | x, y, q => eqD x y q
@[simp] def neXD : D2
  | .str a, .str b, q => q (.bool (!(a == b)))
  | x, y, q => neD x y q
theorem op_eqX {X : Cx} (hu : X.A.units + 64 < cLine) : OpR X (compareOp .Eq) (fun x y H Q => rEq x y H Q ∨ rEqD X.K x y H Q) := op_eq.or (op_eqD hu)
theorem op_neX {X : Cx} (hu : X.A.units + 64 < cLine) : OpR X (compareOp .NotEq) (fun x y H Q => rNe x y H Q ∨ rNeD X.K x y H Q) := op_ne.or (op_neD hu)
theorem lk_eqX {R : Res} {K : PySem.W.Frag} : Lk2 R K (fun x y H Q => rEq x y H Q ∨ rEqD K x y H Q) eqXD := by
  refine ⟨fun B G ρ σ H v u x y Q r hx hy h => ?_, fun x y q q' hq h => ?_⟩
  · unfold eqXD at h
    split at h
    · cases hx
      cases hy
      rw [← dec_str] at h
      exact .inl ⟨rfl, aft h r (.bl _)⟩
    · exact .inr (lk_eq.to B G ρ σ H v u _ _ Q r hx hy h)
  · unfold eqXD at h ⊢
    split at h
    · exact hq _ h
    · exact lk_eq.mono (R := R) (K := K) _ _ q q' hq h
theorem lk_neX {R : Res} {K : PySem.W.Frag} : Lk2 R K (fun x y H Q => rNe x y H Q ∨ rNeD K x y H Q) neXD := by
  refine ⟨fun B G ρ σ H v u x y Q r hx hy h => ?_, fun x y q q' hq h => ?_⟩
  · unfold neXD at h
    split at h
    · cases hx
      cases hy
      rw [← dec_str] at h
      exact .inl ⟨rfl, aft h r (.bl _)⟩
    · exact .inr (lk_ne.to B G ρ σ H v u _ _ Q r hx hy h)
  · unfold neXD at h ⊢
    split at h
    · exact hq _ h
    · exact lk_ne.mono (R := R) (K := K) _ _ q q' hq h
/-! ### abs -/
@[simp] def absD : D1
  | .int i, q => q (.int (if i < 0 then -i else i))
  | _, _ => False
theorem lk_abs {R : Res} {K : PySem.W.Frag} : Lk1 R K (fun v H Q => (fun xs H Q => ∃ i, xs = [.int i] ∧ Q (.int (if i < 0 then -i else i)) H) [v] H Q) absD := by
  refine ⟨fun B G ρ σ H v x Q r hx h => ?_, fun x q q' hq h => ?_⟩
  · cases hx <;> first
      | exact h.elim
      | exact ⟨_, rfl, aft h r (.int _)⟩
  · unfold absD at h ⊢
    split at h <;> first
      | exact hq _ h
      | exact h.elim
/-! ### target = value -/
@[simp] def wAsg (w : WE) (g : WG) : WS := fun D ρ => w ρ fun d ρ1 => g d ρ1 D.nx
theorem ss_asg {R : Res} {X : Cx} {tg e : Expr} {pos : Pos} {w : WE} {t : TG} {g : WG} {is : List Nat} (he : SE R X e w) (hg : SG R X tg t g is) (hs : swapsWithSole [tg] e pos.line X.env = pure false := by rfl) (hw : swappedStores [tg] e X.env = pure none := by rfl)
    (h1 : (assignEach [tg] X.env).map (·.2) = [assign tg X.env] := by rfl) : SS R X (.Assign [tg] e pos) (wAsg w g) := by
  refine ⟨fun B => PS.imp (ps_asg (he.pe B) hg.pg hs hw h1) fun D σ H ⟨ρ, G, r, q⟩ => ⟨ρ, G, r, he.mono ρ _ _ (fun d ρ1 q v G1 H1 s1 r1 i1 => ?_) q⟩, fun D D' ρ l => he.mono ρ _ _ fun d ρ1 q => hg.mono d ρ1 _ _ (fun ρ' => l.nx ρ') q⟩
  exact hg.to B ρ1 G1 σ H1 v d _ r1 i1 (hg.mono d ρ1 _ _ (fun ρ' k σ' G' H' _ s' r' => k σ' G' H' (s1.trans s') r') q)
end DL
namespace DL
open PySem PySem.Spec PyProof.Rows L2
/-! ## the resource of the first kind: a dict with a list of far numbers and two numbers -/
def loomHO (fa : Addr) (st tm : Int) : HO := .dK [(.inr "far", .ref fa), (.inr "stirred", .int st), (.inr "times", .int tm)]
def loomR : Res where
  ok H la fp := ∃ (fa : Addr) (far : List Int) (st tm : Int), fp = [la, fa] ∧ la ≠ fa ∧ H la = some (loomHO fa st tm) ∧ H fa = some (.lst (far.map V.int)) ∧ far.length ≤ 63
  loc := fun H H' a fp h ⟨fa, far, st, tm, e, n, h1, h2, h3⟩ => by
    subst e
    exact ⟨fa, far, st, tm, rfl, n, by rw [h a (by simp)]; exact h1, by rw [h fa (by simp)]; exact h2, h3⟩
  there := fun H a fp ⟨fa, far, st, tm, e, n, h1, h2, h3⟩ b hb => by
    subst e
    rcases List.mem_cons.mp hb with z | z
    · rw [z, h1]
      exact nofun
    · rw [List.mem_singleton.mp z, h2]
      exact nofun
  rd := fun H a fp ⟨fa, far, st, tm, e, n, h1, h2, h3⟩ => by
    subst e
    simp
/-- what a draw of so many tells -/
def drawn (n r : Int) : Prop := (n < 2 ∧ r = 0) ∨ (2 ≤ n ∧ 0 ≤ r ∧ r < n)
def S_draw : Sd := fun as q => ∃ n : Int, as = [.loom, .d (.int n)] ∧ n < 2 ^ 30 ∧ ∀ r : Int, drawn n r → q (.int r)
theorem mono_draw : MonoD S_draw := fun as q q' h ⟨n, e, b, k⟩ => ⟨n, e, b, fun r d => h _ (k r d)⟩
theorem drawn_mod {n x : Int} (h : 2 ≤ n) : drawn n (x % n) := .inr ⟨h, Int.emod_nonneg _ (by omega), Int.emod_lt_of_pos _ (by omega)⟩
/-- what a draw leaves -/
theorem Left.of {R : Res} {K : PySem.W.Frag} {G H H' : Hp} {la : Addr} {fp : List Addr} {l : Bool} (sg : Sub G H) (hf : ∀ b ∈ fp, G b = none ∧ H b ≠ none) (same : ∀ b o, H b = some o → b ∉ fp → H' b = some o) (ok : R.ok H' la fp) : Left R K G H la fp l G H' :=
  ⟨Same.refl G, fun b o e => by
      have hb : b ∉ fp := fun z => by
        rw [(hf b z).1] at e
        cases e
      exact same b o (sg b o e) hb,
    fun b _ h => h, fun b o e hb => same b o e hb, fun b hb => R.there H' la fp ok b hb, fun _ => ok⟩
/-- a draw, from its reading over the heap -/
theorem draw_sp {R : Res} {K : PySem.W.Frag} {S : Sd} {vs : List V} {H : Hp} {Q : VK} {E : XK} (hS : ∀ as q, S as q → S_draw as q) (h : spD R K 2 S vs H Q E) :
    ∃ (la : Addr) (fp : List Addr) (n : Int), vs = [.ref la, .int n] ∧ n < 2 ^ 30 ∧ R.ok H la fp ∧ ∀ (r : Int) (H' : Hp), drawn n r → R.ok H' la fp → (∀ b o, H b = some o → b ∉ fp → H' b = some o) → Q (.int r) H' := by
  obtain ⟨hn, G, as, la, fp, sg, ra, hf, hl, q⟩ := h
  obtain ⟨n, e, hb, k⟩ := hS _ _ q
  subst e
  cases ra with
  | cons h1 h2 =>
    cases h2 with
    | cons h2 h3 =>
      cases h3
      have h1 : _ = V.ref la := h1
      have h2 := Is.intV (show Is K G _ (.int n) from h2)
      subst h1 h2
      exact ⟨la, fp, n, rfl, hb, hl rfl, fun r H' d ok same => k r d _ _ _ (Left.of sg hf same ok) (.int r)⟩
theorem get_far {la fa : Addr} {st tm : Int} {H : Hp} (h : H la = some (loomHO fa st tm)) : DGet H la (.str "far") (some (.ref fa)) := DGet.k (k := .inr "far") h
theorem get_st {la fa : Addr} {st tm : Int} {H : Hp} (h : H la = some (loomHO fa st tm)) : DGet H la (.str "stirred") (some (.int st)) := DGet.k (k := .inr "stirred") h
theorem get_tm {la fa : Addr} {st tm : Int} {H : Hp} (h : H la = some (loomHO fa st tm)) : DGet H la (.str "times") (some (.int tm)) := DGet.k (k := .inr "times") h
theorem put_tm {la fa : Addr} {st tm t2 : Int} {H : Hp} (h : H la = some (loomHO fa st tm)) : DPut H la (.str "times") (.int t2) (upd H la (loomHO fa st t2)) := DPut.k (k := .inr "times") h (show 3 < sizeLine by decide)
theorem dp_ints {K : PySem.W.Frag} {H : Hp} {a : Addr} {ns : List Int} (h : H a = some (.lst (ns.map V.int))) : Dp K H (.ref a) (.list (ns.map PyData.int)) := by
  refine .lst (.inl (.inl h)) ?_
  clear h
  induction ns with
  | nil => exact .nil
  | cons n r ih => exact .cons (.int _) ih
theorem sel {c : Bool} {P Q : Prop} (h : c = true → P) (k : c = false → Q) : if c = true then P else Q := by
  cases c with
  | true => exact h rfl
  | false => exact k rfl
theorem canLay_ints : ∀ ns : List Int, PyData.canLayAll0 (ns.map PyData.int) = true
  | [] => rfl
  | n :: r => by simp [PyData.canLayAll0, PyData.canLay0, canLay_ints r]
theorem depth_ints : ∀ ns : List Int, PyData.depthAll (ns.map PyData.int) = 0
  | [] => rfl
  | n :: r => by simp [PyData.depthAll, PyData.depth, depth_ints r]
theorem shaped_ints (ns : List Int) : SeqAt.shaped (.list (ns.map PyData.int)) = true := by
  simp [SeqAt.shaped, PyData.canLay0, canLay_ints, PyData.depth, depth_ints]
/-! ## the maker of the resource -/
section
variable {X : Cx} {K : PySem.W.Frag}
theorem pss_then {R : Res} {st : Stmt} {rest : List Stmt} {w : WS} {T : TS} (h : SS R X st w) (t : PSs X rest T) (B : Bs) : PSs X (st :: rest) (fun D σ H => ∃ ρ G, Rel R X.K B G ρ σ H ∧ w (enL R X.K B G { D with nx := T D }) ρ) :=
  PSs.imp (pss_cons (h.ps B) t) fun D σ H q => q
theorem Iss.intsV {K : PySem.W.Frag} {G : Hp} : ∀ {ys : List Int} {vs : List V}, Iss K G vs (ys.map PyData.int) → vs = ys.map V.int
  | [], _, h => by cases h; rfl
  | y :: ys, _, h => by
    cases h with
    | cons h1 h2 =>
      cases h1
      rw [Iss.intsV h2]
      rfl
/-- what the maker's last row asks -/
def mkT (R0 : Res) (K : PySem.W.Frag) (B : Bs) (i : Nat) (w : WE) : TS := fun D σ H => ∃ ρ G, Rel R0 K B G ρ σ H ∧ w ρ fun d ρ' => (∃ fs : List Int, d = .list (fs.map PyData.int) ∧ fs.length ≤ 63) ∧ (∃ s : Int, ρ'[i]? = some (.d (.int s))) ∧
  ∀ la fp H', (∀ b o, B.H0 b = some o → b ∉ B.fp → H' b = some o) → loomR.ok H' la fp → (∀ b ∈ fp, B.H0 b = none) → D.rt (.ref la) H'
theorem ps_mk {R0 : Res} {lc : Expr} {w : WE} {i : Nat} {x : Str} {p1 p2 p3 p4 p5 p6 p7 : Pos} {j1 j2 j3 j4 : Nat} (h : SF R0 X lc w) (hx : PE X (.Name x p4) (tVar i)) (B : Bs) :
    PS X (.Return (some (.Dict [some (.Constant (.str "far") j1 p1), some (.Constant (.str "stirred") j2 p2), some (.Constant (.str "times") j3 p3)] [lc, .Name x p4, .Constant (.int 0) j4 p5] p6)) p7) (mkT R0 X.K B i w) := by
  refine PS.imp (ps_ret (pe_disp (trs := [(tC (.str "far"), fun σ H Q => ∃ B, liftF R0 X.K B w σ H Q), (tC (.str "stirred"), tVar i), (tC (.str "times"), tC (.int 0))]) (pps_cons pe_str ⟨fun pins s σ H Q I ⟨B, q⟩ => (h.pe B).run pins s σ H Q I q⟩ (pps_cons pe_str hx (pps_cons pe_str pe_int pps_nil))) (by rfl) (by rfl) (by simp) (by show 3 ≤ 15; decide))) fun D σ H ⟨ρ, G, r, q⟩ => ?_
  intro p np
  have g0 : B.G0 p = none := by
    cases z : B.G0 p with
    | none => rfl
    | some o =>
      have := r.sub _ _ (r.g0 _ _ z)
      rw [np] at this
      cases this
  have nf : p ∉ B.fp := fun hb => (r.fp0 p hb).2.2 np
  have h0p : B.H0 p = none := r.h0 np
  refine ⟨B.wthH p (.dK []), ρ, G, r.beginH (oo := .dK []) np, h.mono ρ _ _ (fun d ρ' ⟨⟨fs, ed, hl⟩, ⟨s, hs⟩, q⟩ v G' H' sg r' nw => ?_) q⟩
  subst ed
  obtain ⟨a, ho, rfl, ga, ha0, hHa, hown, _⟩ := nw
  obtain ⟨hD, gD⟩ := r'.apartH g0 nf
  have nap : a ≠ p := fun z => by
    rw [z, show (B.wthH p (.dK [])).H0 p = some (.dK []) from upd_same] at ha0
    cases ha0
  have ha0' : B.H0 a = none := by
    rw [show (B.wthH p (.dK [])).H0 a = B.H0 a from upd_ne nap] at ha0
    exact ha0
  obtain ⟨u, eu, iu⟩ := r'.d i _ hs
  have := iu.intV
  subst this
  cases hown with
  | lst hv =>
    have e := hv.intsV
    subst e
    refine ⟨_, eu, hD, [(.inr "far", .ref a), (.inr "stirred", .int s), (.inr "times", .int 0)], rfl, (show 3 ≤ 15 by decide), ?_⟩
    refine q p [p, a] _ (fun b o e hb => ?_) ⟨a, fs, s, 0, rfl, fun z => nap z.symm, upd_same, by rw [upd_ne nap]; exact hHa, hl⟩ (fun b hb => ?_)
    · have hbp : b ≠ p := fun z => by
        rw [z, h0p] at e
        cases e
      rw [upd_ne hbp]
      exact r'.fr b o (by rw [show (B.wthH p (.dK [])).H0 b = B.H0 b from upd_ne hbp]; exact e) hb
    · rcases List.mem_cons.mp hb with z | z
      · rw [z]
        exact h0p
      · rw [List.mem_singleton.mp z]
        exact ha0'
end
theorem mk_of {X : Cx} {s1 s2 : Stmt} {lc : Expr} {w1 w2 : WS} {w3 : WE} {i : Nat} {x : Str} {p1 p2 p3 p4 p5 p6 p7 : Pos} {j1 j2 j3 j4 : Nat} {B : Bs} (h1 : SS loomR X s1 w1) (h2 : SS loomR X s2 w2) (h3 : SF loomR X lc w3) (hx : PE X (.Name x p4) (tVar i)) :
    ∃ T, PSs X [s1, s2, .Return (some (.Dict [some (.Constant (.str "far") j1 p1), some (.Constant (.str "stirred") j2 p2), some (.Constant (.str "times") j3 p3)] [lc, .Name x p4, .Constant (.int 0) j4 p5] p6)) p7] T ∧
      (∀ D σ H, (∃ ρ G, Rel loomR X.K B G ρ σ H ∧ w1 (enL loomR X.K B G { D with nx := fun σ1 H1 => ∃ ρ1 G1, Rel loomR X.K B G1 ρ1 σ1 H1 ∧ w2 (enL loomR X.K B G1 { D with nx := mkT loomR X.K B i w3 D }) ρ1 }) ρ) → T D σ H) ∧ MonoS w1 ∧ MonoS w2 ∧ MonoE w3 :=
  ⟨_, pss_then h1 (pss_then h2 (pss_one (ps_mk h3 hx B)) B) B, fun D σ H h => h, h1.mono, h2.mono, h3.mono⟩
section
variable {P : Program} {w : World} {K : PySem.W.Frag} {mg : Str → Option Value} {base : Heap} {k : Nat}
/-- THE MAKER: two rows, then the dict -/
theorem mk_gd {x qual : Str} {st : Stmt} {f : Addr} {fd : FuncData} {N : List Str} {p : Str} {w1 w2 : WS} {w3 : WE} {i : Nat} (F : Fun K x qual st f fd) (Sc : FnScope N [p] (defScope st))
    (hb : ∀ (cdv : Value) (A : Around) (outer : List PySem.Env) (s : Shared) (H : Hp) (E : XK), (A.deeper (envOfC qual (defScope st) s.heap.objs.size f cdv)).guards = some [] → Room k (A.deeper (envOfC qual (defScope st) s.heap.objs.size f cdv)) →
      ∃ T, PSs (cxOf CX0 P w K mg base N qual (defScope st) f cdv A outer s H E).nox (defBody st) T ∧ (∀ D σ H', (∃ ρ G, Rel loomR K ⟨H, H, [], 0, false⟩ G ρ σ H' ∧ w1 (enL loomR K ⟨H, H, [], 0, false⟩ G { D with nx := fun σ1 H1 => ∃ ρ1 G1, Rel loomR K ⟨H, H, [], 0, false⟩ G1 ρ1 σ1 H1 ∧ w2 (enL loomR K ⟨H, H, [], 0, false⟩ G1 { D with nx := mkT loomR K ⟨H, H, [], 0, false⟩ i w3 D }) ρ1 }) ρ) → T D σ H') ∧ MonoS w1 ∧ MonoS w2 ∧ MonoE w3)
    (hq : ∀ ns : List Int, ns.length ≤ 63 → w1 ⟨fun ρ1 => w2 ⟨fun ρ2 => w3 ρ2 fun d ρ3 => (∃ fs : List Int, d = .list (fs.map PyData.int) ∧ fs.length ≤ 63) ∧ (∃ s : Int, ρ3[i]? = some (.d (.int s))), fun _ => False, fun _ => False, fun _ => False⟩ ρ1, fun _ => False, fun _ => False, fun _ => False⟩ (entry N [.scr ns])) :
    GFn P w K mg base CX0 (k + 1) f fd [p] (spMk loomR K) := by
  obtain ⟨oc, od, kV, doc, pm, an, cdv, ct, osl, rfl, lk, hcd⟩ := F.ex
  refine gfn_of lk hcd Sc (fun vs H Q E h => ?_) fun A outer s H vs Q E hg hr h => ?_
  · obtain ⟨a, ns, rfl, _⟩ := h
    rfl
  obtain ⟨T, hT, hb, m1, m2, m3⟩ := hb cdv A outer s H E hg hr
  obtain ⟨a, ns, rfl, hS, hl, q⟩ := h
  have hr0 : Rel loomR K ⟨H, H, [], 0, false⟩ H (entry N [.scr ns]) (L2.start N [.ref a]) H :=
    Rel.entry (la := 0) (fp := []) (as := [.scr ns]) (Same.refl H) (.cons (show Arg1 K H 0 (.ref a) (.scr ns) from ⟨a, rfl, hS⟩) .nil) (fun b hb => absurd hb (by simp)) (fun z => absurd z Bool.false_ne_true)
  refine ⟨T, hT.nox, hb _ _ _ ⟨_, H, hr0, m1 _ _ _ ⟨fun ρ1 q1 σ1 G1 H1 s1 r1 => ⟨ρ1, G1, r1, m2 _ _ _ ⟨fun ρ2 q2 σ2 G2 H2 s2 r2 => ⟨ρ2, G2, r2, m3 _ _ _ (fun d ρ3 ⟨z1, z2⟩ => ⟨z1, z2, fun la fp H' hh ok new => ?_⟩) q2⟩, fun _ => False.elim, fun _ => False.elim, fun _ => False.elim⟩ q1⟩, fun _ => False.elim, fun _ => False.elim, fun _ => False.elim⟩ (hq ns hl)⟩⟩
  exact q la fp H' (fun b o e => hh b o e (by simp)) ok new
end
/-! ## the script, read -/
@[simp] def wScrSl (i : Nat) (n : Int) : WE := fun ρ Q => ∃ ns : List Int, ρ[i]? = some (.scr ns) ∧ ns.length ≤ n.toNat ∧ Q (.list (ns.map PyData.int)) ρ
@[simp] def wScrLen (i : Nat) : WE := fun ρ Q => ∃ ns : List Int, ρ[i]? = some (.scr ns) ∧ Q (.int ns.length) ρ
section
variable {R : Res} {X : Cx} {i : Nat} {x : Str} {p p2 p3 pos : Pos} {n : Int} {j : Nat}
theorem se_scrSl (h : PE X (.Name x p) (tVar i)) (hn : 0 ≤ n) : SE R X (.Subscript (.Name x p) (.Slice none (some (.Constant (.int n) j p2)) none p3) pos) (wScrSl i n) := by
  refine ⟨fun B => PE.imp (pe_slice sl_list h po_none (po_some pe_int)) fun σ H Q ⟨ρ, G, r, ns, e, hl, q⟩ => ?_, fun ρ Q Q' hq ⟨ns, e, hl, q⟩ => ⟨ns, e, hl, hq _ _ q⟩⟩
  obtain ⟨a, e1, sa⟩ := r.s i ns e
  refine ⟨_, e1, n, rfl, a, _, rfl, Same.seq r.sub sa, fun p np => ?_⟩
  have hc : cutV (ns.map V.int) none (some n) = ns.map V.int := by
    unfold cutV
    rw [HT.sIx_none, List.drop_zero]
    have : HT.sIx (ns.map V.int).length (ns.map V.int).length (some n) = (ns.map V.int).length := by
      show (if n < 0 then _ else min n.toNat (ns.map V.int).length) = _
      rw [if_neg (by omega), List.length_map]
      omega
    rw [this]
    simp [← List.map_take]
  rw [hc]
  have sg : Sub G (upd G p (.lst (ns.map V.int))) := upd_new (r.sub.free np)
  exact q _ _ _ sg (r.laid np) (.lst upd_same (Iss.ints ns))
theorem se_scrLen (hg : Gl X "len") (hm : X.mg "len" = none) (h : PE X (.Name x p) (tVar i)) (he : starEach [Expr.Name x p] X.env = (false, eval (.Name x p) X.env) :: starEach [] X.env := by rfl) (hpl : (backTo pos (starEach [] X.env)).any (·.1) = false := by rfl) : SE R X (.Call (.Name "len" p2) [.Name x p] [] pos) (wScrLen i) := by
  refine ⟨fun B => PE.imp (pe_callB call_len hg hm (by decide +kernel) (pa_cons h pa_nil he) (by decide) (by decide) he hpl) fun σ H Q ⟨ρ, G, r, ns, e, q⟩ => ?_, fun ρ Q Q' hq ⟨ns, e, q⟩ => ⟨ns, e, hq _ _ q⟩⟩
  obtain ⟨a, e1, sa⟩ := r.s i ns e
  refine ⟨_, e1, _, _, rfl, .inl ⟨_, Same.seq r.sub sa, rfl⟩, ?_⟩
  rw [List.length_map]
  exact q _ G H (Same.refl G) r (.int _)
end
end DL
namespace DL
open PySem PySem.Spec PyProof.Rows L2
/-! ## reading what a def asks -/
theorem wLoop_nil {g : WG} {b : WS} {D : En} {ρ : Sls} : wLoop g b [] D ρ = D.nx ρ := rfl
theorem wLoop_cons {g : WG} {b : WS} {D : En} {ρ : Sls} {x : PyData} {xs : List PyData} : wLoop g b (x :: xs) D ρ = g x ρ fun ρ1 => b { D with nx := wLoop g b xs D, ct := wLoop g b xs D, bk := D.nx } ρ1 := rfl
theorem wLcL_nil {g : WG} {tt : WT} {te : WE} {vs : List Nat} {ρ0 ρ : Sls} {acc : List PyData} {Q : List PyData → Sls → Prop} : wLcL g tt te vs ρ0 [] acc ρ Q = Q acc (backS ρ0 ρ vs) := rfl
theorem wLcL_cons {g : WG} {tt : WT} {te : WE} {vs : List Nat} {ρ0 ρ : Sls} {x : PyData} {xs acc : List PyData} {Q : List PyData → Sls → Prop} : wLcL g tt te vs ρ0 (x :: xs) acc ρ Q =
  g x (wipS ρ vs) fun ρ1 => tt ρ1 fun c ρ2 => if c = true then te ρ2 fun d ρ3 => acc.length < sizeLine ∧ wLcL g tt te vs ρ0 xs (acc ++ [d]) ρ3 Q else wLcL g tt te vs ρ0 xs acc ρ2 Q := rfl
end DL
namespace DL
open PySem PySem.Spec PyProof.Rows L2
/-! ## how long the text of a value may be -/
mutual
def wt : PyData → Nat
  | .none => 4
  | .bool _ => 5
  | .int i => (PyData.int i).shown.length
  | .str x => (PyData.str x).shown.length
  | .list xs => wtAll xs + 2
  | .tuple xs => wtAll xs + 3
  | .dict kvs => wtKv kvs + 2
def wtAll : List PyData → Nat
  | [] => 0
  | x :: xs => wt x + 2 + wtAll xs
def wtKv : List (PyData × PyData) → Nat
  | [] => 0
  | (k, v) :: r => wt k + wt v + 4 + wtKv r
end
def lenAll : List Str → Nat
  | [] => 0
  | x :: xs => x.length + 2 + lenAll xs
theorem textFrom_le : ∀ (ts : List Str) (k : Nat) (acc : Str), (textFrom k acc ts).length ≤ acc.length + lenAll ts
  | [], k, acc => Nat.le_refl _
  | t :: r, k, acc => by
    have h := textFrom_le r (k + 1) (acc ++ (if k > 0 then ", " else "" : String) ++ t)
    have e : (acc ++ (if k > 0 then ", " else "" : String) ++ t).length = acc.length + (if k > 0 then 2 else 0) + t.length := by
      rw [strLen_append, strLen_append]
      split <;> rfl
    rw [e] at h
    show (textFrom (k + 1) (acc ++ (if k > 0 then ", " else "" : String) ++ t) r).length ≤ acc.length + (t.length + 2 + lenAll r)
    have b : (if k > 0 then 2 else 0 : Nat) ≤ 2 := by split <;> omega
    omega
theorem listText_le (ts : List Str) : (listText ts).length ≤ lenAll ts + 2 := by
  have h := textFrom_le ts 0 "["
  have e : (listText ts).length = (textFrom 0 "[" ts).length + 1 := by
    unfold listText
    rw [strLen_append]
    rfl
  have e2 : (("[" : String) : Str).length = 1 := rfl
  rw [e2] at h
  omega
theorem piled_eq : ∀ ts : List Str, piled ts = lenAll ts
  | [] => by simp [piled, lenAll]
  | x :: r => by
    rw [piled_cons, piled_eq r]
    simp [lenAll]
theorem join_le (ts : List Str) : (Str.join ", " ts).length ≤ lenAll ts := by
  by_cases h : ts = []
  · subst h
    exact Nat.le_refl _
  · have := join_length_add ts h
    rw [piled_eq] at this
    omega
theorem tupleText_le (ts : List Str) : (tupleText ts).length ≤ lenAll ts + 3 := by
  have h := join_le ts
  have e : (tupleText ts).length = 1 + (Str.join ", " ts).length + (if ts.length == 1 then 2 else 1) := by
    unfold tupleText
    rw [strLen_append, strLen_append]
    split <;> rfl
  rw [e]
  split <;> omega
theorem dictText_le (ts : List Str) : (dictText ts).length ≤ lenAll ts + 2 := by
  have h := join_le ts
  have e : (dictText ts).length = 1 + (Str.join ", " ts).length + 1 := by
    unfold dictText
    rw [strLen_append, strLen_append]
    rfl
  omega
mutual
theorem shown_le : ∀ d : PyData, d.shown.length ≤ wt d
  | .none => by
    show (("None" : String) : Str).length ≤ 4
    decide
  | .bool b => by
    cases b
    · show (("False" : String) : Str).length ≤ 5
      decide
    · show (("True" : String) : Str).length ≤ 5
      decide
  | .int i => Nat.le_refl _
  | .str x => Nat.le_refl _
  | .list xs => by
    have h := listText_le (PyData.shownAll xs)
    have h2 := shownAll_le xs
    simp only [PyData.shown, wt]
    omega
  | .tuple xs => by
    have h := tupleText_le (PyData.shownAll xs)
    have h2 := shownAll_le xs
    simp only [PyData.shown, wt]
    omega
  | .dict kvs => by
    have h := dictText_le (PyData.shownKv kvs)
    have h2 := shownKv_le kvs
    simp only [PyData.shown, wt]
    omega
theorem shownAll_le : ∀ ds : List PyData, lenAll (PyData.shownAll ds) ≤ wtAll ds
  | [] => by simp [PyData.shownAll, lenAll]
  | d :: ds => by
    have h := shown_le d
    have h2 := shownAll_le ds
    simp only [PyData.shownAll, lenAll, wtAll]
    omega
theorem shownKv_le : ∀ ds : List (PyData × PyData), lenAll (PyData.shownKv ds) ≤ wtKv ds
  | [] => by simp [PyData.shownKv, lenAll]
  | (k, d) :: ds => by
    have h := shown_le k
    have h1 := shown_le d
    have h2 := shownKv_le ds
    simp only [PyData.shownKv, lenAll, wtKv, strLen_append]
    have e2 : ((": " : String) : Str).length = 2 := rfl
    omega
end
/-! ### values that may be shown -/
structure Sz (m n : Nat) (d : PyData) : Prop where
  sh : d.showable = true
  dp : d.depth ≤ m
  wt : wt d ≤ n
structure SzA (m n : Nat) (ds : List PyData) : Prop where
  sh : PyData.showableAll ds = true
  dp : PyData.depthAll ds ≤ m
  wt : wtAll ds ≤ n
theorem Sz.le {m n m' n' : Nat} {d : PyData} (h : Sz m n d) (a : m ≤ m') (b : n ≤ n') : Sz m' n' d := ⟨h.sh, Nat.le_trans h.dp a, Nat.le_trans h.wt b⟩
theorem SzA.le {m n m' n' : Nat} {d : List PyData} (h : SzA m n d) (a : m ≤ m') (b : n ≤ n') : SzA m' n' d := ⟨h.sh, Nat.le_trans h.dp a, Nat.le_trans h.wt b⟩
theorem Sz.of_list {m n : Nat} {ds : List PyData} : Sz (m + 1) (n + 2) (.list ds) ↔ SzA m n ds :=
  ⟨fun h => ⟨by simpa [PyData.showable] using h.sh, by have := h.dp; simpa [PyData.depth] using this, by have := h.wt; simp [DL.wt] at this; omega⟩,
    fun h => ⟨by simpa [PyData.showable] using h.sh, by have := h.dp; simpa [PyData.depth] using this, by have := h.wt; simp [DL.wt]; omega⟩⟩
theorem Sz.of_tup {m n : Nat} {ds : List PyData} : Sz (m + 1) (n + 3) (.tuple ds) ↔ SzA m n ds :=
  ⟨fun h => ⟨by simpa [PyData.showable] using h.sh, by have := h.dp; simpa [PyData.depth] using this, by have := h.wt; simp [DL.wt] at this; omega⟩,
    fun h => ⟨by simpa [PyData.showable] using h.sh, by have := h.dp; simpa [PyData.depth] using this, by have := h.wt; simp [DL.wt]; omega⟩⟩
theorem SzA.nil {m n : Nat} : SzA m n [] := ⟨rfl, Nat.zero_le _, Nat.zero_le _⟩
theorem SzA.cons {m n k : Nat} {d : PyData} {ds : List PyData} (h : Sz m n d) (t : SzA m k ds) : SzA m (n + 2 + k) (d :: ds) :=
  ⟨by simp [PyData.showableAll, h.sh, t.sh], by have h1 := h.dp; have h2 := t.dp; simp [PyData.depthAll]; omega, by have h1 := h.wt; have h2 := t.wt; simp [wtAll]; omega⟩
theorem wtAll_append : ∀ xs ys : List PyData, wtAll (xs ++ ys) = wtAll xs + wtAll ys
  | [], ys => by simp [wtAll]
  | x :: xs, ys => by
    simp only [List.cons_append, wtAll, wtAll_append xs ys]
    omega
theorem showAll_append : ∀ xs ys : List PyData, PyData.showableAll (xs ++ ys) = (PyData.showableAll xs && PyData.showableAll ys)
  | [], ys => by simp [PyData.showableAll]
  | x :: xs, ys => by
    simp only [List.cons_append, PyData.showableAll, showAll_append xs ys, Bool.and_assoc]
theorem depthAll_append : ∀ xs ys : List PyData, PyData.depthAll (xs ++ ys) = max (PyData.depthAll xs) (PyData.depthAll ys)
  | [], ys => by simp [PyData.depthAll]
  | x :: xs, ys => by
    simp only [List.cons_append, PyData.depthAll, depthAll_append xs ys]
    omega
theorem SzA.append {m n k : Nat} {xs ys : List PyData} (h : SzA m n xs) (t : SzA m k ys) : SzA m (n + k) (xs ++ ys) :=
  ⟨by rw [showAll_append, h.sh, t.sh]; rfl, by rw [depthAll_append]; have h1 := h.dp; have h2 := t.dp; omega, by rw [wtAll_append]; have h1 := h.wt; have h2 := t.wt; omega⟩
theorem SzA.parts {m n : Nat} {xs ys : List PyData} (h : SzA m n (xs ++ ys)) : SzA m n xs ∧ SzA m n ys := by
  obtain ⟨h1, h2, h3⟩ := h
  rw [showAll_append, Bool.and_eq_true] at h1
  rw [depthAll_append] at h2
  rw [wtAll_append] at h3
  exact ⟨⟨h1.1, by omega, by omega⟩, ⟨h1.2, by omega, by omega⟩⟩
theorem SzA.take {m n : Nat} {xs : List PyData} (h : SzA m n xs) (i : Nat) : SzA m n (xs.take i) := (SzA.parts (ys := xs.drop i) (by rw [List.take_append_drop]; exact h)).1
theorem SzA.drop {m n : Nat} {xs : List PyData} (h : SzA m n xs) (i : Nat) : SzA m n (xs.drop i) := (SzA.parts (xs := xs.take i) (by rw [List.take_append_drop]; exact h)).2
theorem SzA.len {m n : Nat} {xs : List PyData} (h : SzA m n xs) : 2 * xs.length ≤ n := by
  have : ∀ ys : List PyData, 2 * ys.length ≤ wtAll ys := fun ys => by
    induction ys with
    | nil => simp
    | cons y ys ih =>
      simp only [List.length_cons, wtAll]
      omega
  exact Nat.le_trans (this xs) h.wt
theorem SzA.mem {m n : Nat} : ∀ {xs : List PyData} {x : PyData}, SzA m n xs → x ∈ xs → Sz m n x
  | y :: ys, x, h, hx => by
    obtain ⟨h1, h2, h3⟩ := h
    simp only [PyData.showableAll, Bool.and_eq_true] at h1
    simp only [PyData.depthAll] at h2
    simp only [wtAll] at h3
    rcases List.mem_cons.mp hx with rfl | hx
    · exact ⟨h1.1, by omega, by omega⟩
    · exact SzA.mem ⟨h1.2, by omega, by omega⟩ hx
theorem SzA.all {m n k : Nat} : ∀ {xs : List PyData}, (∀ x ∈ xs, Sz m n x) → xs.length ≤ k → SzA m ((n + 2) * k) xs
  | [], _, _ => .nil
  | x :: xs, h, hl => by
    cases k with
    | zero => simp at hl
    | succ k =>
      have t := SzA.all (k := k) (fun y hy => h y (List.mem_cons_of_mem _ hy)) (by simpa using hl)
      have := SzA.cons (h x List.mem_cons_self) t
      refine this.le (Nat.le_refl _) ?_
      rw [Nat.mul_succ]
      omega
theorem SzA.rev {m n : Nat} {xs : List PyData} (h : SzA m n xs) : SzA m n xs.reverse := by
  have e1 : ∀ ys : List PyData, wtAll ys.reverse = wtAll ys := fun ys => by
    induction ys with
    | nil => rfl
    | cons y ys ih => rw [List.reverse_cons, wtAll_append, ih]; simp [wtAll]; omega
  have e2 : ∀ ys : List PyData, PyData.showableAll ys.reverse = PyData.showableAll ys := fun ys => by
    induction ys with
    | nil => rfl
    | cons y ys ih => rw [List.reverse_cons, showAll_append, ih]; simp [PyData.showableAll, Bool.and_comm]
  have e3 : ∀ ys : List PyData, PyData.depthAll ys.reverse = PyData.depthAll ys := fun ys => by
    induction ys with
    | nil => rfl
    | cons y ys ih => rw [List.reverse_cons, depthAll_append, ih]; simp [PyData.depthAll]; omega
  exact ⟨by rw [e2]; exact h.sh, by rw [e3]; exact h.dp, by rw [e1]; exact h.wt⟩
/-- may be shown, with room -/
theorem Sz.ok {m n : Nat} {d : PyData} (h : Sz m n d) (hm : m ≤ 60) (hn : n ≤ 16777216) : d.showable = true ∧ d.depth ≤ 60 ∧ d.shown.length ≤ sizeLine := by
  refine ⟨h.sh, Nat.le_trans h.dp hm, Nat.le_trans (Nat.le_trans (shown_le d) h.wt) ?_⟩
  rw [sizeLine_eq]
  omega
theorem cut_eq (ds : List PyData) (lo hi : Option Int) : ∃ i j, cutD ds lo hi = (ds.drop i).take j := ⟨_, _, rfl⟩
theorem SzA.cut {m n : Nat} {xs : List PyData} (h : SzA m n xs) (lo hi : Option Int) : SzA m n (cutD xs lo hi) := (h.drop _).take _
/-! ### small facts -/
@[simp] theorem shaped_int (i : Int) : SeqAt.shaped (.int i) = true := rfl
@[simp] theorem shaped_bool (b : Bool) : SeqAt.shaped (.bool b) = true := rfl
@[simp] theorem shaped_none : SeqAt.shaped .none = true := rfl
@[simp] theorem shaped_nil : SeqAt.shaped (.list []) = true := rfl
@[simp] theorem eqv_int (i j : Int) : PyData.eqv (.int i) (.int j) = (i == j) := by simp [PyData.eqv]
@[simp] theorem eqv_str (x y : Str) : PyData.eqv (.str x) (.str y) = (x == y) := by simp [PyData.eqv]
@[simp] theorem eqv_bool (x y : Bool) : PyData.eqv (.bool x) (.bool y) = (x == y) := by simp [PyData.eqv]
@[simp] theorem size_small {n : Nat} (h : n ≤ 1000) : n ≤ sizeLine := Nat.le_trans h (by decide)
/-- the value may be shown so, told by a count -/
def szB (m n : Nat) (d : PyData) : Bool := d.showable && decide (d.depth ≤ m) && decide (wt d ≤ n)
theorem szB_ok {m n : Nat} {d : PyData} (h : szB m n d = true) : Sz m n d := by
  unfold szB at h
  simp only [Bool.and_eq_true, decide_eq_true_eq] at h
  exact ⟨h.1.1, h.1.2, h.2⟩
theorem szB_all {m n : Nat} {ds : List PyData} (h : (ds.all (szB m n)) = true) : ∀ d ∈ ds, Sz m n d := fun d hd => szB_ok (List.all_eq_true.mp h d hd)
theorem sz_int {i : Int} (h0 : 0 ≤ i) (h1 : i < 100) : Sz 0 3 (.int i) := by
  have : ∀ n : Fin 100, szB 0 3 (.int (n.val : Int)) = true := by decide +kernel
  have h := this ⟨i.toNat, by omega⟩
  have e : ((i.toNat : Nat) : Int) = i := by omega
  rw [show ((⟨i.toNat, by omega⟩ : Fin 100).val : Int) = i from e] at h
  exact szB_ok h
theorem pick_at {ds : List PyData} {r : Int} (h : drawn ds.length r) (h0 : 0 < ds.length) : ∃ d, L2.atI ds r = some d ∧ d ∈ ds := by
  have hr : 0 ≤ r ∧ r < ds.length := by
    rcases h with ⟨a, b⟩ | ⟨a, b, c⟩
    · omega
    · exact ⟨b, c⟩
  have hn : r.toNat < ds.length := by omega
  refine ⟨ds[r.toNat], ?_, List.getElem_mem hn⟩
  have e : ((r.toNat : Nat) : Int) = r := by omega
  have h2 := L2.atI_nat (List.getElem?_eq_getElem hn)
  rw [e] at h2
  exact h2
theorem size_large {n : Nat} (h : n ≤ 10000000) : n ≤ sizeLine := Nat.le_trans h (by decide)
theorem cut_len (ds : List PyData) (lo hi : Option Int) : (cutD ds lo hi).length ≤ ds.length := by
  obtain ⟨i, j, e⟩ := cut_eq ds lo hi
  rw [e, List.length_take, List.length_drop]
  omega
theorem SzA.mono1 {m n : Nat} {xs : List PyData} (h : SzA m n xs) : SzA (max m 2) n xs := h.le (by omega) (Nat.le_refl _)
theorem SzA.tup {m n k : Nat} {xs : List PyData} (h : SzA m n xs) (hk : n + 3 ≤ k) : Sz (m + 1) k (.tuple xs) := (Sz.of_tup.mpr h).le (Nat.le_refl _) hk
theorem SzA.lst {m n k : Nat} {xs : List PyData} (h : SzA m n xs) (hk : n + 2 ≤ k) : Sz (m + 1) k (.list xs) := (Sz.of_list.mpr h).le (Nat.le_refl _) hk
end DL
namespace DL
open PySem PySem.Spec PyProof.Rows L2
/-! ## cells of one's own, changed -/
section
variable {R : Res} {K : PySem.W.Frag} {B : Bs} {G : Hp} {ρ : Sls} {σ : L2.St} {H : Hp}
theorem Rel.put (r : Rel R K B G ρ σ H) {i : Nat} {a : Addr} {ho' : HO} {x x' : PyData} (h : ρ[i]? = some (.own x)) (ha : σ[i]? = some (some (.ref a))) (w : Own1 K G ho' x') : Rel R K B G (ρ.set i (.own x')) σ (upd H a ho') := by
  obtain ⟨a', ho, e1, e2, e3, e4, e5, e6⟩ := r.o i x h
  rw [ha] at e1
  cases e1
  have hil : i < ρ.length := (List.getElem?_eq_some_iff.mp h).1
  have own : ∀ (j : Nat) (y : PyData), (ρ.set i (.own x'))[j]? = some (.own y) → (i = j ∧ y = x') ∨ (i ≠ j ∧ ρ[j]? = some (.own y)) := fun j y e => by
    rcases set_at e with ⟨z1, z2⟩ | z
    · cases z2
      exact .inl ⟨z1, rfl⟩
    · exact .inr z
  have own' : ∀ (j : Nat) (y : PyData), (ρ.set i (.own x'))[j]? = some (.own y) → ∃ y', ρ[j]? = some (.own y') := fun j y e => by
    rcases own j y e with ⟨z1, _⟩ | ⟨_, z2⟩
    · subst z1
      exact ⟨x, h⟩
    · exact ⟨y, z2⟩
  refine ⟨r.sub.up e2, by rw [List.length_set]; exact r.len, r.g0, r.new, fun b o e hb => ?_, fun b hb => ?_, fun j y e => ?_, fun j y e => ?_, fun j y e => ?_, ?_⟩
  · have nb : b ≠ a := fun z => by
      rw [z, e3] at e
      cases e
    rw [upd_ne nb]
    exact r.fr b o e hb
  · have nb : b ≠ a := fun z => (r.fp0 b hb).2.1 (by rw [z]; exact e3)
    rw [upd_ne nb]
    exact r.fp0 b hb
  · rcases set_at e with ⟨_, z⟩ | ⟨_, z⟩
    · cases z
    · exact r.d j y z
  · rcases set_at e with ⟨_, z⟩ | ⟨_, z⟩
    · cases z
    · exact r.s j y z
  · rcases own j y e with ⟨z1, z2⟩ | ⟨z1, z2⟩
    · subst z1 z2
      exact ⟨a, ho', ha, e2, e3, upd_same, w, fun l z h1 h2 => by
        obtain ⟨z', h1'⟩ := own' l z h1
        exact e6 l z' h1' h2⟩
    · obtain ⟨c, hc, q1, q2, q3, q4, q5, q6⟩ := r.o j y z2
      have nc : c ≠ a := fun z => by
        subst z
        exact z1 (e6 j y z2 q1).symm
      exact ⟨c, hc, q1, q2, q3, by rw [upd_ne nc]; exact q4, q5, fun l z h1 h2 => by
        obtain ⟨z', h1'⟩ := own' l z h1
        exact q6 l z' h1' h2⟩
  · obtain ⟨la, fp, q⟩ := r.l
    have nb : ∀ b ∈ fp, b ≠ a := fun b hb z => (q.pf b hb).2.2.2 i x h (by rw [z]; exact ha)
    have lo : ∀ (j : Nat), (ρ.set i (.own x'))[j]? = some .loom → ρ[j]? = some .loom := fun j e => by
      rcases set_at e with ⟨_, z⟩ | ⟨_, z⟩
      · cases z
      · exact z
    refine ⟨la, fp, fun j e => q.pl j (lo j e), fun z => R.loc H _ la fp (fun b hb => upd_ne (nb b hb)) (q.ok (z.imp (fun ⟨j, e⟩ => ⟨j, lo j e⟩) id)), fun b hb => ?_, q.tie⟩
    obtain ⟨z1, z0, z2, z3⟩ := q.pf b hb
    rw [upd_ne (nb b hb)]
    refine ⟨z1, z0, z2, fun j y e => ?_⟩
    obtain ⟨y', e'⟩ := own' j y e
    exact z3 j y' e'
/-- the cell of an own list -/
theorem Rel.ownL (r : Rel R K B G ρ σ H) {i : Nat} {ds : List PyData} (h : ρ[i]? = some (.own (.list ds))) : ∃ a vs, σ[i]? = some (some (.ref a)) ∧ H a = some (.lst vs) ∧ Iss K G vs ds := by
  obtain ⟨a, ho, e1, _, _, e4, e5, _⟩ := r.o i _ h
  cases e5 with
  | lst hv => exact ⟨a, _, e1, e4, hv⟩
theorem tyL {K : PySem.W.Frag} {a : Addr} {vs : List V} {H : Hp} (h : H a = some (.lst vs)) : tyV K "list" (.ref a) H := .inl ⟨rfl, vs, .inl (.inl h)⟩
end
@[simp] def wApp (i : Nat) (w : WE) : WE := fun ρ Q => (∃ ds, ρ[i]? = some (.own (.list ds))) ∧ w ρ fun d ρ1 => ∃ ds, ρ1[i]? = some (.own (.list ds)) ∧ ds.length < sizeLine ∧ Q .none (ρ1.set i (.own (.list (ds ++ [d]))))
@[simp] def wPop (i : Nat) : WE := fun ρ Q => ∃ ds d, ρ[i]? = some (.own (.list (ds ++ [d]))) ∧ Q d (ρ.set i (.own (.list ds)))
@[simp] def wPopAt (i : Nat) (w : WE) : WE := fun ρ Q => (∃ ds, ρ[i]? = some (.own (.list ds))) ∧ w ρ fun d ρ1 => ∃ ds k j x, d = .int k ∧ ρ1[i]? = some (.own (.list ds)) ∧ -(2 ^ 63) ≤ k ∧ k < 2 ^ 63 ∧ seqIndex? k ds.length = some j ∧ ds[j]? = some x ∧ Q x (ρ1.set i (.own (.list (ds.eraseIdx j))))
@[simp] def wExt (i : Nat) (w : WE) : WE := fun ρ Q => (∃ ds, ρ[i]? = some (.own (.list ds))) ∧ w ρ fun d ρ1 => ∃ ds es, d = .list es ∧ ρ1[i]? = some (.own (.list ds)) ∧ ds.length + es.length ≤ sizeLine ∧ Q .none (ρ1.set i (.own (.list (ds ++ es))))
section
variable {R : Res} {X : Cx} {i : Nat} {x : Str} {p apos cpos : Pos} {e : Expr} {w : WE}
theorem se_append (h : PE X (.Name x p) (tVar i)) (he : SE R X e w) (hbase : attributeBase (.Name x p) "append" X.env (eval (.Name x p) X.env) = eval (.Name x p) X.env := by rfl)
    (hfew : ((backTo cpos (starEach [e] X.env)).all (fun x => !x.1) && (backToKw cpos (keywordEach [] X.env)).all (fun x => x.1.isSome) && decide ([e].length + ([] : List Keyword).length + (if ([] : List Keyword).isEmpty then 0 else 1) < 30)) = true := by rfl)
    (hline : (apos.endLine == cpos.line) = true := by rfl) (hs : starEach [e] X.env = (false, eval e X.env) :: starEach [] X.env := by rfl) (hplain : (backTo cpos (starEach [] X.env)).any (·.1) = false := by rfl) :
    SE R X (.Call (.Attribute (.Name x p) "append" apos) [e] [] cpos) (wApp i w) := by
  refine ⟨fun B => PE.imp (pe_bm PySem.F.plainAttrs_list PySem.F.slot_list_append PySem.F.type_list_append mt_append h ((ses_cons he ses_nil hs).pa B) hbase hfew hline hs hplain) fun σ H Q ⟨ρ, G, r, ⟨ds0, e0⟩, q⟩ => ?_, fun ρ Q Q' hq ⟨z, q⟩ => ⟨z, he.mono ρ _ _ (fun d ρ1 ⟨ds, a, b, q⟩ => ⟨ds, a, b, hq _ _ q⟩) q⟩⟩
  obtain ⟨a, vs0, ea, eH, _⟩ := r.ownL e0
  refine ⟨_, ea, tyL eH, ρ, G, r, he.mono ρ _ _ (fun d ρ1 ⟨ds, e1, hl, q⟩ us G' H' s r' iv => ?_) q⟩
  obtain ⟨a', vs, ea', eH', iv'⟩ := r'.ownL e1
  rw [ea] at ea'
  cases ea'
  cases iv with
  | cons i1 i2 =>
    cases i2
    exact ⟨a, vs, _, rfl, rfl, eH', by rw [iv'.length]; exact hl, q _ G' _ s (r'.put e1 ea (.lst (iv'.append (.cons i1 .nil)))) .non⟩
theorem se_pop (h : PE X (.Name x p) (tVar i)) (hbase : attributeBase (.Name x p) "pop" X.env (eval (.Name x p) X.env) = eval (.Name x p) X.env := by rfl) (hline : (apos.endLine == cpos.line) = true := by rfl) :
    SE R X (.Call (.Attribute (.Name x p) "pop" apos) [] [] cpos) (wPop i) := by
  refine ⟨fun B => PE.imp (pe_bm0 PySem.F.plainAttrs_list PySem.F.slot_list_pop PySem.F.type_list_pop mt_pop h hbase hline) fun σ H Q ⟨ρ, G, r, ds, d, e0, q⟩ => ?_, fun ρ Q Q' hq ⟨ds, d, e, q⟩ => ⟨ds, d, e, hq _ _ q⟩⟩
  obtain ⟨a, vs, ea, eH, iv⟩ := r.ownL e0
  obtain ⟨u, eu, iu⟩ := iv.get (i := ds.length) (d := d) (by simp)
  have hl : vs.length = ds.length + 1 := by rw [iv.length]; simp
  have it : Iss X.K G vs.dropLast ds := by
    have := iv.take ds.length
    rw [List.take_left' rfl] at this
    rw [List.dropLast_eq_take, hl]
    exact this
  exact ⟨_, ea, tyL eH, a, vs, u, rfl, rfl, eH, by rw [hl]; exact eu, q u G _ (Same.refl G) (r.put e0 ea (.lst it)) iu⟩
theorem se_popAt (h : PE X (.Name x p) (tVar i)) (he : SE R X e w) (hbase : attributeBase (.Name x p) "pop" X.env (eval (.Name x p) X.env) = eval (.Name x p) X.env := by rfl)
    (hfew : ((backTo cpos (starEach [e] X.env)).all (fun x => !x.1) && (backToKw cpos (keywordEach [] X.env)).all (fun x => x.1.isSome) && decide ([e].length + ([] : List Keyword).length + (if ([] : List Keyword).isEmpty then 0 else 1) < 30)) = true := by rfl)
    (hline : (apos.endLine == cpos.line) = true := by rfl) (hs : starEach [e] X.env = (false, eval e X.env) :: starEach [] X.env := by rfl) (hplain : (backTo cpos (starEach [] X.env)).any (·.1) = false := by rfl) :
    SE R X (.Call (.Attribute (.Name x p) "pop" apos) [e] [] cpos) (wPopAt i w) := by
  refine ⟨fun B => PE.imp (pe_bm PySem.F.plainAttrs_list PySem.F.slot_list_pop PySem.F.type_list_pop mt_popAt h ((ses_cons he ses_nil hs).pa B) hbase hfew hline hs hplain) fun σ H Q ⟨ρ, G, r, ⟨ds0, e0⟩, q⟩ => ?_, fun ρ Q Q' hq ⟨z, q⟩ => ⟨z, he.mono ρ _ _ (fun d ρ1 ⟨ds, k, j, y, a, b, c, d', e, f, q⟩ => ⟨ds, k, j, y, a, b, c, d', e, f, hq _ _ q⟩) q⟩⟩
  obtain ⟨a, vs0, ea, eH, _⟩ := r.ownL e0
  refine ⟨_, ea, tyL eH, ρ, G, r, he.mono ρ _ _ (fun d ρ1 ⟨ds, k, j, y, ed, e1, k1, k2, hj, hy, q⟩ us G' H' s r' iv => ?_) q⟩
  subst ed
  obtain ⟨a', vs, ea', eH', iv'⟩ := r'.ownL e1
  rw [ea] at ea'
  cases ea'
  obtain ⟨u, eu, iu⟩ := iv'.get hy
  have it : Iss X.K G' (vs.eraseIdx j) (ds.eraseIdx j) := by
    rw [List.eraseIdx_eq_take_drop_succ, List.eraseIdx_eq_take_drop_succ]
    exact (iv'.take j).append (iv'.drop (j + 1))
  cases iv with
  | cons i1 i2 =>
    cases i2
    cases i1
    exact ⟨a, vs, k, j, u, rfl, rfl, eH', k1, k2, by rw [iv'.length]; exact hj, eu, q u G' _ s (r'.put e1 ea (.lst it)) iu⟩
theorem se_extend (h : PE X (.Name x p) (tVar i)) (he : SE R X e w) (hbase : attributeBase (.Name x p) "extend" X.env (eval (.Name x p) X.env) = eval (.Name x p) X.env := by rfl)
    (hfew : ((backTo cpos (starEach [e] X.env)).all (fun x => !x.1) && (backToKw cpos (keywordEach [] X.env)).all (fun x => x.1.isSome) && decide ([e].length + ([] : List Keyword).length + (if ([] : List Keyword).isEmpty then 0 else 1) < 30)) = true := by rfl)
    (hline : (apos.endLine == cpos.line) = true := by rfl) (hs : starEach [e] X.env = (false, eval e X.env) :: starEach [] X.env := by rfl) (hplain : (backTo cpos (starEach [] X.env)).any (·.1) = false := by rfl) :
    SE R X (.Call (.Attribute (.Name x p) "extend" apos) [e] [] cpos) (wExt i w) := by
  refine ⟨fun B => PE.imp (pe_bm PySem.F.plainAttrs_list PySem.F.slot_list_extend PySem.F.type_list_extend mt_extend h ((ses_cons he ses_nil hs).pa B) hbase hfew hline hs hplain) fun σ H Q ⟨ρ, G, r, ⟨ds0, e0⟩, q⟩ => ?_, fun ρ Q Q' hq ⟨z, q⟩ => ⟨z, he.mono ρ _ _ (fun d ρ1 ⟨ds, es, a, b, c, q⟩ => ⟨ds, es, a, b, c, hq _ _ q⟩) q⟩⟩
  obtain ⟨a, vs0, ea, eH, _⟩ := r.ownL e0
  refine ⟨_, ea, tyL eH, ρ, G, r, he.mono ρ _ _ (fun d ρ1 ⟨ds, es, ed, e1, hl, q⟩ us G' H' s r' iv => ?_) q⟩
  subst ed
  obtain ⟨a', vs, ea', eH', iv'⟩ := r'.ownL e1
  rw [ea] at ea'
  cases ea'
  cases iv with
  | cons i1 i2 =>
    cases i2
    cases i1 with
    | lst sa ha => exact ⟨a, _, vs, _, rfl, rfl, eH', r'.sub _ _ sa, by rw [iv'.length, ha.length]; exact hl, q _ G' _ s (r'.put e1 ea (.lst (iv'.append ha))) .non⟩
end
/-! ### x[k] = v, of one's own list -/
@[simp] def wgSub (i : Nat) (w : WE) : WG := fun d ρ Q => w ρ fun k ρ1 => ∃ ds n j, k = .int n ∧ ρ1[i]? = some (.own (.list ds)) ∧ L2.ixN ds.length n = some j ∧ Q (ρ1.set i (.own (.list (ds.set j d))))
section
variable {R : Res} {X : Cx} {i : Nat} {x : Str} {p pos : Pos} {e v : Expr} {w wv : WE}
theorem sg_sub (h : PE X (.Name x p) (tVar i)) (he : SE R X e w) (ha : ∀ v, assign (.Subscript (.Name x p) e pos) X.env v = (do
      let ov ← holding [v] (eval (.Name x p) X.env)
      let iv ← holding [v, ov] (eval e X.env)
      standAt pos
      holding [v, ov, iv] (setItem ov iv v)
      release [v, ov, iv] []) := by intro _; rfl) : SG R X (.Subscript (.Name x p) e pos) (gSub (tVar i) (fun σ H Q => ∃ B, liftE R X.K B w σ H Q) rSetL) (fun d ρ Q => (∃ ds, ρ[i]? = some (.own (.list ds))) ∧ wgSub i w d ρ Q) [] := by
  refine ⟨pg_sub h ⟨fun pins s σ H Q I ⟨B, q⟩ => (he.pe B).run pins s σ H Q I q⟩ set_list ha, fun B ρ G σ H v d q r iv ⟨⟨ds0, e0⟩, k⟩ => ?_, fun d ρ Q Q' hq ⟨z, k⟩ => ⟨z, he.mono ρ _ _ (fun k ρ1 ⟨ds, n, j, a, b, c, q⟩ => ⟨ds, n, j, a, b, c, hq _ q⟩) k⟩⟩
  obtain ⟨a, vs0, ea, eH, _⟩ := r.ownL e0
  refine ⟨_, ea, B, ρ, G, r, he.mono ρ _ _ (fun k ρ1 ⟨ds, n, j, ek, e1, hj, k⟩ u G' H' s r' iu => ?_) k⟩
  subst ek
  obtain ⟨a', vs, ea', eH', iv'⟩ := r'.ownL e1
  rw [ea] at ea'
  cases ea'
  cases iu
  exact ⟨a, vs, n, j, rfl, rfl, eH', by rw [iv'.length]; exact hj, k σ G' _ (Off.refl [] σ) s (r'.put e1 ea (.lst (Iss.set (iv.mono s) _ iv')))⟩
end
/-! ## two names at once, with cells of one's own -/
section
variable {R : Res} {K : PySem.W.Frag} {B : Bs} {G : Hp} {ρ : Sls} {σ : L2.St} {H : Hp} {D : Addr} {oo : HO}
/-- a new cell in hand, set apart -/
theorem Rel.aside (r : Rel R K B G ρ σ H) {v : V} {x : PyData} (n : IsNew R K B G σ ρ H v x) : ∃ p ho, v = .ref p ∧ H p = some ho ∧ Own1 K G ho x ∧ Rel R K (B.wthH p ho) G ρ σ H ∧ p ∉ B.fp ∧ B.G0 p = none ∧ B.H0 p = none := by
  obtain ⟨p, ho, rfl, n1, n2, n3, n4, n5, la, fp, q, n6⟩ := n
  have g0 : B.G0 p = none := by
    cases z : B.G0 p with
    | none => rfl
    | some o =>
      have := r.g0 _ _ z
      rw [n1] at this
      cases this
  have nf : p ∉ B.fp := fun hb => (r.fp0 p hb).2.1 n2
  have other : ∀ b, b ≠ p → (B.wthH p ho).H0 b = B.H0 b := fun b n => upd_ne n
  refine ⟨p, ho, rfl, n3, n4, ⟨r.sub, r.len, r.g0, fun b h1 h2 => ?_, fun b o e hb => ?_, fun b hb => ?_, r.d, r.s, fun i y e => ?_, la, fp, q.pl, q.ok, fun b hb => ?_, q.tie⟩, nf, g0, n2⟩
  · by_cases z : b = p
    · subst z
      exact absurd n1 h2
    · rw [other b z] at h1
      exact r.new b h1 h2
  · by_cases z : b = p
    · subst z
      rw [show (B.wthH b ho).H0 b = some ho from upd_same] at e
      cases e
      exact n3
    · rw [other b z] at e
      exact r.fr b o e hb
  · have z : b ≠ p := fun z => nf (z ▸ hb)
    rw [other b z]
    exact r.fp0 b hb
  · obtain ⟨c, hc, q1, q2, q3, q4, q5, q6⟩ := r.o i y e
    have z : c ≠ p := fun z => by
      subst z
      exact n5 i y e q1
    exact ⟨c, hc, q1, q2, by rw [other c z]; exact q3, q4, q5, q6⟩
  · have z : b ≠ p := fun z => n6 (z ▸ hb)
    obtain ⟨z1, z0, z2, z3⟩ := q.pf b hb
    exact ⟨z1, z0, by rw [other b z]; exact z2, z3⟩
theorem LoomAt.unapart {la : Addr} {fp : List Addr} (q : LoomAt R (B.wthH D oo) G ρ σ H la fp) (nf : D ∉ B.fp) : LoomAt R B G ρ σ H la fp ∧ D ∉ fp := by
  have fne : ∀ b ∈ fp, b ≠ D := fun b hb z => by
    rcases (q.pf b hb).2.2.1 with y | y
    · rw [z, show (B.wthH D oo).H0 D = some oo from upd_same] at y
      cases y
    · exact nf (z ▸ y)
  exact ⟨⟨q.pl, q.ok, fun b hb => let ⟨z1, z0, z2, z3⟩ := q.pf b hb; ⟨z1, z0, z2.imp (fun z => by rw [show (B.wthH D oo).H0 b = B.H0 b from upd_ne (fne b hb)] at z; exact z) id, z3⟩, q.tie⟩, fun z => fne D z rfl⟩
theorem Rel.unapart (h0 : B.H0 D = none) (nf : D ∉ B.fp) (r : Rel R K (B.wthH D oo) G ρ σ H) : Rel R K B G ρ σ H := by
  have back : ∀ (b : Addr), b ≠ D → (B.wthH D oo).H0 b = B.H0 b := fun b n => upd_ne n
  obtain ⟨la, fp, q⟩ := r.l
  refine ⟨r.sub, r.len, r.g0, fun b h1 h2 => ?_, fun b o e hb => ?_, fun b hb => ?_, r.d, r.s, fun i x e => ?_, la, fp, (q.unapart nf).1⟩
  · have nb : b ≠ D := fun z => h1 (by rw [z]; exact h0)
    exact r.new b (by rw [back b nb]; exact h1) h2
  · have nb : b ≠ D := fun z => by
      rw [z, h0] at e
      cases e
    exact r.fr b o (by rw [back b nb]; exact e) hb
  · have nb : b ≠ D := fun z => nf (z ▸ hb)
    have := r.fp0 b hb
    rw [back b nb] at this
    exact this
  · obtain ⟨a, ho, e1, e2, e3, e4, e5, e6⟩ := r.o i x e
    have na : a ≠ D := fun z => by
      rw [z, show (B.wthH D oo).H0 D = some oo from upd_same] at e3
      cases e3
    exact ⟨a, ho, e1, e2, by rw [back a na] at e3; exact e3, e4, e5, e6⟩
/-- the cell set apart is a new cell still -/
theorem Rel.newOf (r : Rel R K (B.wthH D oo) G ρ σ H) (h0 : B.H0 D = none) (g0 : B.G0 D = none) (nf : D ∉ B.fp) {d : PyData} (ha : Own1 K G oo d) {la : Addr} {fp : List Addr} (q : LoomAt R (B.wthH D oo) G ρ σ H la fp) : IsNew R K B G σ ρ H (.ref D) d := by
  obtain ⟨hD, gD⟩ := r.apartH g0 nf
  obtain ⟨q1, q2⟩ := q.unapart nf
  refine ⟨D, _, rfl, gD, h0, hD, ha, fun j y e z => ?_, la, fp, q1, q2⟩
  obtain ⟨a, ho, e1, _, e3, _⟩ := r.o j y e
  rw [e1] at z
  cases z
  rw [show (B.wthH D oo).H0 D = some oo from upd_same] at e3
  cases e3
theorem LoomAt.setO {la : Addr} {fp : List Addr} {i : Nat} {a : Addr} {d : PyData} (q : LoomAt R B G ρ σ H la fp) (hl : ρ.length = σ.length) (na : a ∉ fp) : LoomAt R B G (ρ.set i (.own d)) (σ.set i (some (.ref a))) H la fp := by
  have lo : ∀ (j : Nat), (ρ.set i (.own d))[j]? = some .loom → i ≠ j ∧ ρ[j]? = some .loom := fun j e => by
    rcases set_at e with ⟨_, z2⟩ | z
    · cases z2
    · exact z
  refine ⟨fun j e => ?_, fun z => q.ok (z.imp (fun ⟨j, e⟩ => ⟨j, (lo j e).2⟩) id), fun b hb => ?_, q.tie⟩
  · rw [set_get (lo j e).1]
    exact q.pl j (lo j e).2
  · obtain ⟨z1, z0, z2, z3⟩ := q.pf b hb
    refine ⟨z1, z0, z2, fun j y e z => ?_⟩
    rcases set_at e with ⟨y1, y2⟩ | ⟨y1, y2⟩
    · subst y1
      have hi : i < σ.length := by
        have := (List.getElem?_eq_some_iff.mp e).1
        rw [List.length_set, hl] at this
        exact this
      rw [List.getElem?_set_self hi] at z
      cases z
      exact na hb
    · rw [set_get y1] at z
      exact z3 j y y2 z
/-- two new cells, stored -/
theorem Rel.setOO (r : Rel R K (B.wthH D oo) G ρ σ H) (h0 : B.H0 D = none) (g0 : B.G0 D = none) (nf : D ∉ B.fp) {x y : PyData} (ha : Own1 K G oo x) {v : V} (n2 : IsNew R K (B.wthH D oo) G σ ρ H v y) {i j : Nat} :
    Rel R K B G ((ρ.set i (.own x)).set j (.own y)) ((σ.set i (some (.ref D))).set j (some v)) H := by
  obtain ⟨p, ho, rfl, w1, w2, w3, w4, w5, la, fp, q, w6⟩ := n2
  have np : p ≠ D := fun z => by
    rw [z, show (B.wthH D oo).H0 D = some oo from upd_same] at w2
    cases w2
  have w2' : B.H0 p = none := by
    rw [show (B.wthH D oo).H0 p = B.H0 p from upd_ne np] at w2
    exact w2
  have nD := r.newOf h0 g0 nf ha q
  have r1 := (r.unapart h0 nf).setO (i := i) nD
  obtain ⟨q1, q2⟩ := q.unapart nf
  refine r1.setO ⟨p, ho, rfl, w1, w2', w3, w4, fun l z e1 e2 => ?_, la, fp, q1.setO r.len q2, w6⟩
  rcases set_at e1 with ⟨y1, y2⟩ | ⟨y1, y2⟩
  · subst y1
    have hi : i < σ.length := by
      have := (List.getElem?_eq_some_iff.mp e1).1
      rw [List.length_set, r.len] at this
      exact this
    rw [List.getElem?_set_self hi] at e2
    cases e2
    exact np rfl
  · rw [set_get y1] at e2
    exact w5 l z y2 e2
end
@[simp] def wParOO (i j : Nat) (w1 w2 : WE) : WS := fun D ρ => w1 ρ fun x ρ1 => w2 ρ1 fun y ρ2 => D.nx ((ρ2.set i (.own x)).set j (.own y))
theorem ss_parOO {R : Res} {X : Cx} {i j : Nat} {x y : Str} {a b : Expr} {w1 w2 : WE} {px py pt pos : Pos} {kt k2 pt2} (hc : X.calm = true) (hN : X.N.Nodup) (hi : X.N[i]? = some x) (hj : X.N[j]? = some y)
    (hx : X.env.scope.names.lookup x = some .local) (hy : X.env.scope.names.lookup y = some .local) (ha : SF R X a w1) (hb : SF R X b w2) (hij : i ≠ j := by decide)
    (hw : swappedStores [.Tuple [.Name x px, .Name y py] kt pt] (.Tuple [a, b] k2 pt2) X.env = pure (some [x, y]) := by rfl)
    (hs : swapsWithSole [.Tuple [.Name x px, .Name y py] kt pt] (.Tuple [a, b] k2 pt2) pos.line X.env = pure false := by rfl)
    (hs1 : starEach [a, b] X.env = (false, eval a X.env) :: starEach [b] X.env := by rfl) (hs2 : starEach [b] X.env = (false, eval b X.env) :: starEach [] X.env := by rfl) :
    SS R X (.Assign [.Tuple [.Name x px, .Name y py] kt pt] (.Tuple [a, b] k2 pt2) pos) (wParOO i j w1 w2) := by
  have hb' : PE X b (fun σ H Q => ∃ B, liftF R X.K B w2 σ H Q) := ⟨fun pins s σ H Q I ⟨B, q⟩ => (hb.pe B).run pins s σ H Q I q⟩
  refine ⟨fun B => PS.imp (ps_par hc hN hi hj hij hx hy (pa_cons (ha.pe B) (pa_cons hb' pa_nil hs2) hs1) hw hs) fun D σ H ⟨ρ, G, r, q⟩ => ?_, fun D D' ρ l => ha.mono ρ _ _ fun x ρ1 => hb.mono ρ1 _ _ fun y ρ2 q => l.nx _ q⟩
  refine ⟨ρ, G, r, ha.mono ρ _ _ (fun d ρ1 q v G1 H1 s1 r1 n1 => ?_) q⟩
  obtain ⟨p, ho, rfl, e1, e2, ra, nf, g0, h0⟩ := r1.aside n1
  refine ⟨B.wthH p ho, ρ1, G1, ra, hb.mono ρ1 _ _ (fun d2 ρ2 q u G2 H2 s2 r2 n2 => ?_) q⟩
  exact ⟨_, _, rfl, q _ G2 H2 (s1.trans s2) (r2.setOO h0 g0 nf (e2.mono s2) n2)⟩
end DL
namespace DL
open PySem PySem.Spec PyProof.Rows L2
/-! ## x in y -/
def rInA (K : PySem.W.Frag) (neg : Bool) : R2 := fun x y H Q => ∃ d c ds, Dp K H x d ∧ Dp K H y c ∧ (c = .list ds ∨ c = .tuple ds) ∧ SeqAt.shaped d = true ∧ SeqAt.shaped c = true ∧ Q (.bl ((ds.any fun z => PyData.eqv z d) != neg)) H
theorem canLay_seq {ds : List PyData} {c : PyData} (h : c = .list ds ∨ c = .tuple ds) (s : SeqAt.shaped c = true) : PyData.canLayAll0 ds = true := by
  have := SeqAt.canLay_of_shaped s
  rcases h with rfl | rfl <;> simpa [PyData.canLay0] using this
theorem op_inA {X : Cx} (hu : X.A.units + 65 < cLine) : OpR X (compareOp .In) (rInA X.K false) := by
  intro pins s σ H x y v u Q I rx ry h
  obtain ⟨d, c, ds, hd, he, hc, sd, se, q⟩ := h
  rw [Bool.bne_false] at q
  obtain ⟨as, r1⟩ := Dp.reads I d x v hd rx
  obtain ⟨bs, r2⟩ := Dp.reads I c y u he ry
  have hl := canLay_seq hc se
  rcases hc with rfl | rfl
  · exact SeqAt.in_list_reads r2 r1 hl (SeqAt.canLay_of_shaped sd) (room_in_shaped sd hu) ⟨.bl _, H, I, rfl, q⟩
  · exact SeqAt.in_tuple_reads r2 r1 hl (SeqAt.canLay_of_shaped sd) (room_in_shaped sd hu) ⟨.bl _, H, I, rfl, q⟩
theorem op_notInA {X : Cx} (hu : X.A.units + 65 < cLine) : OpR X (compareOp .NotIn) (rInA X.K true) := by
  intro pins s σ H x y v u Q I rx ry h
  obtain ⟨d, c, ds, hd, he, hc, sd, se, q⟩ := h
  rw [Bool.bne_true] at q
  obtain ⟨as, r1⟩ := Dp.reads I d x v hd rx
  obtain ⟨bs, r2⟩ := Dp.reads I c y u he ry
  have hl := canLay_seq hc se
  rcases hc with rfl | rfl
  · exact SeqAt.notIn_list_reads r2 r1 hl (SeqAt.canLay_of_shaped sd) (room_in_shaped sd hu) ⟨.bl _, H, I, rfl, q⟩
  · exact SeqAt.notIn_tuple_reads r2 r1 hl (SeqAt.canLay_of_shaped sd) (room_in_shaped sd hu) ⟨.bl _, H, I, rfl, q⟩
/-- the text a, looked for in b -/
def strIn (a b : Str) : Bool := !(Builtin.Str.occurrences b a 0 b.length 1).isEmpty
@[simp] def inXD (neg : Bool) : D2
  | x, .list ds, q => SeqAt.shaped x = true ∧ SeqAt.shaped (.list ds) = true ∧ q (.bool ((ds.any fun z => PyData.eqv z x) != neg))
  | x, .tuple ds, q => SeqAt.shaped x = true ∧ SeqAt.shaped (.tuple ds) = true ∧ q (.bool ((ds.any fun z => PyData.eqv z x) != neg))
  | .str a, .str b, q => q (.bool (strIn a b != neg))
  | _, _, _ => False
def rInX (K : PySem.W.Frag) (neg : Bool) : R2 := fun x y H Q => rInA K neg x y H Q ∨ ∃ i j, x = .str i ∧ y = .str j ∧ Q (.bl (strIn i j != neg)) H
theorem op_inX {X : Cx} (hu : X.A.units + 65 < cLine) : OpR X (compareOp .In) (rInX X.K false) := by
  intro pins s σ H x y v u Q I rx ry h
  rcases h with h | ⟨i, j, rfl, rfl, q⟩
  · exact op_inA hu pins s σ H x y v u Q I rx ry h
  · rw [Bool.bne_false] at q
    exact op_in_str pins s σ H _ _ v u Q I rx ry ⟨i, j, rfl, rfl, q⟩
theorem op_notInX {X : Cx} (hu : X.A.units + 65 < cLine) : OpR X (compareOp .NotIn) (rInX X.K true) := by
  intro pins s σ H x y v u Q I rx ry h
  rcases h with h | ⟨i, j, rfl, rfl, q⟩
  · exact op_notInA hu pins s σ H x y v u Q I rx ry h
  · rw [Bool.bne_true] at q
    exact L2.op_notIn_str pins s σ H _ _ v u Q I rx ry ⟨i, j, rfl, rfl, q⟩
theorem IsH.dpS {K : PySem.W.Frag} {G H : Hp} (s : Sub G H) {v : V} {d : PyData} (c : SeqAt.shaped d = true) (h : IsH K G H v d) : Dp K H v d := h.dp s (SeqAt.canLay_of_shaped c)
theorem lk_inX {R : Res} {K : PySem.W.Frag} {neg : Bool} : Lk2 R K (rInX K neg) (inXD neg) := by
  refine ⟨fun B G ρ σ H v u x y Q r hx hy h => ?_, fun x y q q' hq h => ?_⟩
  · unfold inXD at h
    split at h
    · exact .inl ⟨_, _, _, hx.dpS r.sub h.1, hy.dpS r.sub h.2.1, .inl rfl, h.1, h.2.1, aft h.2.2 r (.bl _)⟩
    · exact .inl ⟨_, _, _, hx.dpS r.sub h.1, hy.dpS r.sub h.2.1, .inr rfl, h.1, h.2.1, aft h.2.2 r (.bl _)⟩
    · cases hx
      cases hy
      exact .inr ⟨_, _, rfl, rfl, aft h r (.bl _)⟩
    · exact h.elim
  · unfold inXD at h ⊢
    split at h
    · exact ⟨h.1, h.2.1, hq _ h.2.2⟩
    · exact ⟨h.1, h.2.1, hq _ h.2.2⟩
    · exact hq _ h
    · exact h.elim
/-! ## sum, max, min of a list of numbers -/
@[simp] def sumD : D1
  | .list ds, q => ∃ ns : List Int, ds = ns.map PyData.int ∧ q (.int ns.sum)
  | _, _ => False
@[simp] def maxD : D1
  | .list ds, q => ∃ ns : List Int, ds = ns.map PyData.int ∧ 0 < ns.length ∧ ∀ m, m ∈ ns → (∀ y, y ∈ ns → y ≤ m) → q (.int m)
  | _, _ => False
@[simp] def minD : D1
  | .list ds, q => ∃ ns : List Int, ds = ns.map PyData.int ∧ 0 < ns.length ∧ ∀ m, m ∈ ns → (∀ y, y ∈ ns → m ≤ y) → q (.int m)
  | _, _ => False
section
variable {R : Res} {K : PySem.W.Frag}
theorem lk_sum : Lk1 R K (fun v H Q => rSum K [v] H Q) sumD := by
  refine ⟨fun B G ρ σ H v x Q r hx h => ?_, fun x q q' hq h => ?_⟩
  · cases hx <;> first
      | exact h.elim
      | skip
    rename_i a vs ds sa ha
    obtain ⟨ns, e, q⟩ := h
    subst e
    rw [ha.intsV] at sa
    exact ⟨a, ns, rfl, .of sa, aft q r (.int _)⟩
  · unfold sumD at h ⊢
    split at h
    · obtain ⟨ns, e, k⟩ := h
      exact ⟨ns, e, hq _ k⟩
    · exact h.elim
theorem lk_max : Lk1 R K (fun v H Q => rMax K [v] H Q) maxD := by
  refine ⟨fun B G ρ σ H v x Q r hx h => ?_, fun x q q' hq h => ?_⟩
  · cases hx <;> first
      | exact h.elim
      | skip
    rename_i a vs ds sa ha
    obtain ⟨ns, e, h0, q⟩ := h
    subst e
    rw [ha.intsV] at sa
    exact ⟨a, ns, rfl, .of sa, h0, fun m h1 h2 => aft (q m h1 h2) r (.int _)⟩
  · unfold maxD at h ⊢
    split at h
    · obtain ⟨ns, e, h0, k⟩ := h
      exact ⟨ns, e, h0, fun m h1 h2 => hq _ (k m h1 h2)⟩
    · exact h.elim
theorem lk_min : Lk1 R K (fun v H Q => rMin K [v] H Q) minD := by
  refine ⟨fun B G ρ σ H v x Q r hx h => ?_, fun x q q' hq h => ?_⟩
  · cases hx <;> first
      | exact h.elim
      | skip
    rename_i a vs ds sa ha
    obtain ⟨ns, e, h0, q⟩ := h
    subst e
    rw [ha.intsV] at sa
    exact ⟨a, ns, rfl, .of sa, h0, fun m h1 h2 => aft (q m h1 h2) r (.int _)⟩
  · unfold minD at h ⊢
    split at h
    · obtain ⟨ns, e, h0, k⟩ := h
      exact ⟨ns, e, h0, fun m h1 h2 => hq _ (k m h1 h2)⟩
    · exact h.elim
end
/-! ## sorted, of a list or a tuple of numbers -/
section
variable {prog : Program} {w : World} {A : Around} {E : Value → Shared → Prop} {s : Shared}
/-- the heap once the items have been gathered -/
abbrev gathered (h : Heap) (vs : List Value) : Heap := (h.push (seqObj "list" #[] 0)).update h.objs.size (Obj.mapSeq (· ++ vs.toArray))
theorem gather_tuple {t : Addr} {vs : List Value} {Q : List Value → Shared → Prop} (ht : s.heap.IsTuple t vs.toArray) (h : Q vs { s with heap := gathered s.heap vs }) (hz : vs.length ≤ sizeLine) : wpAny (model prog w) A (collect (.ref t)) Q E s := by
  obtain ⟨o, ho, hc, n, hd⟩ := ht
  have ho' : (s.heap.push (seqObj "list" #[] 0)).get? t = some o := Heap.get?_push_of_some _ ho
  unfold collect
  refine wpAny_bind (wpAny_runValue (codeAny_builtin entry_proto_collect' (wpAny_bind (wpAny_newList (wpAny_pure ⟨Code.quiet_builtin _ (by decide +kernel), codeAny_builtin entry_list_iadd' ?_⟩)))))
  show wpAny _ _ (Builtin.List.listExtendWith (.ref s.heap.objs.size) (.ref t) (.ref s.heap.objs.size)) _ _ { s with heap := s.heap.push (seqObj "list" #[] 0) }
  unfold Builtin.List.listExtendWith
  refine wpAny_bind (wpAny_typeOf (T := "tuple") ⟨o, ho', hc⟩ ?_)
  rw [if_pos (by rw [show (Value.type "tuple" == Value.type "tuple") = true by rfl]; simp)]
  refine wpAny_bind (listItems_at ho' hd (wpAny_bind (listItems_at (xs := #[]) (n := 0) (Heap.get?_push_size _ rfl) rfl ?_)))
  rw [if_neg (by simp)]
  refine wpAny_bind (listUpdate_at (xs := #[]) (n := 0) (Heap.get?_push_size _ rfl) rfl (wpAny_pure ?_) (Nat.zero_le _) (by simp; omega))
  refine wpAny_bind (wpAny_load (get?_update_seq (Heap.get?_push_size _ rfl) _) ?_)
  show wpAny _ _ (pure ((#[] : Array Value) ++ vs.toArray).toList) Q E _
  rw [show ((#[] : Array Value) ++ vs.toArray).toList = vs by simp]
  exact wpAny_pure h
theorem sorted_ordT {t : Addr} {vs : List Value} {ltv : Value → Value → Bool} {Q : Value → Shared → Prop} (O : SrtO.Swo ltv) (ht : s.heap.IsTuple t vs.toArray) (hz : vs.length ≤ sizeLine)
    (hS : 2 ≤ vs.length → ∀ (h₁ : Heap) (a : Addr), h₁.get? a = some (seqObj "list" vs.toArray 0) → (∀ b o, s.heap.get? b = some o → b ≠ a ∧ h₁.get? b = some o) → SrtO.SortableO prog w A.in1.in1 { s with heap := h₁ } a vs ltv)
    (h : ∀ out : List Value, SrtO.Srtd ltv out → SrtO.Stb ltv out vs → Q (.ref (s.heap.objs.size + 1)) { s with heap := sortedAll s.heap vs out.toArray }) : wpAny (model prog w) A (call (.builtin "sorted") [.ref t]) Q E s := by
  refine Calls.call_function_entry kind_sorted plain_sorted entry_sorted (args_sorted1 _) ?_
  unfold Builtin.«sorted»
  refine wpAny_bind (m := checkCount "sorted" 1 1 _) (wpAny_pure (wpAny_bind (gather_tuple ht (wpAny_bind (wpAny_newList ?_ hz)) hz)))
  have hn : (gathered s.heap vs).objs.size = s.heap.objs.size + 1 := by rw [Heap.size_update, size_push']
  have new : ((gathered s.heap vs).push (seqObj "list" vs.toArray 0)).get? (s.heap.objs.size + 1) = some (seqObj "list" vs.toArray 0) := by
    rw [← hn]
    exact Heap.get?_push_size _ rfl
  have old : ∀ b o, s.heap.get? b = some o → b ≠ s.heap.objs.size + 1 ∧ ((gathered s.heap vs).push (seqObj "list" vs.toArray 0)).get? b = some o := fun b o q => by
    have lt : b < s.heap.objs.size := Heap.lt_size q
    exact ⟨Nat.ne_of_lt (Nat.lt_succ_of_lt lt), Heap.get?_push_of_some _ (by rw [Heap.get?_update_ne _ _ _ _ (Nat.ne_of_lt lt)]; exact Heap.get?_push_of_some _ q)⟩
  show wpAny _ _ _ _ _ { s with heap := (gathered s.heap vs).push (seqObj "list" vs.toArray 0) }
  rw [hn]
  exact wpAny_bind (wpAny_holding (wpAny_call_entry slot_list_sort ⟨_, new, rfl⟩ entry_list_sort (SrtO.list_sort_ord O new hz (fun h2 => hS h2 _ _ new old) fun out hs hb => ⟨_, rfl, wpAny_pure ⟨_, rfl, h out hs hb⟩⟩) (args_list_sort _)))
end
def rSortA (K : PySem.W.Frag) : List V → Hp → VK → Prop := fun vs H Q => ∃ (a : Addr) (ns : List Int), vs = [V.ref a] ∧ (SqL K H a (ns.map V.int) ∨ SqT K H a (ns.map V.int)) ∧
  ∀ (ns' : List Int) (p : Addr), ns'.Perm ns → ns'.Pairwise (· ≤ ·) → H p = none → Q (.ref p) (upd H p (.lst (ns'.map V.int)))
theorem cr_sortA {X : Cx} : CallR X (.builtin "sorted") (rSortA X.K) := by
  intro pins s σ H vs us Q I r h
  obtain ⟨a, ns, rfl, hs | hs, q⟩ := h
  · exact cr_sortedI pins s σ H _ us Q I r ⟨a, ns, rfl, hs, q⟩
  · obtain ⟨its, rv, ht, hz⟩ := I.tuple hs
    rw [Vals.ref1 r]
    have hi := rv.ints
    refine sorted_ordT SrtO.swo_int (show s.heap.IsTuple a its.toArray from ht) (by rw [← rv.length]; exact hz) (fun h2 _ _ _ _ => SrtO.ints_sortable hi h2) fun out h1 h2 => ?_
    obtain ⟨k1, k2, k3⟩ := SrtO.ints_out hi h1 h2
    obtain ⟨ep, he⟩ := PyProof.Rows.sortedAll_at s.heap its out.toArray
    have hl : ((out.map SrtO.iv).map V.int).length ≤ sizeLine := by
      rw [List.length_map, k2.length_eq, ← List.length_map (f := V.int)]
      exact hz
    exact ⟨.ref _, upd H (s.heap.objs.size + 1) (.lst ((out.map SrtO.iv).map V.int)), I.laid (t' := s.toks) (fun _ _ => PyProof.Rows.sortedAll_old) (Nat.le_succ _) ⟨hl, out, ep, vals_of_ints k1, he⟩, rfl, q _ _ k2 k3 (I.hok.fresh (Nat.le_succ _))⟩
@[simp] def sortD : D1
  | .list ds, q => ∃ ns : List Int, ds = ns.map PyData.int ∧ ∀ ns' : List Int, ns'.Perm ns → ns'.Pairwise (· ≤ ·) → q (.list (ns'.map PyData.int))
  | .tuple ds, q => ∃ ns : List Int, ds = ns.map PyData.int ∧ ∀ ns' : List Int, ns'.Perm ns → ns'.Pairwise (· ≤ ·) → q (.list (ns'.map PyData.int))
  | _, _ => False
theorem lk_sort {R : Res} {K : PySem.W.Frag} : Lk1 R K (fun v H Q => rSortA K [v] H Q) sortD := by
  refine ⟨fun B G ρ σ H v x Q r hx h => ?_, fun x q q' hq h => ?_⟩
  · cases hx <;> first
      | exact h.elim
      | skip
    · rename_i a vs ds sa ha
      obtain ⟨ns, e, q⟩ := h
      subst e
      rw [ha.intsV] at sa
      exact ⟨a, ns, rfl, .inl (.of sa), fun ns' p h1 h2 np => aftN (q ns' h1 h2) r np (isLst (H := H) (r.sub.free np) (Iss.ints ns'))⟩
    · rename_i a vs ds sa ha
      obtain ⟨ns, e, q⟩ := h
      subst e
      rw [ha.intsV] at sa
      exact ⟨a, ns, rfl, .inr (Sub.seqT r.sub sa), fun ns' p h1 h2 np => aftN (q ns' h1 h2) r np (isLst (H := H) (r.sub.free np) (Iss.ints ns'))⟩
  · unfold sortD at h ⊢
    split at h
    · obtain ⟨ns, e, k⟩ := h
      exact ⟨ns, e, fun ns' h1 h2 => hq _ (k ns' h1 h2)⟩
    · obtain ⟨ns, e, k⟩ := h
      exact ⟨ns, e, fun ns' h1 h2 => hq _ (k ns' h1 h2)⟩
    · exact h.elim
/-! ## range(a, b, c) -/
def rngC (lo c : Int) (n : Nat) : List PyData := (List.range n).map fun i => .int (lo + (i : Nat) * c)
theorem itd_rngC {K : PySem.W.Frag} {G : Hp} {lo c : Int} {n : Nat} : ItD K G (Itc lo c n) (rngC lo c n) :=
  ⟨fun i H hi q => (show i < n by simpa [rngC] using hi), fun H q => by simp [rngC, Itc], fun i H v H' x e q y => by
    obtain ⟨y1, rfl⟩ := y
    have hi : i < n := by
      have := (List.getElem?_eq_some_iff.mp e).1
      simpa [rngC] using this
    have e2 : x = .int (lo + (i : Nat) * c) := by
      have e' := e
      simp [rngC, hi] at e'
      exact e'.symm
    subst e2
    exact .inl ⟨y1, .int _⟩⟩
@[simp] def wRng3 (ws : List WE) : WI := fun ρ Q => wEs ws ρ fun ds ρ' => ∃ i j c n, ds = [.int i, .int j, .int c] ∧ RgC i j c n ∧ Q (rngC i c n) ρ'
theorem si_rng3 {R : Res} {X : Cx} {tg a b c : Expr} {ws : List WE} {p pos : Pos} (hg : Gl X "range") (hm : X.mg "range" = none) (h : SEs R X [a, b, c] ws)
    (hs : starEach [a, b, c] X.env = (false, eval a X.env) :: starEach [b, c] X.env := by rfl) (hpl : (backTo pos (starEach [b, c] X.env)).any (·.1) = false := by rfl) : SI R X tg (.Call (.Name "range" p) [a, b, c] [] pos) (wRng3 ws) := by
  refine ⟨fun B => ⟨fun pins s σ H q I ⟨ρ, G, r, k⟩ => (pi_range3 hg hm (h.pa B) hs hpl).run pins s σ H q I ?_⟩, fun ρ Q Q' hq => h.mono.run fun ds ρ' ⟨i, j, c, n, e, f, q⟩ => ⟨i, j, c, n, e, f, hq _ _ q⟩⟩
  refine ⟨ρ, G, r, h.mono.run (fun ds ρ' ⟨i, j, c, n, e, f, k⟩ vs G' H' s' r' iv => ?_) k⟩
  subst e
  cases iv with
  | cons i1 iv =>
    cases iv with
    | cons i2 iv =>
      cases iv with
      | cons i3 iv =>
        cases iv
        cases i1
        cases i2
        cases i3
        exact ⟨i, j, c, n, rfl, f, k _ G' H' s' r' itd_rngC⟩
/-! ## calls whose answer is a new cell -/
def AftF (R : Res) (K : PySem.W.Frag) (B : Bs) (G : Hp) (ρ : Sls) (σ : L2.St) (Q : VK) (z : PyData) : Prop := ∀ v G' H', Sub G G' → Rel R K B G' ρ σ H' → IsNew R K B G' σ ρ H' v z → Q v H'
structure LkF (R : Res) (K : PySem.W.Frag) (r : V → Hp → VK → Prop) (f : D1) : Prop where
  to : ∀ (B : Bs) (G : Hp) (ρ : Sls) (σ : L2.St) (H : Hp) (v : V) (x : PyData) (Q : VK), Rel R K B G ρ σ H → IsH K G H v x → f x (AftF R K B G ρ σ Q) → r v H Q
  mono : ∀ x (q q' : PyData → Prop), (∀ z, q z → q' z) → f x q → f x q'
theorem aftF {R : Res} {K : PySem.W.Frag} {B : Bs} {G : Hp} {ρ : Sls} {σ : L2.St} {H : Hp} {Q : VK} {z : PyData} {p : Addr} {o : HO} (q : AftF R K B G ρ σ Q z) (r : Rel R K B G ρ σ H) (n : H p = none) (h : Own1 K G o z) : Q (.ref p) (upd H p o) :=
  q _ G _ (Same.refl G) (r.up n) (IsNew.of r n h)
section
variable {R : Res} {X : Cx} {id T : String} {x : Str} {p pos : Pos} {e : Expr} {a : Od}
theorem op1F {K : PySem.W.Frag} {B : Bs} {σ : L2.St} {H : Hp} {Q : VK} {r : V → Hp → VK → Prop} {f : D1} (L : LkF R K r f) (ma : a.Mono) (h : liftF R K B (wOp1 f a) σ H Q) : liftO R K B a σ H fun x H1 => r x H1 Q := by
  obtain ⟨ρ, G, rl, h⟩ := h
  refine od_step ma rl h fun ga ρ1 v G1 H1 s1 r1 i1 h1 => ?_
  obtain ⟨x, e1, q⟩ := h1
  exact L.to B G1 ρ1 σ H1 v x Q r1 (i1.at r1 e1) (L.mono _ _ _ (fun z q v' G' H' s r' i => q v' G' H' (s1.trans s) r' i) q)
theorem sf_b1 {r : List V → Hp → VK → Prop} {f : D1} (hc : CallR X (.builtin id) r) (L : LkF R X.K (fun v H Q => r [v] H Q) f) (hg : Gl X x) (hm : X.mg x = none) (hv : bootBuiltins x = some (.builtin id)) (ha : SO R X e a) (hn : x ≠ "__name__" := by decide) (hdb : (x == ("__debug__" : Str)) = false := by decide)
    (he : starEach [e] X.env = (false, eval e X.env) :: starEach [] X.env := by rfl) (hpl : (backTo pos (starEach [] X.env)).any (·.1) = false := by rfl) : SF R X (.Call (.Name x p) [e] [] pos) (wOp1 f a) :=
  ⟨fun B => PE.imp (pe_callB hc hg hm hv (pa_cons (ha.pe B) pa_nil he) hn hdb he hpl) fun σ H Q h => op1F L ha.mono h, mono_op1 L.mono ha.mono⟩
theorem sf_t1 {r : List V → Hp → VK → Prop} {f : D1} (hc : CallR X (.type T) r) (L : LkF R X.K (fun v H Q => r [v] H Q) f) (hg : Gl X x) (hm : X.mg x = none) (hv : bootBuiltins x = some (.type T)) (ha : SO R X e a) (hn : x ≠ "__name__" := by decide) (hdb : (x == ("__debug__" : Str)) = false := by decide)
    (he : starEach [e] X.env = (false, eval e X.env) :: starEach [] X.env := by rfl) (hpl : (backTo pos (starEach [] X.env)).any (·.1) = false := by rfl) : SF R X (.Call (.Name x p) [e] [] pos) (wOp1 f a) :=
  ⟨fun B => PE.imp (pe_callTy hc hg hm hv (pa_cons (ha.pe B) pa_nil he) hn hdb he hpl) fun σ H Q h => op1F L ha.mono h, mono_op1 L.mono ha.mono⟩
end
theorem lkF_list {R : Res} {K : PySem.W.Frag} : LkF R K (fun v H Q => (fun xs H Q => ∃ p ys, xs = [.ref p] ∧ (SqL K H p ys ∨ SqT K H p ys) ∧ ∀ l, H l = none → Q (.ref l) (upd H l (.lst ys))) [v] H Q) lstD := by
  refine ⟨fun B G ρ σ H v x Q r hx h => ?_, lk_list.mono (R := R) (K := K)⟩
  cases hx <;> first
    | exact h.elim
    | skip
  · rename_i a vs ds sa ha
    exact ⟨a, vs, rfl, .inl (.of sa), fun p np => aftF h r np (.lst ha)⟩
  · rename_i a vs ds sa ha
    exact ⟨a, vs, rfl, .inr (Sub.seqT r.sub sa), fun p np => aftF h r np (.lst ha)⟩
theorem lkF_sort {R : Res} {K : PySem.W.Frag} : LkF R K (fun v H Q => rSortA K [v] H Q) sortD := by
  refine ⟨fun B G ρ σ H v x Q r hx h => ?_, lk_sort.mono (R := R) (K := K)⟩
  cases hx <;> first
    | exact h.elim
    | skip
  · rename_i a vs ds sa ha
    obtain ⟨ns, e, q⟩ := h
    subst e
    rw [ha.intsV] at sa
    exact ⟨a, ns, rfl, .inl (.of sa), fun ns' p h1 h2 np => aftF (q ns' h1 h2) r np (.lst (Iss.ints ns'))⟩
  · rename_i a vs ds sa ha
    obtain ⟨ns, e, q⟩ := h
    subst e
    rw [ha.intsV] at sa
    exact ⟨a, ns, rfl, .inr (Sub.seqT r.sub sa), fun ns' p h1 h2 np => aftF (q ns' h1 h2) r np (.lst (Iss.ints ns'))⟩
@[simp] def wgSubO (i : Nat) (w : WE) : WG := fun d ρ Q => (∃ ds, ρ[i]? = some (.own (.list ds))) ∧ wgSub i w d ρ Q
theorem hu65 {A : Around} {k : Nat} (hr : Room k A) : A.units + 65 < cLine := by
  have := hr.un
  omega
@[simp] def wParOD (i j : Nat) (w1 w2 : WE) : WS := fun D ρ => w1 ρ fun x ρ1 => w2 ρ1 fun y ρ2 => D.nx ((ρ2.set i (.own x)).set j (.d y))
@[simp] def wParDO (i j : Nat) (w1 w2 : WE) : WS := fun D ρ => w1 ρ fun x ρ1 => w2 ρ1 fun y ρ2 => D.nx ((ρ2.set i (.d x)).set j (.own y))
section
variable {R : Res} {X : Cx} {i j : Nat} {x y : Str} {a b : Expr} {w1 w2 : WE} {px py pt pos : Pos} {kt k2 : Nat} {pt2 : Pos}
theorem ss_parOD (hc : X.calm = true) (hN : X.N.Nodup) (hi : X.N[i]? = some x) (hj : X.N[j]? = some y) (hx : X.env.scope.names.lookup x = some .local) (hy : X.env.scope.names.lookup y = some .local) (ha : SF R X a w1) (hb : SE R X b w2) (hij : i ≠ j := by decide)
    (hw : swappedStores [.Tuple [.Name x px, .Name y py] kt pt] (.Tuple [a, b] k2 pt2) X.env = pure (some [x, y]) := by rfl) (hs : swapsWithSole [.Tuple [.Name x px, .Name y py] kt pt] (.Tuple [a, b] k2 pt2) pos.line X.env = pure false := by rfl)
    (hs1 : starEach [a, b] X.env = (false, eval a X.env) :: starEach [b] X.env := by rfl) (hs2 : starEach [b] X.env = (false, eval b X.env) :: starEach [] X.env := by rfl) : SS R X (.Assign [.Tuple [.Name x px, .Name y py] kt pt] (.Tuple [a, b] k2 pt2) pos) (wParOD i j w1 w2) := by
  have hb' : PE X b (fun σ H Q => ∃ B, liftE R X.K B w2 σ H Q) := ⟨fun pins s σ H Q I ⟨B, q⟩ => (hb.pe B).run pins s σ H Q I q⟩
  refine ⟨fun B => PS.imp (ps_par hc hN hi hj hij hx hy (pa_cons (ha.pe B) (pa_cons hb' pa_nil hs2) hs1) hw hs) fun D σ H ⟨ρ, G, r, q⟩ => ?_, fun D D' ρ l => ha.mono ρ _ _ fun x ρ1 => hb.mono ρ1 _ _ fun y ρ2 q => l.nx _ q⟩
  refine ⟨ρ, G, r, ha.mono ρ _ _ (fun d ρ1 q v G1 H1 s1 r1 n1 => ?_) q⟩
  obtain ⟨p, ho, rfl, e1, e2, ra, nf, g0, h0⟩ := r1.aside n1
  refine ⟨B.wthH p ho, ρ1, G1, ra, hb.mono ρ1 _ _ (fun d2 ρ2 q u G2 H2 s2 r2 i2 => ?_) q⟩
  obtain ⟨la, fp, ql⟩ := r2.l
  exact ⟨_, _, rfl, q _ G2 H2 (s1.trans s2) (((r2.unapart h0 nf).setO (r2.newOf h0 g0 nf (e2.mono s2) ql)).setD i2)⟩
theorem ss_parDO (hc : X.calm = true) (hN : X.N.Nodup) (hi : X.N[i]? = some x) (hj : X.N[j]? = some y) (hx : X.env.scope.names.lookup x = some .local) (hy : X.env.scope.names.lookup y = some .local) (ha : SE R X a w1) (hb : SF R X b w2) (hij : i ≠ j := by decide)
    (hw : swappedStores [.Tuple [.Name x px, .Name y py] kt pt] (.Tuple [a, b] k2 pt2) X.env = pure (some [x, y]) := by rfl) (hs : swapsWithSole [.Tuple [.Name x px, .Name y py] kt pt] (.Tuple [a, b] k2 pt2) pos.line X.env = pure false := by rfl)
    (hs1 : starEach [a, b] X.env = (false, eval a X.env) :: starEach [b] X.env := by rfl) (hs2 : starEach [b] X.env = (false, eval b X.env) :: starEach [] X.env := by rfl) : SS R X (.Assign [.Tuple [.Name x px, .Name y py] kt pt] (.Tuple [a, b] k2 pt2) pos) (wParDO i j w1 w2) := by
  refine ⟨fun B => PS.imp (ps_par hc hN hi hj hij hx hy (pa_cons (ha.pe B) (pa_cons (hb.pe B) pa_nil hs2) hs1) hw hs) fun D σ H ⟨ρ, G, r, q⟩ => ?_, fun D D' ρ l => ha.mono ρ _ _ fun x ρ1 => hb.mono ρ1 _ _ fun y ρ2 q => l.nx _ q⟩
  refine ⟨ρ, G, r, ha.mono ρ _ _ (fun d ρ1 q v G1 H1 s1 r1 i1 => ⟨ρ1, G1, r1, hb.mono ρ1 _ _ (fun d2 ρ2 q u G2 H2 s2 r2 n2 => ⟨_, _, rfl, ?_⟩) q⟩) q⟩
  have r3 := r2.setO (i := j) n2
  have := r3.setD (i := i) (i1.mono s2)
  rw [List.set_comm _ _ (Ne.symm hij), List.set_comm _ _ (Ne.symm hij)] at this
  exact q _ G2 H2 (s1.trans s2) this
end
end DL
namespace K02
open PySem PySem.Spec PyProof.Rows L2 DL
def topS (i : Nat) : Stmt := PySem.Challenge.pw_baylines_k02_whole_things_that_stand_ahe.main.body.getD i (.Pass ⟨0, 0, 0, 0⟩)
abbrev s_same_things : Stmt := topS 1
theorem sc_same_things : FnScope ["one", "other"] ["one", "other"] (defScope s_same_things) := ⟨rfl, rfl, rfl, by decide +kernel, rfl, by decide +kernel, by decide +kernel⟩
abbrev s_ahead : Stmt := topS 2
theorem sc_ahead : FnScope ["row", "place", "kind"] ["row", "place"] (defScope s_ahead) := ⟨rfl, rfl, rfl, by decide +kernel, rfl, by decide +kernel, by decide +kernel⟩
abbrev s_is_rising : Stmt := topS 3
theorem sc_is_rising : FnScope ["row"] ["row"] (defScope s_is_rising) := ⟨rfl, rfl, rfl, by decide +kernel, rfl, by decide +kernel, by decide +kernel⟩
abbrev s__law_loom : Stmt := topS 5
theorem sc__law_loom : FnScope ["script", "cell", "cells", "stirred"] ["script"] (defScope s__law_loom) := ⟨rfl, rfl, rfl, by decide +kernel, rfl, by decide +kernel, by decide +kernel⟩
abbrev s__law_draw : Stmt := topS 6
theorem sc__law_draw : FnScope ["loom", "many", "cell", "one"] ["loom", "many"] (defScope s__law_draw) := ⟨rfl, rfl, rfl, by decide +kernel, rfl, by decide +kernel, by decide +kernel⟩
abbrev s__law_pick : Stmt := topS 7
theorem sc__law_pick : FnScope ["loom", "things"] ["loom", "things"] (defScope s__law_pick) := ⟨rfl, rfl, rfl, by decide +kernel, rfl, by decide +kernel, by decide +kernel⟩
abbrev s__law_mixed : Stmt := topS 8
theorem sc__law_mixed : FnScope ["loom", "things", "rest", "found"] ["loom", "things"] (defScope s__law_mixed) := ⟨rfl, rfl, rfl, by decide +kernel, rfl, by decide +kernel, by decide +kernel⟩
abbrev s__law_row : Stmt := topS 9
theorem sc__law_row : FnScope ["loom", "n", "most", "turn"] ["loom", "n", "most"] (defScope s__law_row) := ⟨rfl, rfl, rfl, by decide +kernel, rfl, by decide +kernel, by decide +kernel⟩
abbrev s__law_counted : Stmt := topS 10
theorem sc__law_counted : FnScope ["n", "row", "kind", "thing"] ["n", "row"] (defScope s__law_counted) := ⟨rfl, rfl, rfl, by decide +kernel, rfl, by decide +kernel, by decide +kernel⟩
abbrev s__law_falls : Stmt := topS 11
theorem sc__law_falls : FnScope ["row", "place", "thing"] ["row", "place"] (defScope s__law_falls) := ⟨rfl, rfl, rfl, by decide +kernel, rfl, by decide +kernel, by decide +kernel⟩
abbrev s__law_near : Stmt := topS 12
theorem sc__law_near : FnScope ["loom", "n", "row", "spot", "found"] ["loom", "n", "row"] (defScope s__law_near) := ⟨rfl, rfl, rfl, by decide +kernel, rfl, by decide +kernel, by decide +kernel⟩
abbrev s__law_is_so : Stmt := topS 13
theorem sc__law_is_so : FnScope ["n", "row", "other", "is_named", "stood", "due", "told", "place", "falls", "own", "seen"] ["n", "row", "other", "is_named"] (defScope s__law_is_so) := ⟨rfl, rfl, rfl, by decide +kernel, rfl, by decide +kernel, by decide +kernel⟩
abbrev s__law_sunk : Stmt := topS 14
theorem sc__law_sunk : FnScope ["row", "left", "many", "end", "spot"] ["row"] (defScope s__law_sunk) := ⟨rfl, rfl, rfl, by decide +kernel, rfl, by decide +kernel, by decide +kernel⟩
abbrev s_law : Stmt := topS 15
theorem sc_law : FnScope ["script", "loom", "turn", "n", "row", "other", "best", "many", "place"] ["script"] (defScope s_law) := ⟨rfl, rfl, rfl, by decide +kernel, rfl, by decide +kernel, by decide +kernel⟩
/-- what the top has not changed -/
structure Bi (mg : Str → Option Value) : Prop where
  b_abs : mg "abs" = none
  b_int : mg "int" = none
  b_len : mg "len" = none
  b_list : mg "list" = none
  b_range : mg "range" = none
  b_repr : mg "repr" = none
  b_sorted : mg "sorted" = none
  b_sum : mg "sum" = none
  b_tuple : mg "tuple" = none
section
variable {R : Res} {P : Program} {w : World} {K : PySem.W.Frag} {mg : Str → Option Value} {base : Heap} {k : Nat} (B : Bi mg) (hs : SysIn base) {fa : Addr} {cdv : Value} {A : Around} {outer : List PySem.Env} {s : Shared} {H : Hp} {E : XK}
include B hs
def w_same_things : WS := wRet (wOp2 eqXD (.v (wOp1 sortD (.s 0))) (.v (wOp1 sortD (.s 1))))
theorem t_same_things (hg : (A.deeper (envOfC "same_things" (defScope s_same_things) s.heap.objs.size fa cdv)).guards = some []) (hr : Room k (A.deeper (envOfC "same_things" (defScope s_same_things) s.heap.objs.size fa cdv))) : SSs R (cxOf CX0 P w K mg base ["one", "other"] "same_things" (defScope s_same_things) fa cdv A outer s H E).nox (defBody s_same_things) w_same_things :=
  sss_one (ss_ret (se_cmp (op_eqX hr.units) lk_eqX (so_val (se_b1 cr_sortA lk_sort (by rfl) B.b_sorted (by decide +kernel) (so_var (pv 0)))) (so_val (se_b1 cr_sortA lk_sort (by rfl) B.b_sorted (by decide +kernel) (so_var (pv 1)))) (nomark _)))
def w_ahead : WS := wRet (wOp1 lenD (.v (wLc (wI (wSl slD (.s 0) (.no) (.e (wVar 1)))) (wgName 2) (wTst (wOp2 gtD (.s 2) (.v (wOp2 ixD (.s 0) (.s 1))))) (wVar 2) [2])))
theorem t_ahead (hg : (A.deeper (envOfC "ahead" (defScope s_ahead) s.heap.objs.size fa cdv)).guards = some []) (hr : Room k (A.deeper (envOfC "ahead" (defScope s_ahead) s.heap.objs.size fa cdv))) : SSs R (cxOf CX0 P w K mg base ["row", "place", "kind"] "ahead" (defScope s_ahead) fa cdv A outer s H E).nox (defBody s_ahead) w_ahead :=
  sss_one (ss_ret (se_b1 call_len lk_len (by rfl) B.b_len (by decide +kernel) (so_val ((sf_lc rfl sc_ahead.nd (si_seq (se_slice sl_D lk_sl (so_var (pv 0)) (sp_no) (sp_e (se_var (pv 1))))) (blkOk_by (own := [("kind", 2)]) (by rfl)) (fun s H C cl fp => sg_name (i := 2) (pg_name (x := "kind") sc_ahead.nd rfl (by first | exact .inl rfl | exact .inr rfl))) (by decide) (fun s H C cl fp => sts_one (st_cmp op_gt lk_gt (so_var (pv 2)) (so_val (se_ix ix_seq lk_ix (so_var (pv 0)) (so_var (pv 1)) (fun _ _ => by with_unfolding_all rfl))) (nomark _))) (fun s H C cl fp => se_var (pv 2))).se))))
def w_is_rising : WS := wRet (wOp2 eqXD (.v (wOp1 sortD (.s 0))) (.v (wOp1 lstD (.s 0))))
theorem t_is_rising (hg : (A.deeper (envOfC "is_rising" (defScope s_is_rising) s.heap.objs.size fa cdv)).guards = some []) (hr : Room k (A.deeper (envOfC "is_rising" (defScope s_is_rising) s.heap.objs.size fa cdv))) : SSs R (cxOf CX0 P w K mg base ["row"] "is_rising" (defScope s_is_rising) fa cdv A outer s H E).nox (defBody s_is_rising) w_is_rising :=
  sss_one (ss_ret (se_cmp (op_eqX hr.units) lk_eqX (so_val (se_b1 cr_sortA lk_sort (by rfl) B.b_sorted (by decide +kernel) (so_var (pv 0)))) (so_val (se_t1 call_list_of lk_list (by rfl) B.b_list (by decide +kernel) (so_var (pv 0)))) (nomark _)))
def w1__law_loom : WS := wPar 2 3 [wLc (wI (wScrSl 0 63)) (wgName 1) (wYes) (wOp2 addD (.v (wOp2 mulXD (.v (wC (.int 2))) (.v (wOp1 absD (.s 1))))) (.v (wOp1 toIntD (.v (wOp2 ltD (.s 1) (.v (wC (.int 0)))))))) [1], wOp2 addD (.v (wC (.int 60913))) (.v (wOp2 mulXD (.v (wC (.int 7))) (.v (wScrLen 0))))]
def w2__law_loom : WS := wFor (wI (wVar 2)) (wgName 1) (wSet 3 (wOp2 modD (.v (wOp1 toIntD (.v (wOp2 addD (.v (wOp2 addD (.v (wOp2 mulXD (.s 3) (.v (wC (.int 48271))))) (.s 1))) (.v (wC (.int 11))))))) (.v (wC (.int 4294967291)))))
def w3__law_loom : WE := wLc (wI (wVar 2)) (wgName 1) (wTst (wOp2 geD (.s 1) (.v (wC (.int 1000000000000000))))) (wVar 1) [1]
theorem t__law_loom (hg : (A.deeper (envOfC "_law_loom" (defScope s__law_loom) s.heap.objs.size fa cdv)).guards = some []) (hr : Room k (A.deeper (envOfC "_law_loom" (defScope s__law_loom) s.heap.objs.size fa cdv))) : ∃ T, PSs (cxOf CX0 P w K mg base ["script", "cell", "cells", "stirred"] "_law_loom" (defScope s__law_loom) fa cdv A outer s H E).nox (defBody s__law_loom) T ∧ (∀ D σ H', (∃ ρ G, Rel loomR K ⟨H, H, [], 0, false⟩ G ρ σ H' ∧ w1__law_loom (enL loomR K ⟨H, H, [], 0, false⟩ G { D with nx := fun σ1 H1 => ∃ ρ1 G1, Rel loomR K ⟨H, H, [], 0, false⟩ G1 ρ1 σ1 H1 ∧ w2__law_loom (enL loomR K ⟨H, H, [], 0, false⟩ G1 { D with nx := mkT loomR K ⟨H, H, [], 0, false⟩ 3 w3__law_loom D }) ρ1 }) ρ) → T D σ H') ∧ MonoS w1__law_loom ∧ MonoS w2__law_loom ∧ MonoE w3__law_loom :=
  mk_of (ss_par (i := 2) (j := 3) rfl sc__law_loom.nd rfl rfl rfl rfl (ses_cons ((sf_lc rfl sc__law_loom.nd (si_seq (se_scrSl (pv 0) (by decide))) (blkOk_by (own := [("cell", 1)]) (by rfl)) (fun s H C cl fp => sg_name (i := 1) (pg_name (x := "cell") sc__law_loom.nd rfl (by first | exact .inl rfl | exact .inr rfl))) (by decide) (fun s H C cl fp => sts_nil) (fun s H C cl fp => se_bin op_addD lk_add (so_val (se_bin op_mulX lk_mulX (so_val (se_int)) (so_val (se_b1 call_abs lk_abs (by rfl) B.b_abs (by decide +kernel) (so_var (pv 1)))))) (so_val (se_t1 call_int1 lk_toInt (by rfl) B.b_int (by decide +kernel) (so_val (se_cmp op_lt lk_lt (so_var (pv 1)) (so_val (se_int)) (nomark _))))))).se) (ses_cons (se_bin op_addD lk_add (so_val (se_int)) (so_val (se_bin op_mulX lk_mulX (so_val (se_int)) (so_val (se_scrLen (by rfl) B.b_len (pv 0)))))) (ses_nil)))) (ss_for PassesOwn.never rfl (si_seq (se_var (pv 2))) (sg_name (i := 1) (pg_name (x := "cell") sc__law_loom.nd rfl (by first | exact .inl rfl | exact .inr rfl))) (sss_one (ss_set (i := 3) sc__law_loom.nd rfl (by first | exact .inl rfl | exact .inr rfl) (se_bin op_mod lk_mod (so_val (se_t1 call_int1 lk_toInt (by rfl) B.b_int (by decide +kernel) (so_val (se_bin op_addD lk_add (so_val (se_bin op_addD lk_add (so_val (se_bin op_mulX lk_mulX (so_var (pv 3)) (so_val (se_int)))) (so_var (pv 1)))) (so_val (se_int)))))) (so_val (se_int)))))) (sf_lc rfl sc__law_loom.nd (si_seq (se_var (pv 2))) (blkOk_by (own := [("cell", 1)]) (by rfl)) (fun s H C cl fp => sg_name (i := 1) (pg_name (x := "cell") sc__law_loom.nd rfl (by first | exact .inl rfl | exact .inr rfl))) (by decide) (fun s H C cl fp => sts_one (st_cmp op_ge lk_ge (so_var (pv 1)) (so_val (se_cpow ⟨by decide, by decide, by decide⟩)) (nomark _))) (fun s H C cl fp => se_var (pv 1))) (pv 3)
def w__law_pick (S__law_draw : Sd) : WS := wRet (wOp2 ixD (.s 1) (.v (wCall S__law_draw [.loom 0, .e (wOp1 lenD (.s 1))])))
theorem t__law_pick {S__law_draw : Sd} (D__law_draw : Def R P w K mg base k "_law_draw" s__law_draw ["loom", "many"] S__law_draw) (hg : (A.deeper (envOfC "_law_pick" (defScope s__law_pick) s.heap.objs.size fa cdv)).guards = some []) (hr : Room k (A.deeper (envOfC "_law_pick" (defScope s__law_pick) s.heap.objs.size fa cdv))) : SSs R (cxOf CX0 P w K mg base ["loom", "things"] "_law_pick" (defScope s__law_pick) fa cdv A outer s H E).nox (defBody s__law_pick) (w__law_pick S__law_draw) :=
  sss_one (ss_ret (se_ix ix_seq lk_ix (so_var (pv 1)) (so_val (se_cD D__law_draw hg hr (sa_loom (pv 0) (sa_cons (se_b1 call_len lk_len (by rfl) B.b_len (by decide +kernel) (so_var (pv 1))) (sa_nil))))) (fun _ _ => by with_unfolding_all rfl)))
def w__law_mixed (S__law_draw : Sd) : WS := wSeq (wParOO 2 3 (wOp1 lstD (.s 1)) (wLst [])) (wSeq (wWh (wTst (wOp2 neXD (.s 2) (.v (wC (.list []))))) (wDrop (wApp 3 (wPopAt 2 (wCall S__law_draw [.loom 0, .e (wOp1 lenD (.s 2))]))))) (wRet (wVar 3)))
theorem t__law_mixed {S__law_draw : Sd} (D__law_draw : Def R P w K mg base k "_law_draw" s__law_draw ["loom", "many"] S__law_draw) (hg : (A.deeper (envOfC "_law_mixed" (defScope s__law_mixed) s.heap.objs.size fa cdv)).guards = some []) (hr : Room k (A.deeper (envOfC "_law_mixed" (defScope s__law_mixed) s.heap.objs.size fa cdv))) : SSs R (cxOf CX0 P w K mg base ["loom", "things", "rest", "found"] "_law_mixed" (defScope s__law_mixed) fa cdv A outer s H E).nox (defBody s__law_mixed) (w__law_mixed S__law_draw) :=
  sss_cons (ss_parOO (i := 2) (j := 3) rfl sc__law_mixed.nd rfl rfl rfl rfl (sf_t1 call_list_of lkF_list (by rfl) B.b_list (by decide +kernel) (so_var (pv 1))) (sf_lst (ses_nil))) (sss_cons (ss_while PassesOwn.never (st_cmp (op_neX hr.units) lk_neX (so_var (pv 2)) (so_val (se_clst (scs_nil))) (nomark _)) (sss_one (ss_expr (se_append (pv 3) (se_popAt (pv 2) (se_cD D__law_draw hg hr (sa_loom (pv 0) (sa_cons (se_b1 call_len lk_len (by rfl) B.b_len (by decide +kernel) (so_var (pv 2))) (sa_nil))))))))) (sss_one (ss_ret (se_var (pv 3)))))
def w__law_row (S__law_draw : Sd) : WS := wRet (wOp1 tupD (.v (wLc (wRng1 (wCall S__law_draw [.loom 0, .e (wOp2 addD (.s 2) (.v (wC (.int 1))))])) (wgName 3) (wYes) (wCall S__law_draw [.loom 0, .e (wVar 1)]) [3])))
theorem t__law_row {S__law_draw : Sd} (D__law_draw : Def R P w K mg base k "_law_draw" s__law_draw ["loom", "many"] S__law_draw) (hg : (A.deeper (envOfC "_law_row" (defScope s__law_row) s.heap.objs.size fa cdv)).guards = some []) (hr : Room k (A.deeper (envOfC "_law_row" (defScope s__law_row) s.heap.objs.size fa cdv))) : SSs R (cxOf CX0 P w K mg base ["loom", "n", "most", "turn"] "_law_row" (defScope s__law_row) fa cdv A outer s H E).nox (defBody s__law_row) (w__law_row S__law_draw) :=
  sss_one (ss_ret (se_t1 call_tuple_of lk_tuple (by rfl) B.b_tuple (by decide +kernel) (so_val ((sf_lc rfl sc__law_row.nd (si_rng1 (by rfl) B.b_range (se_cD D__law_draw hg hr (sa_loom (pv 0) (sa_cons (se_bin op_addD lk_add (so_var (pv 2)) (so_val (se_int))) (sa_nil))))) (blkOk_by (own := [("turn", 3)]) (by rfl)) (fun s H C cl fp => sg_name (i := 3) (pg_name (x := "turn") sc__law_row.nd rfl (by first | exact .inl rfl | exact .inr rfl))) (by decide) (fun s H C cl fp => sts_nil) (fun s H C cl fp => se_cD D__law_draw hg hr (sa_loom (pv 0) (sa_cons (se_var (pv 1)) (sa_nil))))).se))))
def w__law_counted : WS := wRet (wLc (wRng1 (wVar 0)) (wgName 2) (wYes) (wOp1 lenD (.v (wLc (wI (wVar 1)) (wgName 3) (wTst (wOp2 eqXD (.s 3) (.s 2))) (wVar 3) [3]))) [2])
theorem t__law_counted (hg : (A.deeper (envOfC "_law_counted" (defScope s__law_counted) s.heap.objs.size fa cdv)).guards = some []) (hr : Room k (A.deeper (envOfC "_law_counted" (defScope s__law_counted) s.heap.objs.size fa cdv))) : SSs R (cxOf CX0 P w K mg base ["n", "row", "kind", "thing"] "_law_counted" (defScope s__law_counted) fa cdv A outer s H E).nox (defBody s__law_counted) w__law_counted :=
  sss_one (ss_ret ((sf_lc rfl sc__law_counted.nd (si_rng1 (by rfl) B.b_range (se_var (pv 0))) (blkOk_by (own := [("kind", 2)]) (by rfl)) (fun s H C cl fp => sg_name (i := 2) (pg_name (x := "kind") sc__law_counted.nd rfl (by first | exact .inl rfl | exact .inr rfl))) (by decide) (fun s H C cl fp => sts_nil) (fun s H C cl fp => se_b1 call_len lk_len (by rfl) B.b_len (by decide +kernel) (so_val ((sf_lc rfl sc__law_counted.nd (si_seq (se_var (pv 1))) (blkOk_by (own := [("thing", 3)]) (by rfl)) (fun s H C cl fp => sg_name (i := 3) (pg_name (x := "thing") sc__law_counted.nd rfl (by first | exact .inl rfl | exact .inr rfl))) (by decide) (fun s H C cl fp => sts_one (st_cmp (op_eqX hr.units) lk_eqX (so_var (pv 3)) (so_var (pv 2)) (nomark _))) (fun s H C cl fp => se_var (pv 3))).se)))).se))
def w__law_falls : WS := wRet (wOp1 lenD (.v (wLc (wI (wSl slD (.s 0) (.no) (.e (wVar 1)))) (wgName 2) (wTst (wOp2 gtD (.s 2) (.v (wOp2 ixD (.s 0) (.s 1))))) (wVar 2) [2])))
theorem t__law_falls (hg : (A.deeper (envOfC "_law_falls" (defScope s__law_falls) s.heap.objs.size fa cdv)).guards = some []) (hr : Room k (A.deeper (envOfC "_law_falls" (defScope s__law_falls) s.heap.objs.size fa cdv))) : SSs R (cxOf CX0 P w K mg base ["row", "place", "thing"] "_law_falls" (defScope s__law_falls) fa cdv A outer s H E).nox (defBody s__law_falls) w__law_falls :=
  sss_one (ss_ret (se_b1 call_len lk_len (by rfl) B.b_len (by decide +kernel) (so_val ((sf_lc rfl sc__law_falls.nd (si_seq (se_slice sl_D lk_sl (so_var (pv 0)) (sp_no) (sp_e (se_var (pv 1))))) (blkOk_by (own := [("thing", 2)]) (by rfl)) (fun s H C cl fp => sg_name (i := 2) (pg_name (x := "thing") sc__law_falls.nd rfl (by first | exact .inl rfl | exact .inr rfl))) (by decide) (fun s H C cl fp => sts_one (st_cmp op_gt lk_gt (so_var (pv 2)) (so_val (se_ix ix_seq lk_ix (so_var (pv 0)) (so_var (pv 1)) (fun _ _ => by with_unfolding_all rfl))) (nomark _))) (fun s H C cl fp => se_var (pv 2))).se))))
def w__law_near (S__law_draw : Sd) (S__law_mixed : Sd) : WS := wSeq (wSet 3 (wCall S__law_draw [.loom 0, .e (wOp2 addD (.v (wOp1 lenD (.s 2))) (.v (wC (.int 1))))])) (wSeq (wSetO 4 (wLst [wOp1 tupD (.v (wCall S__law_mixed [.loom 0, .e (wOp1 lstD (.s 2))])), wOp1 tupD (.v (wOp1 sortD (.s 2))), wRev (.s 2), wOp2 addD (.s 2) (.v (wTup [wCall S__law_draw [.loom 0, .e (wVar 1)]]))])) (wSeq (wDrop (wApp 4 (wOp2 addD (.v (wSl slD (.s 2) (.no) (.e (wVar 3)))) (.v (wSl slD (.s 2) (.e (wOp2 addD (.s 3) (.v (wC (.int 1))))) (.no)))))) (wSeq (wDrop (wApp 4 (wOp2 addD (.v (wOp2 addD (.v (wSl slD (.s 2) (.no) (.e (wVar 3)))) (.v (wTup [wCall S__law_draw [.loom 0, .e (wVar 1)]])))) (.v (wSl slD (.s 2) (.e (wOp2 addD (.s 3) (.v (wC (.int 1))))) (.no)))))) (wRet (wOp2 addD (.s 4) (.v (wLst [wOp2 addD (.v (wSl slD (.s 2) (.e (wVar 3)) (.no))) (.v (wSl slD (.s 2) (.no) (.e (wVar 3))))])))))))
theorem t__law_near {S__law_draw : Sd} (D__law_draw : Def R P w K mg base k "_law_draw" s__law_draw ["loom", "many"] S__law_draw) {S__law_mixed : Sd} (D__law_mixed : Def R P w K mg base k "_law_mixed" s__law_mixed ["loom", "things"] S__law_mixed) (hg : (A.deeper (envOfC "_law_near" (defScope s__law_near) s.heap.objs.size fa cdv)).guards = some []) (hr : Room k (A.deeper (envOfC "_law_near" (defScope s__law_near) s.heap.objs.size fa cdv))) : SSs R (cxOf CX0 P w K mg base ["loom", "n", "row", "spot", "found"] "_law_near" (defScope s__law_near) fa cdv A outer s H E).nox (defBody s__law_near) (w__law_near S__law_draw S__law_mixed) :=
  sss_cons (ss_set (i := 3) sc__law_near.nd rfl (by first | exact .inl rfl | exact .inr rfl) (se_cD D__law_draw hg hr (sa_loom (pv 0) (sa_cons (se_bin op_addD lk_add (so_val (se_b1 call_len lk_len (by rfl) B.b_len (by decide +kernel) (so_var (pv 2)))) (so_val (se_int))) (sa_nil))))) (sss_cons (ss_setO (i := 4) sc__law_near.nd rfl (by first | exact .inl rfl | exact .inr rfl) (sf_lst (ses_cons (se_t1 call_tuple_of lk_tuple (by rfl) B.b_tuple (by decide +kernel) (so_val (se_cD D__law_mixed hg hr (sa_loom (pv 0) (sa_cons (se_t1 call_list_of lk_list (by rfl) B.b_list (by decide +kernel) (so_var (pv 2))) (sa_nil)))))) (ses_cons (se_t1 call_tuple_of lk_tuple (by rfl) B.b_tuple (by decide +kernel) (so_val (se_b1 cr_sortA lk_sort (by rfl) B.b_sorted (by decide +kernel) (so_var (pv 2))))) (ses_cons (se_rev (so_var (pv 2)) pe_neg) (ses_cons (se_bin op_addD lk_add (so_var (pv 2)) (so_val (se_tup (ses_cons (se_cD D__law_draw hg hr (sa_loom (pv 0) (sa_cons (se_var (pv 1)) (sa_nil)))) (ses_nil))))) (ses_nil))))))) (sss_cons (ss_expr (se_append (pv 4) (se_bin op_addD lk_add (so_val (se_slice sl_D lk_sl (so_var (pv 2)) (sp_no) (sp_e (se_var (pv 3))))) (so_val (se_slice sl_D lk_sl (so_var (pv 2)) (sp_e (se_bin op_addD lk_add (so_var (pv 3)) (so_val (se_int)))) (sp_no)))))) (sss_cons (ss_expr (se_append (pv 4) (se_bin op_addD lk_add (so_val (se_bin op_addD lk_add (so_val (se_slice sl_D lk_sl (so_var (pv 2)) (sp_no) (sp_e (se_var (pv 3))))) (so_val (se_tup (ses_cons (se_cD D__law_draw hg hr (sa_loom (pv 0) (sa_cons (se_var (pv 1)) (sa_nil)))) (ses_nil)))))) (so_val (se_slice sl_D lk_sl (so_var (pv 2)) (sp_e (se_bin op_addD lk_add (so_var (pv 3)) (so_val (se_int)))) (sp_no)))))) (sss_one (ss_ret (se_bin op_addD lk_add (so_var (pv 4)) (so_val (se_lst (ses_cons (se_bin op_addD lk_add (so_val (se_slice sl_D lk_sl (so_var (pv 2)) (sp_e (se_var (pv 3))) (sp_no))) (so_val (se_slice sl_D lk_sl (so_var (pv 2)) (sp_no) (sp_e (se_var (pv 3)))))) (ses_nil))))))))))
def w__law_is_so (S__law_counted : Sd) (S_same_things : Sd) (S__law_falls : Sd) (S_ahead : Sd) (S_is_rising : Sd) : WS := wSeq (wPar 4 5 [wOp1 shownD (.v (wLst [wVar 1, wVar 2])), wOp2 eqXD (.v (wCall S__law_counted [.e (wVar 0), .e (wVar 1)])) (.v (wCall S__law_counted [.e (wVar 0), .e (wVar 2)]))]) (wSeq (wSet 6 (wIf (wTst (wVar 3)) (wCallK S_same_things (0, 2, [1, 0]) [] [.e (wVar 2), .e (wVar 1)]) (wCall S_same_things [.e (wVar 1), .e (wVar 2)]))) (wSeq (wIfS (wOr (wTst (wOp2 neXD (.v (wOp1 shownD (.s 6))) (.v (wOp1 shownD (.s 5))))) (wTst (wOp2 neXD (.v (wOp1 shownD (.v (wCall S_same_things [.e (wVar 2), .e (wVar 1)])))) (.v (wOp1 shownD (.s 5)))))) (wRet (wC (.bool false))) (wNx)) (wSeq (wSetO 8 (wLc (wRng1 (wOp1 lenD (.s 2))) (wgName 7) (wYes) (wCall S__law_falls [.e (wVar 2), .e (wVar 7)]) [7])) (wSeq (wSetO 6 (wLc (wRng1 (wOp1 lenD (.s 2))) (wgName 7) (wYes) (wIf (wTst (wVar 3)) (wCallK S_ahead (0, 2, [1, 0]) [] [.e (wVar 7), .e (wVar 2)]) (wCall S_ahead [.e (wVar 2), .e (wVar 7)])) [7])) (wSeq (wIfS (wTst (wOp2 neXD (.v (wOp1 shownD (.s 6))) (.v (wOp1 shownD (.s 8))))) (wRet (wC (.bool false))) (wNx)) (wSeq (wSet 5 (wOp1 shownD (.v (wOp2 eqXD (.v (wLc (wI (wVar 8)) (wgName 9) (wTst (wOp2 gtD (.s 9) (.v (wC (.int 0))))) (wVar 9) [9])) (.v (wC (.list []))))))) (wSeq (wSet 10 (wLst [wCallK S_is_rising (0, 1, [0]) [] [.e (wVar 2)], wCall S_is_rising [.e (wVar 2)], wOp2 eqXD (.v (wOp1 lstD (.s 2))) (.v (wOp1 sortD (.s 2)))])) (wRet (wAndV (wOp2 eqXD (.v (wOp1 shownD (.s 10))) (.v (wOp2 addD (.v (wOp2 addD (.v (wOp2 addD (.v (wOp2 addD (.v (wOp2 addD (.v (wOp2 addD (.v (wC (.str "["))) (.s 5))) (.v (wC (.str ", "))))) (.s 5))) (.v (wC (.str ", "))))) (.s 5))) (.v (wC (.str "]")))))) (wOp2 eqXD (.v (wOp1 shownD (.v (wLst [wVar 1, wVar 2])))) (.s 4)))))))))))
theorem t__law_is_so {S__law_counted : Sd} (D__law_counted : Def R P w K mg base k "_law_counted" s__law_counted ["n", "row"] S__law_counted) {S_same_things : Sd} (D_same_things : Def R P w K mg base k "same_things" s_same_things ["one", "other"] S_same_things) {S__law_falls : Sd} (D__law_falls : Def R P w K mg base k "_law_falls" s__law_falls ["row", "place"] S__law_falls) {S_ahead : Sd} (D_ahead : Def R P w K mg base k "ahead" s_ahead ["row", "place"] S_ahead) {S_is_rising : Sd} (D_is_rising : Def R P w K mg base k "is_rising" s_is_rising ["row"] S_is_rising) (hg : (A.deeper (envOfC "_law_is_so" (defScope s__law_is_so) s.heap.objs.size fa cdv)).guards = some []) (hr : Room k (A.deeper (envOfC "_law_is_so" (defScope s__law_is_so) s.heap.objs.size fa cdv))) : SSs R (cxOf CX0 P w K mg base ["n", "row", "other", "is_named", "stood", "due", "told", "place", "falls", "own", "seen"] "_law_is_so" (defScope s__law_is_so) fa cdv A outer s H E).nox (defBody s__law_is_so) (w__law_is_so S__law_counted S_same_things S__law_falls S_ahead S_is_rising) :=
  sss_cons (ss_par (i := 4) (j := 5) rfl sc__law_is_so.nd rfl rfl rfl rfl (ses_cons (se_b1 (call_shown hg hr hs) lk_shown1 (by rfl) B.b_repr (by decide +kernel) (so_val (se_lst (ses_cons (se_var (pv 1)) (ses_cons (se_var (pv 2)) (ses_nil)))))) (ses_cons (se_cmp (op_eqX hr.units) lk_eqX (so_val (se_cD D__law_counted hg hr (sa_cons (se_var (pv 0)) (sa_cons (se_var (pv 1)) (sa_nil))))) (so_val (se_cD D__law_counted hg hr (sa_cons (se_var (pv 0)) (sa_cons (se_var (pv 2)) (sa_nil))))) (nomark _)) (ses_nil)))) (sss_cons (ss_set (i := 6) sc__law_is_so.nd rfl (by first | exact .inl rfl | exact .inr rfl) (se_if (st_val (se_var (pv 3))) (se_cK0 D_same_things hg hr (0, 2, [1, 0]) (by decide) (fun _ _ _ _ _ _ us ws hu hw => match us, hu, ws, hw with | [], _, [_, _], _ => rfl) (fun us ws hu hw => match us, hu, ws, hw with | [], _, [_, _], _ => rfl) (sk_cons (se_var (pv 2)) (sk_cons (se_var (pv 1)) (sk_nil)))) (se_cD D_same_things hg hr (sa_cons (se_var (pv 1)) (sa_cons (se_var (pv 2)) (sa_nil)))))) (sss_cons (ss_if ((sw_or (st_cmp (op_neX hr.units) lk_neX (so_val (se_b1 (call_shown hg hr hs) lk_shown1 (by rfl) B.b_repr (by decide +kernel) (so_var (pv 6)))) (so_val (se_b1 (call_shown hg hr hs) lk_shown1 (by rfl) B.b_repr (by decide +kernel) (so_var (pv 5)))) (nomark _)) (sw_or1 (st_cmp (op_neX hr.units) lk_neX (so_val (se_b1 (call_shown hg hr hs) lk_shown1 (by rfl) B.b_repr (by decide +kernel) (so_val (se_cD D_same_things hg hr (sa_cons (se_var (pv 2)) (sa_cons (se_var (pv 1)) (sa_nil))))))) (so_val (se_b1 (call_shown hg hr hs) lk_shown1 (by rfl) B.b_repr (by decide +kernel) (so_var (pv 5)))) (nomark _)))).st) (sss_one (ss_ret (se_bl))) (sss_nil)) (sss_cons (ss_setLc (i := 8) rfl sc__law_is_so.nd rfl rfl (by rfl) (si_rng1 (by rfl) B.b_range (se_b1 call_len lk_len (by rfl) B.b_len (by decide +kernel) (so_var (pv 2)))) (blkOk_by (own := [("place", 7)]) (by rfl)) (fun s H C cl fp => sg_name (i := 7) (pg_name (x := "place") sc__law_is_so.nd rfl (by first | exact .inl rfl | exact .inr rfl))) (by decide) (fun s H C cl fp => sts_nil) (fun s H C cl fp => se_cD D__law_falls hg hr (sa_cons (se_var (pv 2)) (sa_cons (se_var (pv 7)) (sa_nil))))) (sss_cons (ss_setLc (i := 6) rfl sc__law_is_so.nd rfl rfl (by rfl) (si_rng1 (by rfl) B.b_range (se_b1 call_len lk_len (by rfl) B.b_len (by decide +kernel) (so_var (pv 2)))) (blkOk_by (own := [("place", 7)]) (by rfl)) (fun s H C cl fp => sg_name (i := 7) (pg_name (x := "place") sc__law_is_so.nd rfl (by first | exact .inl rfl | exact .inr rfl))) (by decide) (fun s H C cl fp => sts_nil) (fun s H C cl fp => se_if (st_val (se_var (pv 3))) (se_cK0 D_ahead hg hr (0, 2, [1, 0]) (by decide) (fun _ _ _ _ _ _ us ws hu hw => match us, hu, ws, hw with | [], _, [_, _], _ => rfl) (fun us ws hu hw => match us, hu, ws, hw with | [], _, [_, _], _ => rfl) (sk_cons (se_var (pv 7)) (sk_cons (se_var (pv 2)) (sk_nil)))) (se_cD D_ahead hg hr (sa_cons (se_var (pv 2)) (sa_cons (se_var (pv 7)) (sa_nil)))))) (sss_cons (ss_if (st_cmp (op_neX hr.units) lk_neX (so_val (se_b1 (call_shown hg hr hs) lk_shown1 (by rfl) B.b_repr (by decide +kernel) (so_var (pv 6)))) (so_val (se_b1 (call_shown hg hr hs) lk_shown1 (by rfl) B.b_repr (by decide +kernel) (so_var (pv 8)))) (nomark _)) (sss_one (ss_ret (se_bl))) (sss_nil)) (sss_cons (ss_set (i := 5) sc__law_is_so.nd rfl (by first | exact .inl rfl | exact .inr rfl) (se_b1 (call_shown hg hr hs) lk_shown1 (by rfl) B.b_repr (by decide +kernel) (so_val (se_cmp (op_eqX hr.units) lk_eqX (so_val ((sf_lc rfl sc__law_is_so.nd (si_seq (se_var (pv 8))) (blkOk_by (own := [("own", 9)]) (by rfl)) (fun s H C cl fp => sg_name (i := 9) (pg_name (x := "own") sc__law_is_so.nd rfl (by first | exact .inl rfl | exact .inr rfl))) (by decide) (fun s H C cl fp => sts_one (st_cmp op_gt lk_gt (so_var (pv 9)) (so_val (se_int)) (nomark _))) (fun s H C cl fp => se_var (pv 9))).se)) (so_val (se_clst (scs_nil))) (nomark _))))) (sss_cons (ss_set (i := 10) sc__law_is_so.nd rfl (by first | exact .inl rfl | exact .inr rfl) (se_lst (ses_cons (se_cK0 D_is_rising hg hr (0, 1, [0]) (by decide) (fun _ _ _ _ _ _ us ws hu hw => match us, hu, ws, hw with | [], _, [_], _ => rfl) (fun us ws hu hw => match us, hu, ws, hw with | [], _, [_], _ => rfl) (sk_cons (se_var (pv 2)) (sk_nil))) (ses_cons (se_cD D_is_rising hg hr (sa_cons (se_var (pv 2)) (sa_nil))) (ses_cons (se_cmp (op_eqX hr.units) lk_eqX (so_val (se_t1 call_list_of lk_list (by rfl) B.b_list (by decide +kernel) (so_var (pv 2)))) (so_val (se_b1 cr_sortA lk_sort (by rfl) B.b_sorted (by decide +kernel) (so_var (pv 2)))) (nomark _)) (ses_nil)))))) (sss_one (ss_ret (se_and (se_cmp (op_eqX hr.units) lk_eqX (so_val (se_b1 (call_shown hg hr hs) lk_shown1 (by rfl) B.b_repr (by decide +kernel) (so_var (pv 10)))) (so_val (se_bin op_addD lk_add (so_val (se_bin op_addD lk_add (so_val (se_bin op_addD lk_add (so_val (se_bin op_addD lk_add (so_val (se_bin op_addD lk_add (so_val (se_bin op_addD lk_add (so_val (se_str)) (so_var (pv 5)))) (so_val (se_str)))) (so_var (pv 5)))) (so_val (se_str)))) (so_var (pv 5)))) (so_val (se_str)))) (nomark _)) (se_one (se_cmp (op_eqX hr.units) lk_eqX (so_val (se_b1 (call_shown hg hr hs) lk_shown1 (by rfl) B.b_repr (by decide +kernel) (so_val (se_lst (ses_cons (se_var (pv 1)) (ses_cons (se_var (pv 2)) (ses_nil))))))) (so_var (pv 4)) (nomark _)))))))))))))
def w__law_sunk : WS := wSeq (wParOD 1 2 (wOp1 lstD (.s 0)) (wC (.int 0))) (wSeq (wFor (wRng1 (wOp1 lenD (.s 1))) (wgName 3) (wFor (wRng3 [wVar 3, wC (.int 0), wC (.int (-1))]) (wgName 4) (wIfS (wTst (wOp2 gtD (.v (wOp2 ixD (.s 1) (.v (wOp2 subD (.s 4) (.v (wC (.int 1))))))) (.v (wOp2 ixD (.s 1) (.s 4))))) (wAsg (wTup [wOp2 ixD (.s 1) (.s 4), wOp2 ixD (.s 1) (.v (wOp2 subD (.s 4) (.v (wC (.int 1))))), wOp2 addD (.s 2) (.v (wC (.int 1)))]) (wgTup 3 (wgCons (wgSubO 1 (wOp2 subD (.s 4) (.v (wC (.int 1))))) (wgCons (wgSubO 1 (wVar 4)) (wgCons (wgName 2) (wgNil)))))) (wNx)))) (wRet (wTup [wOp1 tupD (.s 1), wVar 2])))
theorem t__law_sunk (hg : (A.deeper (envOfC "_law_sunk" (defScope s__law_sunk) s.heap.objs.size fa cdv)).guards = some []) (hr : Room k (A.deeper (envOfC "_law_sunk" (defScope s__law_sunk) s.heap.objs.size fa cdv))) : SSs R (cxOf CX0 P w K mg base ["row", "left", "many", "end", "spot"] "_law_sunk" (defScope s__law_sunk) fa cdv A outer s H E).nox (defBody s__law_sunk) w__law_sunk :=
  sss_cons (ss_parOD (i := 1) (j := 2) rfl sc__law_sunk.nd rfl rfl rfl rfl (sf_t1 call_list_of lkF_list (by rfl) B.b_list (by decide +kernel) (so_var (pv 0))) (se_int)) (sss_cons (ss_for PassesOwn.never rfl (si_rng1 (by rfl) B.b_range (se_b1 call_len lk_len (by rfl) B.b_len (by decide +kernel) (so_var (pv 1)))) (sg_name (i := 3) (pg_name (x := "end") sc__law_sunk.nd rfl (by first | exact .inl rfl | exact .inr rfl))) (sss_one (ss_for PassesOwn.never rfl (si_rng3 (by rfl) B.b_range (ses_cons (se_var (pv 3)) (ses_cons (se_int) (ses_cons (se_neg1) (ses_nil))))) (sg_name (i := 4) (pg_name (x := "spot") sc__law_sunk.nd rfl (by first | exact .inl rfl | exact .inr rfl))) (sss_one (ss_if (st_cmp op_gt lk_gt (so_val (se_ix ix_seq lk_ix (so_var (pv 1)) (so_val (se_bin op_sub lk_sub (so_var (pv 4)) (so_val (se_int)))) (fun _ _ => by with_unfolding_all rfl))) (so_val (se_ix ix_seq lk_ix (so_var (pv 1)) (so_var (pv 4)) (fun _ _ => by with_unfolding_all rfl))) (nomark _)) (sss_one (ss_asg (se_tup (ses_cons (se_ix ix_seq lk_ix (so_var (pv 1)) (so_var (pv 4)) (fun _ _ => by with_unfolding_all rfl)) (ses_cons (se_ix ix_seq lk_ix (so_var (pv 1)) (so_val (se_bin op_sub lk_sub (so_var (pv 4)) (so_val (se_int)))) (fun _ _ => by with_unfolding_all rfl)) (ses_cons (se_bin op_addD lk_add (so_var (pv 2)) (so_val (se_int))) (ses_nil))))) (sg_tup rfl (sgs_cons (sg_sub (pv 1) (se_bin op_sub lk_sub (so_var (pv 4)) (so_val (se_int)))) (sgs_cons (sg_sub (pv 1) (se_var (pv 4))) (sgs_cons (sg_name (i := 2) (pg_name (x := "many") sc__law_sunk.nd rfl (by first | exact .inl rfl | exact .inr rfl))) (sgs_nil))))))) (sss_nil)))))) (sss_one (ss_ret (se_tup (ses_cons (se_t1 call_tuple_of lk_tuple (by rfl) B.b_tuple (by decide +kernel) (so_var (pv 1))) (ses_cons (se_var (pv 2)) (ses_nil)))))))
def w_law (S__law_draw : Sd) (S__law_row : Sd) (S__law_pick : Sd) (S__law_near : Sd) (S__law_is_so : Sd) (S__law_sunk : Sd) (S_ahead : Sd) (S_is_rising : Sd) : WS := wSeq (wMk 1 0) (wSeq (wFor (wRng1 (wC (.int 7))) (wgName 2) (wSeq (wSet 3 (wOp2 addD (.v (wC (.int 1))) (.v (wCall S__law_draw [.loom 1, .e (wC (.int 8))])))) (wSeq (wSet 4 (wCall S__law_row [.loom 1, .e (wVar 3), .e (wCall S__law_pick [.loom 1, .e (wC (.list [.int 0, .int 1, .int 2, .int 5, .int 12]))])])) (wSeq (wFor (wI (wCall S__law_near [.loom 1, .e (wVar 3), .e (wVar 4)])) (wgName 5) (wIfS (wNot (wTst (wCall S__law_is_so [.e (wVar 3), .e (wVar 4), .e (wVar 5), .e (wOp2 eqXD (.s 2) (.v (wC (.int 2))))]))) (wRet (wC (.bool false))) (wNx))) (wSeq (wAsg (wCall S__law_sunk [.e (wVar 4)]) (wgTup 2 (wgCons (wgName 6) (wgCons (wgName 7) (wgNil))))) (wIfS (wOr (wNot (wTst (wCall S_is_rising [.e (wVar 6)]))) (wTst (wOp2 neXD (.v (wOp1 sumD (.v (wLc (wRng1 (wOp1 lenD (.s 4))) (wgName 8) (wYes) (wCall S_ahead [.e (wVar 4), .e (wVar 8)]) [8])))) (.s 7)))) (wRet (wC (.bool false))) (wNx))))))) (wSeq (wSet 3 (wCall S__law_pick [.loom 1, .e (wC (.list [.int 1, .int 2, .int 8]))])) (wSeq (wSet 4 (wOp1 tupD (.v (wLc (wRng1 (wOp2 addD (.v (wC (.int 58))) (.v (wCall S__law_draw [.loom 1, .e (wC (.int 3))])))) (wgName 2) (wYes) (wCall S__law_draw [.loom 1, .e (wVar 3)]) [2])))) (wRet (wAndV (wCall S__law_is_so [.e (wVar 3), .e (wVar 4), .e (wOp1 tupD (.v (wOp1 sortD (.s 4)))), .e (wC (.bool false))]) (wCall S__law_is_so [.e (wVar 3), .e (wVar 4), .e (wRev (.s 4)), .e (wC (.bool true))]))))))
theorem t_law {fL : Addr} {fdL : FuncData} (MKF : GFn P w K mg base CX0 k fL fdL ["script"] (spMk R K)) (MKM : mg "_law_loom" = some (.ref fL)) (MKK : PySem.W.keepIn K (.ref fL) = true) (MKB : Binds K fdL ["script"] []) {S__law_draw : Sd} (D__law_draw : Def R P w K mg base k "_law_draw" s__law_draw ["loom", "many"] S__law_draw) {S__law_row : Sd} (D__law_row : Def R P w K mg base k "_law_row" s__law_row ["loom", "n", "most"] S__law_row) {S__law_pick : Sd} (D__law_pick : Def R P w K mg base k "_law_pick" s__law_pick ["loom", "things"] S__law_pick) {S__law_near : Sd} (D__law_near : Def R P w K mg base k "_law_near" s__law_near ["loom", "n", "row"] S__law_near) {S__law_is_so : Sd} (D__law_is_so : Def R P w K mg base k "_law_is_so" s__law_is_so ["n", "row", "other", "is_named"] S__law_is_so) {S__law_sunk : Sd} (D__law_sunk : Def R P w K mg base k "_law_sunk" s__law_sunk ["row"] S__law_sunk) {S_ahead : Sd} (D_ahead : Def R P w K mg base k "ahead" s_ahead ["row", "place"] S_ahead) {S_is_rising : Sd} (D_is_rising : Def R P w K mg base k "is_rising" s_is_rising ["row"] S_is_rising) (hg : (A.deeper (envOfC "law" (defScope s_law) s.heap.objs.size fa cdv)).guards = some []) (hr : Room k (A.deeper (envOfC "law" (defScope s_law) s.heap.objs.size fa cdv))) : SSs0 R (cxOf CX0 P w K mg base ["script", "loom", "turn", "n", "row", "other", "best", "many", "place"] "law" (defScope s_law) fa cdv A outer s H E).nox (defBody s_law) (w_law S__law_draw S__law_row S__law_pick S__law_near S__law_is_so S__law_sunk S_ahead S_is_rising) :=
  sss0_cons (ss0_mk sc_law.nd (i := 1) rfl (by first | exact .inl rfl | exact .inr rfl) MKF hg hr (by rfl) MKM MKK MKB (pv 0)) (sss_cons (ss_for PassesOwn.never rfl (si_rng1 (by rfl) B.b_range (se_int)) (sg_name (i := 2) (pg_name (x := "turn") sc_law.nd rfl (by first | exact .inl rfl | exact .inr rfl))) (sss_cons (ss_set (i := 3) sc_law.nd rfl (by first | exact .inl rfl | exact .inr rfl) (se_bin op_addD lk_add (so_val (se_int)) (so_val (se_cD D__law_draw hg hr (sa_loom (pv 1) (sa_cons (se_int) (sa_nil))))))) (sss_cons (ss_set (i := 4) sc_law.nd rfl (by first | exact .inl rfl | exact .inr rfl) (se_cD D__law_row hg hr (sa_loom (pv 1) (sa_cons (se_var (pv 3)) (sa_cons (se_cD D__law_pick hg hr (sa_loom (pv 1) (sa_cons (se_clst (scs_cons (se_int) (scs_cons (se_int) (scs_cons (se_int) (scs_cons (se_int) (scs_cons (se_int) (scs_nil))))))) (sa_nil)))) (sa_nil)))))) (sss_cons (ss_for PassesOwn.never rfl (si_seq (se_cD D__law_near hg hr (sa_loom (pv 1) (sa_cons (se_var (pv 3)) (sa_cons (se_var (pv 4)) (sa_nil)))))) (sg_name (i := 5) (pg_name (x := "other") sc_law.nd rfl (by first | exact .inl rfl | exact .inr rfl))) (sss_one (ss_if (st_not (st_val (se_cD D__law_is_so hg hr (sa_cons (se_var (pv 3)) (sa_cons (se_var (pv 4)) (sa_cons (se_var (pv 5)) (sa_cons (se_cmp (op_eqX hr.units) lk_eqX (so_var (pv 2)) (so_val (se_int)) (nomark _)) (sa_nil)))))))) (sss_one (ss_ret (se_bl))) (sss_nil)))) (sss_cons (ss_asg (se_cD D__law_sunk hg hr (sa_cons (se_var (pv 4)) (sa_nil))) (sg_tup rfl (sgs_cons (sg_name (i := 6) (pg_name (x := "best") sc_law.nd rfl (by first | exact .inl rfl | exact .inr rfl))) (sgs_cons (sg_name (i := 7) (pg_name (x := "many") sc_law.nd rfl (by first | exact .inl rfl | exact .inr rfl))) (sgs_nil))))) (sss_one (ss_if ((sw_or (st_not (st_val (se_cD D_is_rising hg hr (sa_cons (se_var (pv 6)) (sa_nil))))) (sw_or1 (st_cmp (op_neX hr.units) lk_neX (so_val (se_b1 (cr_sum rfl) lk_sum (by rfl) B.b_sum (by decide +kernel) (so_val ((sf_lc rfl sc_law.nd (si_rng1 (by rfl) B.b_range (se_b1 call_len lk_len (by rfl) B.b_len (by decide +kernel) (so_var (pv 4)))) (blkOk_by (own := [("place", 8)]) (by rfl)) (fun s H C cl fp => sg_name (i := 8) (pg_name (x := "place") sc_law.nd rfl (by first | exact .inl rfl | exact .inr rfl))) (by decide) (fun s H C cl fp => sts_nil) (fun s H C cl fp => se_cD D_ahead hg hr (sa_cons (se_var (pv 4)) (sa_cons (se_var (pv 8)) (sa_nil))))).se)))) (so_var (pv 7)) (nomark _)))).st) (sss_one (ss_ret (se_bl))) (sss_nil)))))))) (sss_cons (ss_set (i := 3) sc_law.nd rfl (by first | exact .inl rfl | exact .inr rfl) (se_cD D__law_pick hg hr (sa_loom (pv 1) (sa_cons (se_clst (scs_cons (se_int) (scs_cons (se_int) (scs_cons (se_int) (scs_nil))))) (sa_nil))))) (sss_cons (ss_set (i := 4) sc_law.nd rfl (by first | exact .inl rfl | exact .inr rfl) (se_t1 call_tuple_of lk_tuple (by rfl) B.b_tuple (by decide +kernel) (so_val ((sf_lc rfl sc_law.nd (si_rng1 (by rfl) B.b_range (se_bin op_addD lk_add (so_val (se_int)) (so_val (se_cD D__law_draw hg hr (sa_loom (pv 1) (sa_cons (se_int) (sa_nil))))))) (blkOk_by (own := [("turn", 2)]) (by rfl)) (fun s H C cl fp => sg_name (i := 2) (pg_name (x := "turn") sc_law.nd rfl (by first | exact .inl rfl | exact .inr rfl))) (by decide) (fun s H C cl fp => sts_nil) (fun s H C cl fp => se_cD D__law_draw hg hr (sa_loom (pv 1) (sa_cons (se_var (pv 3)) (sa_nil))))).se)))) (sss_one (ss_ret (se_and (se_cD D__law_is_so hg hr (sa_cons (se_var (pv 3)) (sa_cons (se_var (pv 4)) (sa_cons (se_t1 call_tuple_of lk_tuple (by rfl) B.b_tuple (by decide +kernel) (so_val (se_b1 cr_sortA lk_sort (by rfl) B.b_sorted (by decide +kernel) (so_var (pv 4))))) (sa_cons (se_bl) (sa_nil)))))) (se_one (se_cD D__law_is_so hg hr (sa_cons (se_var (pv 3)) (sa_cons (se_var (pv 4)) (sa_cons (se_rev (so_var (pv 4)) pe_neg) (sa_cons (se_bl) (sa_nil)))))))))))))
end
end K02
namespace K02
open PySem PySem.Spec PyProof.Rows L2 DL
section
variable {P : Program} {w : World} {K : PySem.W.Frag} {mg : Str → Option Value} {base : Heap} {k : Nat}
theorem draw_gd {f : Addr} {fd : FuncData} (F : Fun K "_law_draw" "_law_draw" s__law_draw f fd) (B : Bi mg) : GFn P w K mg base CX0 (k + 1) f fd ["loom", "many"] (spD loomR K 2 S_draw) := by
  obtain ⟨oc, od, kV, doc, pm, an, cdv, ct, osl, rfl, lk, hcd⟩ := F.ex
  refine gfn_of lk hcd sc__law_draw (fun vs H Q E h => h.1) fun A outer s H vs Q E hg hr h => ?_
  obtain ⟨la, fp, n, rfl, hn, ⟨fa, far, st, tm, rfl, nla, h1, h2, hl⟩, q⟩ := draw_sp (fun _ _ h => h) h
  have q1 : ∀ (r : Int) (H' : Hp) (far' : List Int) (tm' : Int), drawn n r → H' la = some (loomHO fa st tm') → H' fa = some (.lst (far'.map V.int)) → far'.length ≤ 63 → (∀ b o, H b = some o → b ≠ la → b ≠ fa → H' b = some o) → Q (.int r) H' :=
    fun r H' far' tm' d e1 e2 hl' same => q r H' d ⟨fa, far', st, tm', rfl, nla, e1, e2, hl'⟩ fun b o e hb => same b o e (fun z => hb (by simp [z])) (fun z => hb (by simp [z]))
  have hu := hr.units
  have hu1 : (A.deeper (envOfC "_law_draw" (defScope s__law_draw) s.heap.objs.size f cdv)).units + 1 < cLine := by omega
  refine ⟨_, PSs.nox (pss_cons (ps_if (pt_cmpR op_lt (pv 1) pe_int (nomark _)) (pss_one (ps_ret pe_int)) pss_nil)
    (pss_cons (ps_if (pt_cmpR (op_neD hu) (pe_dget hu1 (pv 0) pe_str (fun _ _ => by with_unfolding_all rfl)) (pe_lst pa_nil) (nomark _))
      (pss_cons (ps_set (i := 2) sc__law_draw.nd rfl (.inl rfl) (pe_bm0 PySem.F.plainAttrs_list PySem.F.slot_list_pop PySem.F.type_list_pop mt_pop (pe_dget hu1 (pv 0) pe_str (fun _ _ => by with_unfolding_all rfl))))
        (pss_cons (ps_if (pt_cmpR op_ge (pv 2) (pv 1) (nomark _)) (pss_one (ps_expr (pe_bm PySem.F.plainAttrs_list PySem.F.slot_list_append PySem.F.type_list_append mt_append (pe_dget hu1 (pv 0) pe_str (fun _ _ => by with_unfolding_all rfl)) (pa_cons (pe_op op_fdiv (pv 2) (pv 1)) pa_nil)))) pss_nil)
          (pss_one (ps_ret (pe_op op_mod (pe_callTy call_int1 (by rfl) B.b_int (by decide +kernel) (pa_cons (pv 2) pa_nil)) (pv 1))))))
      pss_nil)
    (pss_cons (ps_dput hu1 (pv 0) pe_str (pe_op op_add (pe_dget hu1 (pv 0) pe_str (fun _ _ => by with_unfolding_all rfl)) pe_int) (by rfl))
    (pss_cons (ps_set (i := 3) sc__law_draw.nd rfl (.inl rfl) (pe_op op_mod (pe_callTy call_int1 (by rfl) B.b_int (by decide +kernel) (pa_cons (pe_op op_add (pe_dget hu1 (pv 0) pe_str (fun _ _ => by with_unfolding_all rfl)) (pe_op op_mul pe_int (pe_dget hu1 (pv 0) pe_str (fun _ _ => by with_unfolding_all rfl)))) pa_nil)) pe_int))
    (pss_cons (ps_set (i := 3) sc__law_draw.nd rfl (.inl rfl) (pe_op op_mod (pe_callTy call_int1 (by rfl) B.b_int (by decide +kernel) (pa_cons (pe_op op_add (pe_op op_add (pe_op op_mul (pv 3) (pv 3)) (pe_op op_mul pe_int (pe_dget hu1 (pv 0) pe_str (fun _ _ => by with_unfolding_all rfl)))) pe_int) pa_nil)) pe_int))
    (pss_cons (ps_set (i := 3) sc__law_draw.nd rfl (.inl rfl) (pe_op op_mod (pe_callTy call_int1 (by rfl) B.b_int (by decide +kernel) (pa_cons (pe_op op_add (pe_op op_mul (pv 3) (pv 3)) (pe_dget hu1 (pv 0) pe_str (fun _ _ => by with_unfolding_all rfl))) pa_nil)) pe_int))
    (pss_one (ps_ret (pe_op op_mod (pe_callTy call_int1 (by rfl) B.b_int (by decide +kernel) (pa_cons (pe_op op_fdiv (pv 3) pe_int) pa_nil)) (pv 1)))))))))), ?_⟩
  -- many < 2
  refine ⟨_, rfl, _, _, rfl, rfl, _, rfl, ?_⟩
  refine sel (fun c1 => ?_) fun c1 => ?_
  · exact q1 0 H far tm (.inl ⟨of_decide_eq_true c1, rfl⟩) h1 h2 hl fun _ _ e _ _ => e
  have c1 : 2 ≤ n := by
    have := of_decide_eq_false c1
    omega
  -- loom['far'] != []
  refine ⟨.ref la, rfl, la, .ref fa, rfl, get_far h1, Nat.zero_le _, fun p np => ?_⟩
  have npl : la ≠ p := ne_of_none h1 np
  have npf : fa ≠ p := ne_of_none h2 np
  have e1 : upd H p (.lst []) la = some (loomHO fa st tm) := by rw [upd_ne npl]; exact h1
  have e2 : upd H p (.lst []) fa = some (.lst (far.map V.int)) := by rw [upd_ne npf]; exact h2
  refine ⟨_, _, dp_ints e2, dp_ints (ns := []) upd_same, shaped_ints far, shaped_ints [], _, rfl, ?_⟩
  have oth : ∀ b o, H b = some o → upd H p (.lst []) b = some o := fun b o e => by
    rw [upd_ne (ne_of_none e np)]
    exact e
  generalize upd H p (.lst []) = H1 at e1 e2 oth
  clear h1 h2 np npl npf
  refine sel (fun c2 => ?_) fun c2 => ?_
  · -- cell = loom['far'].pop()
    obtain ⟨fr, c, rfl⟩ : ∃ fr c, far = fr ++ [c] := by
      rcases List.eq_nil_or_concat far with z | ⟨l, a, z⟩
      · subst z
        exact absurd c2 (by simp [PyData.eqv, PyData.eqvAll])
      · exact ⟨l, a, by simpa using z⟩
    have lf : fr.length ≤ 62 := by simpa using hl
    refine ⟨.ref la, rfl, la, .ref fa, rfl, get_far e1, .inl ⟨rfl, _, .inl (.inl e2)⟩, fa, _, .int c, rfl, rfl, e2, by simp, ?_⟩
    have e1' : upd H1 fa (.lst ((fr ++ [c]).map V.int).dropLast) la = some (loomHO fa st tm) := by rw [upd_ne nla]; exact e1
    have e2' : upd H1 fa (.lst ((fr ++ [c]).map V.int).dropLast) fa = some (.lst (fr.map V.int)) := by rw [upd_same]; simp
    have oth' : ∀ b o, H b = some o → b ≠ fa → upd H1 fa (.lst ((fr ++ [c]).map V.int).dropLast) b = some o := fun b o e n => by rw [upd_ne n]; exact oth b o e
    generalize upd H1 fa (.lst ((fr ++ [c]).map V.int).dropLast) = H2 at e1' e2' oth'
    -- if cell >= many
    refine ⟨.int c, rfl, .int n, rfl, _, _, rfl, rfl, _, rfl, sel (fun c3 => ?_) fun c3 => ?_⟩
    · have c3 : n ≤ c := of_decide_eq_true c3
      refine ⟨.ref la, rfl, la, .ref fa, rfl, get_far e1', .inl ⟨rfl, _, .inl (.inl e2')⟩, .int c, rfl, .int n, rfl, _, _, rfl, rfl, ⟨by omega, by omega⟩, fa, _, _, rfl, rfl, e2', ?_, ?_⟩
      · rw [List.length_map]
        exact Nat.lt_of_le_of_lt lf (by decide)
      · refine ⟨.int c, rfl, .inl ⟨c, rfl, .int n, rfl, _, _, rfl, rfl, by omega, ?_⟩⟩
        refine q1 _ _ (fr ++ [c / n]) tm (drawn_mod c1) ?_ ?_ ?_ ?_
        · rw [upd_ne nla]
          exact e1'
        · rw [upd_same]
          simp
        · simp
          omega
        · intro b o e _ n2
          rw [upd_ne n2]
          exact oth' b o e n2
    · refine ⟨.int c, rfl, .inl ⟨c, rfl, .int n, rfl, _, _, rfl, rfl, by omega, ?_⟩⟩
      exact q1 _ _ fr tm (drawn_mod c1) e1' e2' (by omega) fun b o e _ n2 => oth' b o e n2
  · -- loom['times'] = loom['times'] + 1
    refine ⟨.ref la, rfl, la, _, rfl, get_tm e1, _, _, rfl, rfl, .ref la, rfl, la, _, rfl, put_tm e1, ?_⟩
    have e1' : upd H1 la (loomHO fa st (tm + 1)) la = some (loomHO fa st (tm + 1)) := upd_same
    have e2' : upd H1 la (loomHO fa st (tm + 1)) fa = some (.lst (far.map V.int)) := by rw [upd_ne nla.symm]; exact e2
    have oth' : ∀ b o, H b = some o → b ≠ la → upd H1 la (loomHO fa st (tm + 1)) b = some o := fun b o e n => by rw [upd_ne n]; exact oth b o e
    generalize upd H1 la (loomHO fa st (tm + 1)) = H2 at e1' e2' oth'
    have cm : ∀ {a b m : Int}, 0 < m → m < 2 ^ 64 → CMul (a % m) b := fun {a b m} h1 h2 => by
      have p1 := Int.emod_nonneg a (show m ≠ 0 by omega)
      have p2 := Int.emod_lt_of_pos a h1
      exact .inl ⟨by omega, by omega⟩
    -- one = int(loom['stirred'] + c * loom['times']) % m
    refine ⟨.ref la, rfl, la, _, rfl, get_st e1', .ref la, rfl, la, _, rfl, get_tm e1', _, _, rfl, rfl, .inl ⟨by decide, by decide⟩, _, _, rfl, rfl, .inl ⟨_, rfl, _, _, rfl, rfl, (show (0 : Int) < _ by decide), ?_⟩⟩
    refine ⟨_, rfl, _, rfl, _, _, rfl, rfl, cm (by decide) (by decide), .ref la, rfl, la, _, rfl, get_tm e1', _, _, rfl, rfl, .inl ⟨by decide, by decide⟩, _, _, rfl, rfl, _, _, rfl, rfl, .inl ⟨_, rfl, _, _, rfl, rfl, (show (0 : Int) < _ by decide), ?_⟩⟩
    refine ⟨_, rfl, _, rfl, _, _, rfl, rfl, cm (by decide) (by decide), .ref la, rfl, la, _, rfl, get_st e1', _, _, rfl, rfl, .inl ⟨_, rfl, _, _, rfl, rfl, (show (0 : Int) < _ by decide), ?_⟩⟩
    refine ⟨_, rfl, _, _, rfl, rfl, ⟨by decide, by decide⟩, .inl ⟨_, rfl, .int n, rfl, _, _, rfl, rfl, by omega, ?_⟩⟩
    exact q1 _ _ far (tm + 1) (drawn_mod c1) e1' e2' hl fun b o e n1 _ => oth' b o e n1
end
end K02
namespace K02
open PySem PySem.Spec PyProof.Rows L2 DL
/-! ## the resource's maker -/
theorem lt_size {n : Nat} (h : n ≤ 63) : n < sizeLine := Nat.lt_of_le_of_lt h (by decide)
theorem loom_lc1 (sc : List Int) (ρ0 : Sls) (h0 : ρ0 = [.scr sc, .un, .un, .un]) (Q : List PyData → Sls → Prop) : ∀ (ns acc : List Int) (c : Sl), acc.length + ns.length ≤ 63 → (∀ fs : List Int, fs.length ≤ 63 → Q (fs.map .int) [.scr sc, .un, .un, .un]) →
    wLcL (wgName 1) wYes (wOp2 addD (Od.v (wOp2 mulXD (Od.v (wC (PyData.int 2))) (Od.v (wOp1 absD (Od.s 1))))) (Od.v (wOp1 toIntD (Od.v (wOp2 ltD (Od.s 1) (Od.v (wC (PyData.int 0)))))))) [1] ρ0 (ns.map .int) (acc.map .int) [.scr sc, c, .un, .un] Q := by
  intro ns
  induction ns with
  | nil =>
    intro acc c hl h
    rw [List.map_nil, wLcL_nil]
    subst h0
    exact h acc (by simpa using hl)
  | cons n ns ih =>
    intro acc c hl h
    rw [List.map_cons, wLcL_cons]
    have ih' := fun a b c' => ih (acc ++ [a]) c' b h
    generalize wLcL _ _ _ _ _ (List.map PyData.int ns) = L at ih' ⊢
    have hacc : acc.length < sizeLine := lt_size (by simp at hl; omega)
    simp [hacc]
    refine ⟨.inl ⟨by decide, by decide⟩, ?_⟩
    have := ih' (2 * (if n < 0 then -n else n) + if n < 0 then 1 else 0) (by simp at hl ⊢; omega) (.d (.int n))
    simpa using this
theorem loom_for (sc : List Int) (cs : PyData) (D : En) : ∀ (ns : List Int) (c : Sl) (st : Int), (∀ c st, D.nx [.scr sc, c, .d cs, .d (.int st)]) → wLoop (wgName 1) (wSet 3 (wOp2 modD (Od.v (wOp1 toIntD (Od.v (wOp2 addD (Od.v (wOp2 addD (Od.v (wOp2 mulXD (Od.s 3) (Od.v (wC (PyData.int 48271))))) (Od.s 1))) (Od.v (wC (PyData.int 11))))))) (Od.v (wC (PyData.int 4294967291))))) (ns.map .int) D [.scr sc, c, .d cs, .d (.int st)] := by
  intro ns
  induction ns with
  | nil => intro c st h; exact h c st
  | cons n ns ih =>
    intro c st h
    rw [List.map_cons, wLoop_cons]
    have ih' := fun c st => ih c st h
    generalize wLoop _ _ (List.map PyData.int ns) D = L at ih' ⊢
    simp
    exact ⟨.inr ⟨by decide, by decide⟩, ih' _ _⟩
theorem loom_lc3 (sc : List Int) (cs : List Int) (st : Int) (c0 : Sl) (ρ0 : Sls) (h0 : ρ0 = [.scr sc, c0, .d (.list (cs.map .int)), .d (.int st)]) (Q : List PyData → Sls → Prop) : ∀ (ns acc : List Int) (c : Sl), acc.length + ns.length ≤ 63 → (∀ (fs : List Int) c, fs.length ≤ 63 → Q (fs.map .int) [.scr sc, c, .d (.list (cs.map .int)), .d (.int st)]) →
    wLcL (wgName 1) (wTst (wOp2 geD (Od.s 1) (Od.v (wC (PyData.int 1000000000000000))))) (wVar 1) [1] ρ0 (ns.map .int) (acc.map .int) [.scr sc, c, .d (.list (cs.map .int)), .d (.int st)] Q := by
  intro ns
  induction ns with
  | nil =>
    intro acc c hl h
    rw [List.map_nil, wLcL_nil]
    subst h0
    cases c0 <;> exact h acc _ (by simpa using hl)
  | cons n ns ih =>
    intro acc c hl h
    rw [List.map_cons, wLcL_cons]
    have ih' := fun acc b c' => ih acc c' b h
    generalize wLcL _ _ _ _ _ (List.map PyData.int ns) = L at ih' ⊢
    have hacc : acc.length < sizeLine := lt_size (by simp at hl; omega)
    simp [hacc]
    have a1 := ih' (acc ++ [n]) (by simp at hl ⊢; omega) (.d (.int n))
    have a2 := ih' acc (by simp at hl ⊢; omega) (.d (.int n))
    by_cases hn : n < 1000000000000000
    · exact .inl ⟨hn, a2⟩
    · exact .inr ⟨by omega, by simpa using a1⟩
theorem loom_data (ns : List Int) (hl : ns.length ≤ 63) : w1__law_loom ⟨fun ρ1 => w2__law_loom ⟨fun ρ2 => w3__law_loom ρ2 fun d ρ3 => (∃ fs : List Int, d = .list (fs.map PyData.int) ∧ fs.length ≤ 63) ∧ (∃ s : Int, ρ3[3]? = some (.d (.int s))), fun _ => False, fun _ => False, fun _ => False⟩ ρ1, fun _ => False, fun _ => False, fun _ => False⟩ (entry ["script", "cell", "cells", "stirred"] [.scr ns]) := by
  rw [show entry ["script", "cell", "cells", "stirred"] [.scr ns] = [.scr ns, .un, .un, .un] from rfl]
  unfold w1__law_loom
  simp [hl]
  refine loom_lc1 ns _ rfl _ ns [] .un (by simpa using hl) fun fs hf => ?_
  refine ⟨ns, rfl, .inl ⟨by decide, by decide⟩, _, _, ⟨rfl, rfl⟩, ?_⟩
  simp only [List.set_cons_succ, List.set_cons_zero]
  unfold w2__law_loom
  simp only [wFor, wI, wVar, List.getElem?_cons_succ, List.getElem?_cons_zero]
  refine ⟨_, rfl, loom_for ns _ _ fs .un _ fun c st => ?_⟩
  unfold w3__law_loom
  simp only [wLc, wI, wVar, List.getElem?_cons_succ, List.getElem?_cons_zero]
  refine ⟨_, rfl, loom_lc3 ns fs st c _ rfl _ fs [] c (by simpa using hf) fun gs c hg => ⟨⟨gs, rfl, hg⟩, st, rfl⟩⟩
/-! ## where the defs stand, and the first promises -/
section
variable {P : Program} {w : World} {K : PySem.W.Frag} {mg : Str → Option Value} {base : Heap} {k : Nat}
theorem loom_gd {f : Addr} {fd : FuncData} (F : Fun K "_law_loom" "_law_loom" s__law_loom f fd) (B : Bi mg) (hs : SysIn base) : GFn P w K mg base CX0 (k + 1) f fd ["script"] (spMk loomR K) :=
  mk_gd F sc__law_loom (fun cdv A outer s H E hg hr => t__law_loom B hs hg hr) loom_data
theorem D_draw (h : Here K mg "_law_draw" s__law_draw) (B : Bi mg) : Def loomR P w K mg base (k + 1) "_law_draw" s__law_draw ["loom", "many"] S_draw := by
  obtain ⟨f, fd, F, gm⟩ := h
  exact ⟨mono_draw, f, fd, F, draw_gd F B, gm, F.binds fun _ _ _ _ _ _ us hl => match us, hl with | [_, _], _ => rfl⟩
end
end K02
namespace K02
open PySem PySem.Spec PyProof.Rows L2 DL
/-! ## what the defs tell -/
abbrev di (is : List Int) : List PyData := is.map PyData.int
theorem di_inj {a b : List Int} (h : di a = di b) : a = b := by
  induction a generalizing b with
  | nil => cases b <;> simp_all
  | cons x xs ih =>
    cases b with
    | nil => simp at h
    | cons y ys =>
      simp at h
      rw [h.1, ih h.2]
theorem eqv_di : ∀ a b : List Int, PyData.eqvAll (di a) (di b) = decide (a = b)
  | [], [] => by simp [PyData.eqvAll]
  | [], y :: ys => by simp [PyData.eqvAll]
  | x :: xs, [] => by simp [PyData.eqvAll]
  | x :: xs, y :: ys => by
    have := eqv_di xs ys
    simp only [List.map_cons, PyData.eqvAll, eqv_int, this]
    by_cases h : x = y <;> by_cases k : xs = ys <;> simp [h, k]
theorem eqv_ints (a b : List Int) : PyData.eqv (.list (di a)) (.list (di b)) = decide (a = b) := by
  simp only [PyData.eqv]
  exact eqv_di a b
/-- two rising rows of the same things are one -/
theorem rising_uniq : ∀ {a b : List Int}, a.Perm b → a.Pairwise (· ≤ ·) → b.Pairwise (· ≤ ·) → a = b
  | [], b, h, _, _ => by rw [h.symm.eq_nil]
  | x :: xs, [], h, _, _ => absurd h.eq_nil (by simp)
  | x :: xs, y :: ys, h, ha, hb => by
    have e : x = y := by
      have h1 : x ∈ y :: ys := h.mem_iff.mp List.mem_cons_self
      have h2 : y ∈ x :: xs := h.mem_iff.mpr List.mem_cons_self
      rw [List.pairwise_cons] at ha hb
      rcases List.mem_cons.mp h1 with z | z
      · exact z
      · rcases List.mem_cons.mp h2 with w | w
        · exact w.symm
        · have := ha.1 y w
          have := hb.1 x z
          omega
    subst e
    rw [rising_uniq h.cons_inv (List.pairwise_cons.mp ha).2 (List.pairwise_cons.mp hb).2]
def S_same : Sd := fun as q => ∃ a b : List Int, as = [.d (.tuple (di a)), .d (.tuple (di b))] ∧ q (.bool (a.isPerm b))
theorem mono_same : MonoD S_same := fun as q q' h ⟨a, b, e, k⟩ => ⟨a, b, e, h _ k⟩
theorem data_same (as : List Sl) (q : PyData → Prop) (hl : as.length = 2) (h : S_same as q) : w_same_things (enD q) (entry ["one", "other"] as) := by
  obtain ⟨a, b, rfl, h⟩ := h
  rw [show entry ["one", "other"] [.d (.tuple (di a)), .d (.tuple (di b))] = [.d (.tuple (di a)), .d (.tuple (di b))] from rfl]
  unfold w_same_things
  simp
  refine ⟨a, rfl, fun a' p1 s1 => ⟨b, rfl, fun b' p2 s2 => ⟨shaped_ints a', shaped_ints b', ?_⟩⟩⟩
  rw [eqv_ints]
  have : decide (a' = b') = a.isPerm b := by
    rw [Bool.eq_iff_iff, decide_eq_true_eq, List.isPerm_iff]
    exact ⟨fun e => p1.symm.trans (e ▸ p2), fun e => rising_uniq (p1.trans (e.trans p2.symm)) s1 s2⟩
  rw [this]
  exact h
def risingB (a : List Int) : Bool := decide (a.Pairwise (· ≤ ·))
def S_rising : Sd := fun as q => ∃ a : List Int, as = [.d (.tuple (di a))] ∧ q (.bool (risingB a))
theorem mono_rising : MonoD S_rising := fun as q q' h ⟨a, e, k⟩ => ⟨a, e, h _ k⟩
theorem sorted_same {a a' : List Int} (p : a'.Perm a) (s : a'.Pairwise (· ≤ ·)) : decide (a' = a) = risingB a := by
  unfold risingB
  rw [Bool.eq_iff_iff, decide_eq_true_eq, decide_eq_true_eq]
  exact ⟨fun e => e ▸ s, fun k => rising_uniq p s k⟩
theorem data_rising (as : List Sl) (q : PyData → Prop) (hl : as.length = 1) (h : S_rising as q) : w_is_rising (enD q) (entry ["row"] as) := by
  obtain ⟨a, rfl, h⟩ := h
  rw [show entry ["row"] [.d (.tuple (di a))] = [.d (.tuple (di a))] from rfl]
  unfold w_is_rising
  simp
  refine ⟨a, rfl, fun a' p1 s1 => ⟨shaped_ints a', shaped_ints a, ?_⟩⟩
  rw [eqv_ints, sorted_same p1 s1]
  exact h
/-! ### things that stand ahead -/
def fallsAt (a : List Int) (p : Nat) : Nat := ((a.take p).filter fun x => decide (a.getD p 0 < x)).length
def S_falls : Sd := fun as q => ∃ (a : List Int) (p : Nat), as = [.d (.tuple (di a)), .d (.int p)] ∧ p < a.length ∧ a.length ≤ 1000 ∧ q (.int (fallsAt a p))
theorem mono_falls : MonoD S_falls := fun as q q' h ⟨a, p, e, x, y, k⟩ => ⟨a, p, e, x, y, h _ k⟩
theorem falls_lc (a : List Int) (p : Nat) (hp : p < a.length) (ha : a.length ≤ 1000) (ρ0 : Sls) (h0 : ρ0 = [.d (.tuple (di a)), .d (.int p), .un]) (Q : List PyData → Sls → Prop) : ∀ (xs acc : List Int) (s : Sl), acc.length + xs.length ≤ 1000 → (Q (di (acc ++ xs.filter fun x => decide (a.getD p 0 < x))) ρ0) →
    wLcL (wgName 2) (wTst (wOp2 gtD (.s 2) (.v (wOp2 ixD (.s 0) (.s 1))))) (wVar 2) [2] ρ0 (di xs) (di acc) [.d (.tuple (di a)), .d (.int p), s] Q := by
  intro xs
  induction xs with
  | nil =>
    intro acc s hl h
    rw [show di [] = [] from rfl, wLcL_nil]
    subst h0
    show Q (di acc) [.d (.tuple (di a)), .d (.int p), .un]
    simpa using h
  | cons x r ih =>
    intro acc s hl h
    rw [show di (x :: r) = .int x :: di r from rfl, wLcL_cons]
    have ih' := fun acc s => ih acc s
    generalize wLcL _ _ _ _ _ (di r) = L at ih' ⊢
    simp at hl
    have hacc : acc.length < sizeLine := Nat.lt_of_lt_of_le (show acc.length < 1001 by omega) (by decide)
    have ea : L2.atI (di a) (p : Int) = some (.int (a.getD p 0)) := L2.atI_nat (by simp [List.getElem?_map, List.getElem?_eq_getElem hp])
    simp [ea, hacc]
    by_cases hx : a.getD p 0 < x
    · have hx' : a[p]?.getD 0 < x := by simpa using hx
      refine .inr ⟨hx', ?_⟩
      have := ih' (acc ++ [x]) (.d (.int x)) (by simp; omega) (by simpa [hx'] using h)
      simpa using this
    · have hx' : ¬ a[p]?.getD 0 < x := by simpa using hx
      exact .inl ⟨by omega, ih' acc _ (by omega) (by simpa [hx'] using h)⟩
theorem cut_int (a : List Int) (lo hi : Option Int) : DL.cutD (di a) lo hi = di ((a.drop (HT.sIx a.length 0 lo)).take (HT.sIx a.length a.length hi - HT.sIx a.length 0 lo)) := by
  unfold DL.cutD
  simp [List.map_take, List.map_drop]
theorem cut_to (a : List Int) (p : Nat) (h : p ≤ a.length) : DL.cutD (di a) none (some (p : Int)) = di (a.take p) := by
  rw [cut_int, HT.sIx_none, HT.sIx_nat]
  simp [Nat.min_eq_left h]
theorem data_falls (as : List Sl) (q : PyData → Prop) (hl : as.length = 2) (h : S_falls as q) : w__law_falls (enD q) (entry ["row", "place", "thing"] as) := by
  obtain ⟨a, p, rfl, hp, ha, h⟩ := h
  rw [show entry ["row", "place", "thing"] [.d (.tuple (di a)), .d (.int p)] = [.d (.tuple (di a)), .d (.int p), .un] from rfl]
  unfold w__law_falls
  simp only [wRet, wOp1, Od.run, wLc, wI, wSl, wVar, Pt.run, rdS, List.getElem?_cons_zero, List.getElem?_cons_succ, slD]
  refine ⟨⟨_, rfl⟩, ⟨(p : Int), rfl, _, rfl, _, rfl, ?_⟩⟩
  rw [cut_to a p (by omega)]
  refine falls_lc a p hp ha _ rfl _ (a.take p) [] _ (by simp; omega) ?_
  refine ⟨_, rfl, ?_⟩
  simp only [lenD, enD, List.length_map, List.nil_append]
  exact h
theorem data_ahead (as : List Sl) (q : PyData → Prop) (hl : as.length = 2) (h : S_falls as q) : w_ahead (enD q) (entry ["row", "place", "kind"] as) := data_falls as q hl h
end K02
namespace K02
open PySem PySem.Spec PyProof.Rows L2 DL
theorem lt_size1 {n : Nat} (h : n ≤ 1000) : n < sizeLine := Nat.lt_of_le_of_lt h (by decide)
/-! ### counted -/
theorem count_lc (n : Int) (a : List Int) (k : Int) (ρ0 : Sls) (s0 : Sl) (h0 : ρ0 = [.d (.int n), .d (.tuple (di a)), .d (.int k), s0]) (Q : List PyData → Sls → Prop) : ∀ (xs acc : List Int) (s : Sl), acc.length + xs.length ≤ 1000 → (∀ s, Q (di (acc ++ xs.filter fun x => x == k)) [.d (.int n), .d (.tuple (di a)), .d (.int k), s]) →
    wLcL (wgName 3) (wTst (wOp2 eqXD (.s 3) (.s 2))) (wVar 3) [3] ρ0 (di xs) (di acc) [.d (.int n), .d (.tuple (di a)), .d (.int k), s] Q := by
  intro xs
  induction xs with
  | nil =>
    intro acc s hl h
    rw [show di [] = [] from rfl, wLcL_nil]
    subst h0
    have h' : ∀ s, Q (di acc) [.d (.int n), .d (.tuple (di a)), .d (.int k), s] := fun s => by simpa using h s
    cases s0 <;> exact h' _
  | cons x r ih =>
    intro acc s hl h
    rw [show di (x :: r) = .int x :: di r from rfl, wLcL_cons]
    have ih' := fun acc s => ih acc s
    generalize wLcL _ _ _ _ _ (di r) = L at ih' ⊢
    simp at hl
    have hacc : acc.length < sizeLine := lt_size1 (by omega)
    simp [hacc]
    by_cases hx : x = k
    · subst hx
      refine .inr ⟨rfl, ?_⟩
      simpa using ih' (acc ++ [x]) (.d (.int x)) (by simp; omega) (by simpa using h)
    · exact .inl ⟨hx, ih' acc _ (by omega) (by simpa [hx] using h)⟩
def countI (a : List Int) (k : Int) : Int := ((a.filter fun x => x == k).length : Nat)
def S_counted : Sd := fun as q => ∃ (n : Int) (a : List Int), as = [.d (.int n), .d (.tuple (di a))] ∧ 0 ≤ n ∧ n ≤ 8 ∧ a.length ≤ 1000 ∧ q (.list (di ((List.range n.toNat).map fun k : Nat => countI a (k : Int))))
theorem mono_counted : MonoD S_counted := fun as q q' h ⟨n, a, e, x, y, z, k⟩ => ⟨n, a, e, x, y, z, h _ k⟩
theorem counted_lc (n : Int) (a : List Int) (ha : a.length ≤ 1000) (ρ0 : Sls) (s0 : Sl) (h0 : ρ0 = [.d (.int n), .d (.tuple (di a)), .un, s0]) (Q : List PyData → Sls → Prop) : ∀ (xs acc : List Int) (s t : Sl), acc.length + xs.length ≤ 1000 → (∀ t, Q (di (acc ++ xs.map (countI a))) [.d (.int n), .d (.tuple (di a)), .un, t]) →
    wLcL (wgName 2) (wYes) (wOp1 lenD (.v (wLc (wI (wVar 1)) (wgName 3) (wTst (wOp2 eqXD (.s 3) (.s 2))) (wVar 3) [3]))) [2] ρ0 (di xs) (di acc) [.d (.int n), .d (.tuple (di a)), s, t] Q := by
  intro xs
  induction xs with
  | nil =>
    intro acc s t hl h
    rw [show di [] = [] from rfl, wLcL_nil]
    subst h0
    have h' : ∀ s, Q (di acc) [.d (.int n), .d (.tuple (di a)), .un, s] := fun s => by simpa using h s
    exact h' t
  | cons x r ih =>
    intro acc s t hl h
    rw [show di (x :: r) = .int x :: di r from rfl, wLcL_cons]
    have ih' := fun acc s => ih acc s
    generalize wLcL _ _ _ _ _ (di r) = L at ih' ⊢
    simp at hl
    have hacc : acc.length < sizeLine := lt_size1 (by omega)
    simp
    refine count_lc n a x _ t rfl _ a [] t (by simpa using ha) fun u => ?_
    simp [hacc]
    have := ih' (acc ++ [countI a x]) (.d (.int x)) u (by simp; omega) (by simpa using h)
    simpa [countI] using this
theorem rng_di (lo : Int) (n : Nat) : rngD lo n = di ((List.range n).map fun i => lo + (i : Nat)) := by
  unfold rngD
  simp
theorem data_counted (as : List Sl) (q : PyData → Prop) (hl : as.length = 2) (h : S_counted as q) : w__law_counted (enD q) (entry ["n", "row", "kind", "thing"] as) := by
  obtain ⟨n, a, rfl, h0, h8, ha, h⟩ := h
  rw [show entry ["n", "row", "kind", "thing"] [.d (.int n), .d (.tuple (di a))] = [.d (.int n), .d (.tuple (di a)), .un, .un] from rfl]
  unfold w__law_counted
  simp only [wRet, wLc, wRng1, wVar, List.getElem?_cons_zero]
  refine ⟨n, rfl, ⟨by omega, by omega⟩, ?_⟩
  rw [rng_di]
  refine counted_lc n a ha _ _ rfl _ _ [] _ _ (by simp; omega) fun t => ?_
  simp only [enD, List.nil_append, List.map_map]
  have e : ((countI a) ∘ fun i : Nat => (0 : Int) + (i : Nat)) = fun k : Nat => countI a k := by
    funext i
    simp
  rw [e]
  have h : q (PyData.list (List.map PyData.int (List.map (fun k : Nat => countI a (k : Int)) (List.range n.toNat)))) := h
  rw [List.map_map] at h
  exact h
/-! ### mixed -/
theorem erase_perm : ∀ {l : List Int} {i : Nat} (h : i < l.length), (l[i] :: l.eraseIdx i).Perm l
  | x :: xs, 0, _ => by simp
  | x :: xs, i + 1, h => by
    have hi : i < xs.length := by simpa using h
    have ih := erase_perm (l := xs) (i := i) hi
    simp only [List.getElem_cons_succ, List.eraseIdx_cons_succ]
    exact (List.Perm.swap x (xs[i]'hi) _).trans (ih.cons x)
def S_mixed : Sd := fun as q => ∃ a : List Int, as = [.loom, .d (.list (di a))] ∧ a.length ≤ 1000 ∧ ∀ b : List Int, b.Perm a → q (.list (di b))
theorem mono_mixed : MonoD S_mixed := fun as q q' h ⟨a, e, x, k⟩ => ⟨a, e, x, fun b p => h _ (k b p)⟩
theorem mixed_wh (a : List Int) (x1 : Sl) (D : En) (h : ∀ b : List Int, b.Perm a → D.nx [.loom, x1, .own (.list []), .own (.list (di b))]) : ∀ (n : Nat) (rest found : List Int), rest.length = n → (found ++ rest).Perm a → a.length ≤ 1000 →
    wWhN (wTst (wOp2 neXD (.s 2) (.v (wC (.list []))))) (wDrop (wApp 3 (wPopAt 2 (wCall S_draw [.loom 0, .e (wOp1 lenD (.s 2))])))) (n + 1) D [.loom, x1, .own (.list (di rest)), .own (.list (di found))] := by
  intro n
  induction n with
  | zero =>
    intro rest found hr hp ha
    have e : rest = [] := List.eq_nil_of_length_eq_zero hr
    subst e
    unfold wWhN
    simp [PyData.eqv, PyData.eqvAll]
    exact h found (by simpa using hp)
  | succ n ih =>
    intro rest found hr hp ha
    unfold wWhN
    generalize hL : wWhN _ _ (n + 1) D = L at ih ⊢
    obtain ⟨y, ys, rfl⟩ : ∃ y ys, rest = y :: ys := by
      cases rest with
      | nil => simp at hr
      | cons y ys => exact ⟨y, ys, rfl⟩
    have hl := hp.length_eq
    simp at hl
    have s1 := shaped_ints (y :: ys)
    simp at s1
    simp [s1, PyData.eqv, PyData.eqvAll, S_draw]
    refine ⟨by omega, fun r hd => ?_⟩
    have hr2 : 0 ≤ r ∧ r < ys.length + 1 := by
      rcases hd with ⟨a, b⟩ | ⟨a, b, c⟩ <;> omega
    have hj : r.toNat < (y :: ys).length := by simp; omega
    have hs : seqIndex? r (ys.length + 1) = some r.toNat := by
      unfold seqIndex?
      simp [show ¬ r < 0 by omega]
      omega
    refine ⟨by omega, by omega, r.toNat, hs, .int ((y :: ys)[r.toNat]), ?_, lt_size1 (by omega), ?_⟩
    · have := List.getElem?_map (f := PyData.int) (l := y :: ys) (i := r.toNat)
      rw [List.getElem?_eq_getElem hj] at this
      simpa using this
    · have e1 : (PyData.int y :: List.map PyData.int ys).eraseIdx r.toNat = di ((y :: ys).eraseIdx r.toNat) := by
        rw [show PyData.int y :: List.map PyData.int ys = List.map PyData.int (y :: ys) from rfl]
        simp only [List.eraseIdx_eq_take_drop_succ, List.map_append, List.map_take, List.map_drop]
      have e2 : di found ++ [PyData.int ((y :: ys)[r.toNat])] = di (found ++ [(y :: ys)[r.toNat]]) := by simp
      rw [e1, e2]
      refine ih _ _ (by rw [List.length_eraseIdx_of_lt hj, hr]; rfl) ?_ ha
      refine List.Perm.trans ?_ hp
      rw [List.append_assoc]
      exact (erase_perm hj).append_left found
theorem data_mixed (as : List Sl) (q : PyData → Prop) (hl : as.length = 2) (h : S_mixed as q) : w__law_mixed S_draw (enD q) (entry ["loom", "things", "rest", "found"] as) := by
  obtain ⟨a, rfl, ha, h⟩ := h
  rw [show entry ["loom", "things", "rest", "found"] [.loom, .d (.list (di a))] = [.loom, .d (.list (di a)), .un, .un] from rfl]
  unfold w__law_mixed
  simp only [wSeq, wParOO, wOp1, Od.run, rdS, wLst, wEs, lstD, List.getElem?_cons_zero, List.getElem?_cons_succ]
  refine ⟨⟨_, rfl⟩, _, rfl, Nat.zero_le _, ?_⟩
  simp only [List.set_cons_succ, List.set_cons_zero, wWh]
  refine ⟨a.length + 1, mixed_wh a _ _ (fun b hb => ?_) a.length a [] rfl (by simp) ha⟩
  simp
  exact h b hb
end K02
namespace K02
open PySem PySem.Spec PyProof.Rows L2 DL
theorem cut_from (a : List Int) (p : Nat) : DL.cutD (di a) (some (p : Int)) none = di (a.drop p) := by
  rw [cut_int, HT.sIx_none, HT.sIx_nat]
  congr 1
  rw [List.take_of_length_le (by rw [List.length_drop]; omega)]
  by_cases h : p ≤ a.length
  · rw [Nat.min_eq_left h]
  · rw [Nat.min_eq_right (by omega), List.drop_eq_nil_of_le (by omega), List.drop_eq_nil_of_le (by omega)]
/-- a row of kinds of n -/
def RowI (n : Int) (a : List Int) : Prop := ∀ i ∈ a, 0 ≤ i ∧ i < n
theorem RowI.sub {n : Int} {a b : List Int} (h : RowI n a) (k : ∀ i ∈ b, i ∈ a) : RowI n b := fun i hi => h i (k i hi)
theorem RowI.app {n : Int} {a b : List Int} (h : RowI n a) (k : RowI n b) : RowI n (a ++ b) := fun i hi => (List.mem_append.mp hi).elim (h i) (k i)
theorem RowI.one {n i : Int} (h : 0 ≤ i ∧ i < n) : RowI n [i] := fun j hj => by
  rw [List.mem_singleton.mp hj]
  exact h
theorem RowI.take {n : Int} {a : List Int} (h : RowI n a) (k : Nat) : RowI n (a.take k) := h.sub fun i hi => List.mem_of_mem_take hi
theorem RowI.drop {n : Int} {a : List Int} (h : RowI n a) (k : Nat) : RowI n (a.drop k) := h.sub fun i hi => List.mem_of_mem_drop hi
theorem drawn_in {n r : Int} (h1 : 1 ≤ n) (h : drawn n r) : 0 ≤ r ∧ r < n := by
  rcases h with ⟨a, b⟩ | ⟨a, b, c⟩ <;> omega
def tups (l : List (List Int)) : List PyData := l.map fun b => .tuple (di b)
def S_near : Sd := fun as q => ∃ (n : Int) (a : List Int), as = [.loom, .d (.int n), .d (.tuple (di a))] ∧ 1 ≤ n ∧ n ≤ 8 ∧ RowI n a ∧ a.length ≤ 12 ∧ ∀ l : List (List Int), l.length = 7 → (∀ b ∈ l, RowI n b ∧ b.length ≤ 13) → q (.list (tups l))
theorem mono_near : MonoD S_near := fun as q q' h ⟨n, a, e, x, y, z, w, k⟩ => ⟨n, a, e, x, y, z, w, fun l h1 h2 => h _ (k l h1 h2)⟩
theorem data_near (as : List Sl) (q : PyData → Prop) (hl : as.length = 3) (h : S_near as q) : w__law_near S_draw S_mixed (enD q) (entry ["loom", "n", "row", "spot", "found"] as) := by
  obtain ⟨n, a, rfl, h1, h8, hr, ha, h⟩ := h
  rw [show entry ["loom", "n", "row", "spot", "found"] [.loom, .d (.int n), .d (.tuple (di a))] = [.loom, .d (.int n), .d (.tuple (di a)), .un, .un] from rfl]
  unfold w__law_near
  simp [S_draw, S_mixed]
  refine ⟨by omega, fun r hrd => ?_⟩
  have hr2 : 0 ≤ r ∧ r ≤ a.length := by
    rcases hrd with ⟨x, y⟩ | ⟨x, y, z⟩ <;> omega
  obtain ⟨s, rfl⟩ : ∃ s : Nat, r = (s : Int) := ⟨r.toNat, by omega⟩
  refine ⟨a, rfl, by omega, fun b hb => ⟨a, rfl, fun c hc _ => ⟨by omega, fun d hd => ⟨size_small (by omega), ?_⟩⟩⟩⟩
  have t1 := cut_to a s (by omega)
  have f0 := cut_from a s
  have f1 : DL.cutD (di a) (some ((s : Int) + 1)) none = di (a.drop (s + 1)) := cut_from a (s + 1)
  rw [t1, f0, f1]
  simp only [List.length_map, List.length_take, List.length_drop]
  refine ⟨size_small (by omega), lt_size1 (by omega), by omega, fun r hr3 => ⟨size_small (by omega), size_small (by omega), lt_size1 (by omega), size_small (by omega), ?_⟩⟩
  have hd2 := drawn_in h1 hd
  have hr4 := drawn_in h1 hr3
  have := h [b, c, a.reverse, a ++ [d], a.take s ++ a.drop (s + 1), a.take s ++ (r :: a.drop (s + 1)), a.drop s ++ a.take s] rfl (fun x hx => by
    simp only [List.mem_cons, List.not_mem_nil, or_false] at hx
    rcases hx with rfl | rfl | rfl | rfl | rfl | rfl | rfl
    · exact ⟨hr.sub fun i hi => hb.mem_iff.mp hi, by rw [hb.length_eq]; omega⟩
    · exact ⟨hr.sub fun i hi => hc.mem_iff.mp hi, by rw [hc.length_eq]; omega⟩
    · exact ⟨hr.sub fun i hi => List.mem_reverse.mp hi, by rw [List.length_reverse]; omega⟩
    · exact ⟨hr.app (.one hd2), by simp; omega⟩
    · exact ⟨(hr.take s).app (hr.drop _), by simp; omega⟩
    · exact ⟨(hr.take s).app (RowI.app (a := [r]) (.one hr4) (hr.drop (s + 1))), by simp; omega⟩
    · exact ⟨(hr.drop s).app (hr.take s), by simp; omega⟩)
  simpa [tups, List.map_reverse] using this
end K02
namespace K02
open PySem PySem.Spec PyProof.Rows L2 DL
/-! ### sunk -/
def downL : Nat → List PyData
  | 0 => []
  | k + 1 => .int ((k : Int) + 1) :: downL k
theorem rngC_down : ∀ k : Nat, rngC (k : Int) (-1) k = downL k := by
  have go : ∀ k : Nat, ∀ c : Int, c = k → (List.range k).map (fun i : Nat => PyData.int (c + (i : Nat) * -1)) = downL k := by
    intro k
    induction k with
    | zero => intro c _; rfl
    | succ k ih =>
      intro c hc
      rw [List.range_succ_eq_map, List.map_cons, List.map_map]
      unfold downL
      congr 1
      · subst hc
        simp
      · rw [← ih (c - 1) (by omega)]
        congr 1
        funext i
        simp only [Function.comp]
        congr 1
        simp
        omega
  intro k
  exact go k k rfl
theorem set_app (A R : List Int) (a x : Int) : (A ++ a :: R).set A.length x = A ++ x :: R := by
  induction A with
  | nil => rfl
  | cons y ys ih => simp [ih]
theorem ix_nat {n k : Nat} (h : k < n) : L2.ixN n (k : Int) = some k := by
  unfold L2.ixN
  simp
  omega
abbrev bodyS : WS := (wIfS (wTst (wOp2 gtD (.v (wOp2 ixD (.s 1) (.v (wOp2 subD (.s 4) (.v (wC (.int 1))))))) (.v (wOp2 ixD (.s 1) (.s 4))))) (wAsg (wTup [wOp2 ixD (.s 1) (.s 4), wOp2 ixD (.s 1) (.v (wOp2 subD (.s 4) (.v (wC (.int 1))))), wOp2 addD (.s 2) (.v (wC (.int 1)))]) (wgTup 3 (wgCons (wgSubO 1 (wOp2 subD (.s 4) (.v (wC (.int 1))))) (wgCons (wgSubO 1 (wVar 4)) (wgCons (wgName 2) (wgNil)))))) (wNx))
def above (A : List Int) (z : Int) : Nat := (A.filter fun x => decide (z < x)).length
theorem sunk_in (row : Sl) (s3 : Sl) (S : List Int) (D : En) : ∀ (s : Nat) (A : List Int) (z : Int) (B : List Int) (m : Int) (s4 : Sl), A.length = s → (A ++ B).Pairwise (· ≤ ·) → (∀ b ∈ B, z ≤ b) →
    (∀ (L : List Int) (s4 : Sl), L.Pairwise (· ≤ ·) → L.Perm (A ++ z :: B) → D.nx [row, .own (.list (di (L ++ S))), .d (.int (m + above A z)), s3, s4]) →
    wLoop (wgName 4) bodyS (downL s) D [row, .own (.list (di (A ++ z :: (B ++ S)))), .d (.int m), s3, s4] := by
  intro s
  induction s with
  | zero =>
    intro A z B m s4 hA hs hz h
    have e : A = [] := List.eq_nil_of_length_eq_zero hA
    subst e
    have := h (z :: B) s4 (List.pairwise_cons.mpr ⟨hz, by simpa using hs⟩) (by simp)
    simpa [downL, wLoop_nil, above] using this
  | succ s ih =>
    intro A z B m s4 hA hs hz h
    obtain ⟨A', a, rfl⟩ : ∃ A' a, A = A' ++ [a] := by
      rcases List.eq_nil_or_concat A with e | ⟨l, a, e⟩
      · subst e
        simp at hA
      · exact ⟨l, a, by simpa using e⟩
    have hA' : A'.length = s := by simpa using hA
    rw [downL, wLoop_cons]
    have ih' := fun z B m s4 => ih A' z B m s4 hA'
    generalize wLoop _ _ (downL s) D = L at ih' ⊢
    have eL : A' ++ [a] ++ z :: (B ++ S) = A' ++ a :: z :: (B ++ S) := by simp
    rw [eL]
    have g1 : L2.atI (di (A' ++ a :: z :: (B ++ S))) (s : Int) = some (.int a) := L2.atI_nat (by subst hA'; simp)
    have g2 : L2.atI (di (A' ++ a :: z :: (B ++ S))) ((s : Int) + 1) = some (.int z) := by
      have := L2.atI_nat (xs := di (A' ++ a :: z :: (B ++ S))) (j := s + 1) (v := .int z) (by subst hA'; simp)
      simpa using this
    have ab : above (A' ++ [a]) z = above A' z + if z < a then 1 else 0 := by
      unfold above
      rw [List.filter_append, List.length_append]
      by_cases hz : z < a <;> simp [hz]
    have hs1 : (A' ++ a :: B).Pairwise (· ≤ ·) := by simpa using hs
    have p1 := List.pairwise_append.mp hs1
    have hB := List.pairwise_cons.mp p1.2.1
    have i1 : L2.ixN (di (A' ++ a :: z :: (B ++ S))).length (s : Int) = some s := ix_nat (by subst hA'; simp)
    have i2 : L2.ixN (di (A' ++ a :: z :: (B ++ S))).length ((s : Int) + 1) = some (s + 1) := ix_nat (k := s + 1) (by subst hA'; simp)
    have e1 : ((di (A' ++ a :: z :: (B ++ S))).set s (.int z)).set (s + 1) (.int a) = di (A' ++ z :: a :: (B ++ S)) := by
      rw [← List.map_set, ← List.map_set]
      congr 1
      subst hA'
      rw [set_app]
      have := set_app (A' ++ [z]) (B ++ S) z a
      simp only [List.append_assoc, List.cons_append, List.nil_append, List.length_append, List.length_cons, List.length_nil] at this
      exact this
    have le_a : ∀ x ∈ A', x ≤ a := fun x hx => p1.2.2 x hx a List.mem_cons_self
    have none_above : ∀ y : Int, a ≤ y → above A' y = 0 := fun y hy => by
      unfold above
      rw [List.length_eq_zero_iff, List.filter_eq_nil_iff]
      intro x hx
      have := le_a x hx
      simp
      omega
    have stay : a ≤ z → L [row, .own (.list (di (A' ++ a :: z :: (B ++ S)))), .d (.int m), s3, .d (.int ((s : Int) + 1))] := fun haz => by
      refine ih' a (z :: B) m _ ?_ ?_ fun L' s4 h1 h2 => ?_
      · refine List.pairwise_append.mpr ⟨p1.1, List.pairwise_cons.mpr ⟨hz, hB.2⟩, fun x hx y hy => ?_⟩
        have := le_a x hx
        rcases List.mem_cons.mp hy with e | e
        · omega
        · exact p1.2.2 x hx y (List.mem_cons_of_mem _ e)
      · intro b hb
        rcases List.mem_cons.mp hb with e | e
        · omega
        · exact hB.1 b e
      · have := h L' s4 h1 (by simpa using h2)
        rw [none_above a (Int.le_refl _)]
        rw [ab, none_above z haz, if_neg (by omega)] at this
        exact this
    have move : z < a → L [row, .own (.list (di (A' ++ z :: a :: (B ++ S)))), .d (.int (m + 1)), s3, .d (.int ((s : Int) + 1))] := fun haz => by
      refine ih' z (a :: B) (m + 1) _ hs1 ?_ fun L' s4 h1 h2 => ?_
      · intro b hb
        rcases List.mem_cons.mp hb with e | e
        · omega
        · exact hz b e
      · have := h L' s4 h1 (h2.trans (by simpa using (List.Perm.swap a z B).append_left A'))
        rw [ab, if_pos haz] at this
        have e : m + 1 + (above A' z : Int) = m + ((above A' z + 1 : Nat) : Int) := by omega
        rw [e]
        exact this
    generalize hLL : di (A' ++ a :: z :: (B ++ S)) = LL at g1 g2 i1 i2 e1 ⊢
    simp [g1, g2, i1, i2, e1, and_assoc]
    by_cases haz : a ≤ z
    · refine .inl ⟨haz, ?_⟩
      rw [← hLL]
      exact stay haz
    · exact .inr ⟨by omega, by simpa using move (by omega)⟩
def upD : Nat → Nat → List PyData
  | _, 0 => []
  | e, k + 1 => .int (e : Int) :: upD (e + 1) k
theorem rngD_up : ∀ n : Nat, rngD 0 n = upD 0 n := by
  have go : ∀ k e : Nat, (List.range k).map (fun i : Nat => PyData.int ((e : Int) + (i : Nat))) = upD e k := by
    intro k
    induction k with
    | zero => intro e; rfl
    | succ k ih =>
      intro e
      rw [List.range_succ_eq_map, List.map_cons, List.map_map]
      unfold upD
      have ih := ih (e + 1)
      rw [← ih]
      refine List.cons_eq_cons.mpr ⟨by simp, ?_⟩
      · refine List.map_congr_left fun i _ => ?_
        show PyData.int ((e : Int) + ((i + 1 : Nat) : Int)) = PyData.int (((e + 1 : Nat) : Int) + (i : Nat))
        congr 1
        omega
  intro n
  exact go n 0
def tot (a : List Int) (e : Nat) : Nat := ((List.range e).map (fallsAt a)).sum
theorem tot_succ (a : List Int) (e : Nat) : tot a (e + 1) = tot a e + fallsAt a e := by
  unfold tot
  rw [List.range_succ, List.map_append, List.sum_append]
  simp
theorem above_perm {A B : List Int} (h : A.Perm B) (z : Int) : above A z = above B z := (h.filter _).length_eq
def S_sunk : Sd := fun as q => ∃ a : List Int, as = [.d (.tuple (di a))] ∧ a.length ≤ 1000 ∧ ∀ L : List Int, L.Perm a → L.Pairwise (· ≤ ·) → q (.tuple [.tuple (di L), .int (tot a a.length : Nat)])
theorem mono_sunk : MonoD S_sunk := fun as q q' h ⟨a, e, x, k⟩ => ⟨a, e, x, fun L h1 h2 => h _ (k L h1 h2)⟩
theorem sunk_out (row : Sl) (a : List Int) (ha : a.length ≤ 1000) (D : En) (h : ∀ (L : List Int) (s3 s4 : Sl), L.Perm a → L.Pairwise (· ≤ ·) → D.nx [row, .own (.list (di L)), .d (.int (tot a a.length : Nat)), s3, s4]) : ∀ (k e : Nat) (P : List Int) (s3 s4 : Sl), e + k = a.length → P.Perm (a.take e) → P.Pairwise (· ≤ ·) →
    wLoop (wgName 3) (wFor (wRng3 [wVar 3, wC (.int 0), wC (.int (-1))]) (wgName 4) bodyS) (upD e k) D [row, .own (.list (di (P ++ a.drop e))), .d (.int (tot a e : Nat)), s3, s4] := by
  intro k
  induction k with
  | zero =>
    intro e P s3 s4 he hp hs
    have e1 : e = a.length := by omega
    subst e1
    rw [List.take_length] at hp
    have := h P s3 s4 hp hs
    simpa [upD, wLoop_nil] using this
  | succ k ih =>
    intro e P s3 s4 he hp hs
    rw [upD, wLoop_cons]
    have ih' := fun P s3 s4 => ih (e + 1) P s3 s4 (by omega)
    generalize wLoop _ _ (upD (e + 1) k) D = L at ih' ⊢
    have hlt : e < a.length := by omega
    have hPl : P.length = e := by rw [hp.length_eq, List.length_take]; omega
    have ed : a.drop e = a[e] :: a.drop (e + 1) := List.drop_eq_getElem_cons hlt
    rw [ed]
    simp only [wgName, wFor, wRng3, wEs, wVar, wC, List.set_cons_succ, List.set_cons_zero, List.getElem?_cons_succ, List.getElem?_cons_zero]
    refine ⟨(e : Int), 0, -1, e, rfl, RgC.neg (by omega) (by omega) (by omega) (by omega), ?_⟩
    rw [rngC_down]
    have := sunk_in row (.d (.int (e : Int))) (a.drop (e + 1)) { D with nx := L, ct := L, bk := D.nx } e P a[e] [] (tot a e : Nat) s4 hPl (by simpa using hs) (fun b hb => absurd hb (by simp)) fun L' s4 h1 h2 => ?_
    · simpa using this
    · have hp2 : L'.Perm (a.take (e + 1)) := by
        rw [List.take_add_one, List.getElem?_eq_getElem hlt]
        exact h2.trans (hp.append_right _)
      have := ih' L' (.d (.int (e : Int))) s4 hp2 h1
      have e2 : ((tot a (e + 1) : Nat) : Int) = (tot a e : Nat) + (above P a[e] : Nat) := by
        rw [tot_succ, above_perm hp]
        unfold fallsAt above
        simp [List.getElem?_eq_getElem hlt]
      rw [e2] at this
      exact this
theorem data_sunk (as : List Sl) (q : PyData → Prop) (hl : as.length = 1) (h : S_sunk as q) : w__law_sunk (enD q) (entry ["row", "left", "many", "end", "spot"] as) := by
  obtain ⟨a, rfl, ha, h⟩ := h
  rw [show entry ["row", "left", "many", "end", "spot"] [.d (.tuple (di a))] = [.d (.tuple (di a)), .un, .un, .un, .un] from rfl]
  unfold w__law_sunk
  simp only [wSeq, wParOD, wOp1, Od.run, rdS, lstD, wC, List.getElem?_cons_zero, List.getElem?_cons_succ]
  refine ⟨⟨_, rfl⟩, _, rfl, ?_⟩
  simp only [List.set_cons_succ, List.set_cons_zero]
  rw [wFor]
  simp only [wRng1, wOp1, Od.run, rdS, lenD, List.getElem?_cons_zero, List.getElem?_cons_succ]
  refine ⟨⟨_, rfl⟩, _, rfl, _, rfl, ⟨by omega, by simp; omega⟩, ?_⟩
  have e : ((di a).length : Int).toNat = a.length := by simp
  rw [e, rngD_up]
  refine sunk_out _ a ha _ (fun L s3 s4 h1 h2 => ?_) a.length 0 [] _ _ (by simp) (by simp) List.Pairwise.nil
  have := h L h1 h2
  simpa using this
end K02
namespace K02
open PySem PySem.Spec PyProof.Rows L2 DL
/-! ### so -/
def fl (b : List Int) : Nat → Nat → List Int
  | _, 0 => []
  | e, k + 1 => (fallsAt b e : Nat) :: fl b (e + 1) k
theorem fl_mem {b : List Int} : ∀ {k e : Nat} {x : Int}, x ∈ fl b e k → ∃ p : Nat, p < e + k ∧ e ≤ p ∧ x = (fallsAt b p : Nat)
  | k + 1, e, x, h => by
    rcases List.mem_cons.mp h with z | z
    · exact ⟨e, by omega, Nat.le_refl _, z⟩
    · obtain ⟨p, h1, h2, h3⟩ := fl_mem (k := k) z
      exact ⟨p, by omega, by omega, h3⟩
theorem fl_has {b : List Int} : ∀ {k e p : Nat}, e ≤ p → p < e + k → ((fallsAt b p : Nat) : Int) ∈ fl b e k
  | 0, e, p, h1, h2 => by omega
  | k + 1, e, p, h1, h2 => by
    unfold fl
    by_cases z : p = e
    · subst z
      exact List.mem_cons_self
    · exact List.mem_cons_of_mem _ (fl_has (by omega) (by omega))
theorem fl_len (b : List Int) : ∀ k e : Nat, (fl b e k).length = k
  | 0, _ => rfl
  | k + 1, e => congrArg (· + 1) (fl_len b k (e + 1))
theorem falls_le (b : List Int) (p : Nat) : fallsAt b p ≤ b.length := by
  unfold fallsAt
  refine Nat.le_trans (List.length_filter_le _ _) ?_
  rw [List.length_take]
  omega
section
variable {s0 s1 s3 s4 s5 s6 s8 s9 s10 : Sl}
theorem fl_lc1 (b : List Int) (hb : b.length ≤ 1000) (ρ0 : Sls) (h0 : ρ0 = [s0, s1, .d (.tuple (di b)), s3, s4, s5, s6, .un, s8, s9, s10]) (Q : List PyData → Sls → Prop) : ∀ (k e : Nat) (acc : List Int) (s7 : Sl), e + k = b.length → acc.length ≤ e → Q (di (acc ++ fl b e k)) [s0, s1, .d (.tuple (di b)), s3, s4, s5, s6, .un, s8, s9, s10] →
    wLcL (wgName 7) (wYes) (wCall S_falls [.e (wVar 2), .e (wVar 7)]) [7] ρ0 (upD e k) (di acc) [s0, s1, .d (.tuple (di b)), s3, s4, s5, s6, s7, s8, s9, s10] Q := by
  intro k
  induction k with
  | zero =>
    intro e acc s7 he hl h
    rw [upD, wLcL_nil]
    subst h0
    have h' : Q (di acc) [s0, s1, .d (.tuple (di b)), s3, s4, s5, s6, .un, s8, s9, s10] := by simpa [fl] using h
    exact h'
  | succ k ih =>
    intro e acc s7 he hl h
    rw [upD, wLcL_cons]
    have ih' := fun acc s => ih (e + 1) acc s
    generalize wLcL _ _ _ _ _ (upD (e + 1) k) = L at ih' ⊢
    have hacc : acc.length < sizeLine := lt_size1 (by omega)
    simp [S_falls, hacc]
    refine ⟨b, e, ⟨rfl, rfl⟩, by omega, hb, ?_⟩
    simpa using ih' (acc ++ [((fallsAt b e : Nat) : Int)]) (.d (.int (e : Int))) (by omega) (by simp; omega) (by simpa [fl] using h)
theorem fl_lc2 (b : List Int) (c : Bool) (hb : b.length ≤ 1000) (ρ0 : Sls) (h0 : ρ0 = [s0, s1, .d (.tuple (di b)), .d (.bool c), s4, s5, s6, .un, s8, s9, s10]) (Q : List PyData → Sls → Prop) : ∀ (k e : Nat) (acc : List Int) (s7 : Sl), e + k = b.length → acc.length ≤ e → Q (di (acc ++ fl b e k)) [s0, s1, .d (.tuple (di b)), .d (.bool c), s4, s5, s6, .un, s8, s9, s10] →
    wLcL (wgName 7) (wYes) (wIf (wTst (wVar 3)) (wCallK S_falls (0, 2, [1, 0]) [] [.e (wVar 7), .e (wVar 2)]) (wCall S_falls [.e (wVar 2), .e (wVar 7)])) [7] ρ0 (upD e k) (di acc) [s0, s1, .d (.tuple (di b)), .d (.bool c), s4, s5, s6, s7, s8, s9, s10] Q := by
  intro k
  induction k with
  | zero =>
    intro e acc s7 he hl h
    rw [upD, wLcL_nil]
    subst h0
    have h' : Q (di acc) [s0, s1, .d (.tuple (di b)), .d (.bool c), s4, s5, s6, .un, s8, s9, s10] := by simpa [fl] using h
    exact h'
  | succ k ih =>
    intro e acc s7 he hl h
    rw [upD, wLcL_cons]
    have ih' := fun acc s => ih (e + 1) acc s
    generalize wLcL _ _ _ _ _ (upD (e + 1) k) = L at ih' ⊢
    have hacc : acc.length < sizeLine := lt_size1 (by omega)
    have pe : perm (0, 2, [1, 0]) ([] : List Sl) [.d (.int (e : Int)), .d (.tuple (di b))] = [.d (.tuple (di b)), .d (.int (e : Int))] := rfl
    have next := ih' (acc ++ [((fallsAt b e : Nat) : Int)]) (.d (.int (e : Int))) (by omega) (by simp; omega) (by simpa [fl] using h)
    cases c <;> simp [S_falls, hacc, pe] <;> exact ⟨b, e, ⟨rfl, rfl⟩, by omega, hb, by simpa using next⟩
/-- those above nothing -/
theorem own_lc (F0 : List Int) (ρ0 : Sls) (h0 : ρ0 = [s0, s1, s3, s4, s5, s6, s8, .un, .own (.list (di F0)), .un, s10]) (Q : List PyData → Sls → Prop) : ∀ (xs acc : List Int) (s : Sl), acc.length + xs.length ≤ 1000 → Q (di (acc ++ xs.filter fun x => decide (0 < x))) [s0, s1, s3, s4, s5, s6, s8, .un, .d (.list (di F0)), .un, s10] →
    wLcL (wgName 9) (wTst (wOp2 gtD (.s 9) (.v (wC (.int 0))))) (wVar 9) [9] [s0, s1, s3, s4, s5, s6, s8, .un, .d (.list (di F0)), .un, s10] (di xs) (di acc) [s0, s1, s3, s4, s5, s6, s8, .un, .d (.list (di F0)), s, s10] Q := by
  intro xs
  induction xs with
  | nil =>
    intro acc s hl h
    rw [show di [] = [] from rfl, wLcL_nil]
    have h' : Q (di acc) [s0, s1, s3, s4, s5, s6, s8, .un, .d (.list (di F0)), .un, s10] := by simpa using h
    exact h'
  | cons x r ih =>
    intro acc s hl h
    rw [show di (x :: r) = .int x :: di r from rfl, wLcL_cons]
    have ih' := fun acc s => ih acc s
    generalize wLcL _ _ _ _ _ (di r) = L at ih' ⊢
    simp at hl
    have hacc : acc.length < sizeLine := lt_size1 (by omega)
    simp [hacc]
    by_cases hx : 0 < x
    · exact .inr ⟨hx, by simpa using ih' (acc ++ [x]) (.d (.int x)) (by simp; omega) (by simpa [hx] using h)⟩
    · exact .inl ⟨by omega, ih' acc _ (by omega) (by simpa [hx] using h)⟩
end
/-! facts of rows -/
theorem count_iff {n : Int} {a b : List Int} (h0 : 0 ≤ n) (ha : RowI n a) (hb : RowI n b) : decide (((List.range n.toNat).map fun k : Nat => countI a (k : Int)) = ((List.range n.toNat).map fun k : Nat => countI b (k : Int))) = a.isPerm b := by
  rw [Bool.eq_iff_iff, decide_eq_true_eq, List.isPerm_iff, List.perm_iff_count]
  have cnt : ∀ (c : List Int) (x : Int), countI c x = (c.count x : Nat) := fun c x => by
    unfold countI
    rw [List.count_eq_countP, List.countP_eq_length_filter]
  constructor
  · intro h x
    by_cases hx : 0 ≤ x ∧ x < n
    · have := List.map_inj_left.mp h x.toNat (List.mem_range.mpr (by omega))
      simp only [cnt] at this
      have e : ((x.toNat : Nat) : Int) = x := by omega
      rw [e] at this
      omega
    · rw [List.count_eq_zero.mpr fun z => hx (ha x z), List.count_eq_zero.mpr fun z => hx (hb x z)]
  · intro h
    refine List.map_inj_left.mpr fun k _ => ?_
    rw [cnt, cnt, h]
theorem rising_falls (b : List Int) : decide (((fl b 0 b.length).filter fun x => decide (0 < x)) = []) = risingB b := by
  unfold risingB
  rw [Bool.eq_iff_iff, decide_eq_true_eq, decide_eq_true_eq, List.filter_eq_nil_iff, List.pairwise_iff_getElem]
  constructor
  · intro h i j hi hj hij
    have := h _ (fl_has (b := b) (k := b.length) (e := 0) (p := j) (Nat.zero_le _) (by omega))
    have z : fallsAt b j = 0 := by
      simp at this
      omega
    unfold fallsAt at z
    rw [List.length_eq_zero_iff, List.filter_eq_nil_iff] at z
    have := z b[i] (by
      rw [List.mem_take_iff_getElem]
      exact ⟨i, by omega, rfl⟩)
    simp [List.getElem?_eq_getElem hj] at this
    exact this
  · intro h x hx
    obtain ⟨p, h1, _, rfl⟩ := fl_mem hx
    have hp : p < b.length := by omega
    have : fallsAt b p = 0 := by
      unfold fallsAt
      rw [List.length_eq_zero_iff, List.filter_eq_nil_iff]
      intro y hy
      rw [List.mem_take_iff_getElem] at hy
      obtain ⟨i, hi, rfl⟩ := hy
      have := h i p (by omega) hp (by omega)
      simp [List.getElem?_eq_getElem hp]
      exact this
    simp [this]
end K02
namespace K02
open PySem PySem.Spec PyProof.Rows L2 DL
def S_so : Sd := fun as q => ∃ (n : Int) (a b : List Int) (c : Bool), as = [.d (.int n), .d (.tuple (di a)), .d (.tuple (di b)), .d (.bool c)] ∧ 1 ≤ n ∧ n ≤ 8 ∧ RowI n a ∧ RowI n b ∧ a.length ≤ 61 ∧ b.length ≤ 61 ∧ q (.bool true)
theorem mono_so : MonoD S_so := fun as q q' h ⟨n, a, b, c, e, x1, x2, x3, x4, x5, x6, k⟩ => ⟨n, a, b, c, e, x1, x2, x3, x4, x5, x6, h _ k⟩
theorem row_sz {n : Int} {a : List Int} (h8 : n ≤ 100) (h : RowI n a) : SzA 0 (5 * a.length) (di a) := SzA.all (n := 3) (fun d hd => by
  obtain ⟨i, hi, rfl⟩ := List.mem_map.mp hd
  exact sz_int (h i hi).1 (by have := (h i hi).2; omega)) (by simp)
theorem show3 (B : Bool) : (PyData.list [.bool B, .bool B, .bool B]).shown = (((((("[" : Str) ++ (PyData.bool B).shown) ++ ", ") ++ (PyData.bool B).shown) ++ ", ") ++ (PyData.bool B).shown) ++ "]" := by
  cases B <;> decide +kernel
theorem bool_ok (B : Bool) : (PyData.bool B).showable = true ∧ (PyData.bool B).depth ≤ 60 ∧ (PyData.bool B).shown.length ≤ sizeLine := by
  cases B <;> exact (szB_ok (m := 0) (n := 5) (by decide +kernel)).ok (by decide) (by decide)
theorem bool_len (B : Bool) : (PyData.bool B).shown.length ≤ 5 := shown_le (.bool B)
theorem bool3_ok (B : Bool) : (PyData.list [.bool B, .bool B, .bool B]).showable = true ∧ (PyData.list [.bool B, .bool B, .bool B]).depth ≤ 60 ∧ (PyData.list [.bool B, .bool B, .bool B]).shown.length ≤ sizeLine := by
  cases B <;> exact (szB_ok (m := 1) (n := 40) (by decide +kernel)).ok (by decide) (by decide)
theorem if_congr_prop {c : Bool} {P : Prop} (h : P) : (if c = true then P else P) ↔ True := by
  cases c <;> simp [h]
theorem data_so (as : List Sl) (q : PyData → Prop) (hl : as.length = 4) (h : S_so as q) : w__law_is_so S_counted S_same S_falls S_falls S_rising (enD q) (entry ["n", "row", "other", "is_named", "stood", "due", "told", "place", "falls", "own", "seen"] as) := by
  obtain ⟨n, a, b, c, rfl, h1, h8, ha, hb, la, lb, h⟩ := h
  rw [show entry ["n", "row", "other", "is_named", "stood", "due", "told", "place", "falls", "own", "seen"] [.d (.int n), .d (.tuple (di a)), .d (.tuple (di b)), .d (.bool c)] = [.d (.int n), .d (.tuple (di a)), .d (.tuple (di b)), .d (.bool c), .un, .un, .un, .un, .un, .un, .un] from rfl]
  have za := row_sz (by omega) ha
  have zb := row_sz (by omega) hb
  have z2 : Sz 2 1000 (.list [.tuple (di a), .tuple (di b)]) := by
    have z : SzA 1 (400 + 2 + (400 + 2 + 0)) [.tuple (di a), .tuple (di b)] := .cons (za.tup (by omega)) (.cons (zb.tup (by omega)) .nil)
    exact z.lst (by decide)
  obtain ⟨w1, w2, w3⟩ := z2.ok (by decide) (by decide)
  have fz : ∀ k, k ≤ 61 → SzA 0 400 (di (fl b 0 k)) := fun k hk => (SzA.all (n := 3) (k := 61) (fun d hd => by
    obtain ⟨i, hi, rfl⟩ := List.mem_map.mp hd
    obtain ⟨p, _, _, rfl⟩ := fl_mem hi
    have := falls_le b p
    exact sz_int (by omega) (by omega)) (by rw [List.length_map, fl_len]; exact hk)).le (Nat.le_refl _) (by decide)
  obtain ⟨f1, f2, f3⟩ := ((fz b.length lb).lst (k := 500) (by decide)).ok (by decide) (by decide)
  obtain ⟨b1, b2, b3⟩ := bool_ok (a.isPerm b)
  obtain ⟨r1, r2, r3⟩ := bool_ok (risingB b)
  obtain ⟨t1, t2, t3⟩ := bool3_ok (risingB b)
  have hsym : b.isPerm a = a.isPerm b := by
    rw [Bool.eq_iff_iff, List.isPerm_iff, List.isPerm_iff]
    exact ⟨List.Perm.symm, List.Perm.symm⟩
  have s2 : ∀ {k : Nat}, k ≤ 1000 → k ≤ sizeLine := fun h => size_small h
  have pe : perm (0, 2, [1, 0]) ([] : List Sl) [.d (.tuple (di b)), .d (.tuple (di a))] = [.d (.tuple (di a)), .d (.tuple (di b))] := rfl
  have pe1 : perm (0, 1, [0]) ([] : List Sl) [.d (.tuple (di b))] = [.d (.tuple (di b))] := rfl
  unfold w__law_is_so
  rw [wSeq]
  simp only [wPar, wEs, wOp1, wOp2, Od.run, wLst, wVar, List.getElem?_cons_zero, List.getElem?_cons_succ]
  refine ⟨(show 2 ≤ sizeLine by decide), _, rfl, w1, w2, w3, ?_⟩
  simp [S_counted]
  refine ⟨_, a, ⟨rfl, rfl⟩, by omega, h8, by omega, _, b, ⟨rfl, rfl⟩, by omega, h8, by omega, ?_⟩
  simp only [← List.map_map]
  refine ⟨shaped_ints _, shaped_ints _, _, _, ⟨rfl, rfl⟩, ?_⟩
  rw [show List.map PyData.int ((List.range n.toNat).map fun k : Nat => countI a (k : Int)) = di _ from rfl, show List.map PyData.int ((List.range n.toNat).map fun k : Nat => countI b (k : Int)) = di _ from rfl, eqv_ints, count_iff (by omega) ha hb]
  have same : ∀ {q : PyData → Prop}, q (.bool (a.isPerm b)) → S_same [.d (.tuple (di a)), .d (.tuple (di b))] q := fun h => ⟨a, b, rfl, h⟩
  have same' : ∀ {q : PyData → Prop}, q (.bool (a.isPerm b)) → S_same [.d (.tuple (di b)), .d (.tuple (di a))] q := fun h => ⟨b, a, rfl, hsym ▸ h⟩
  rw [pe]
  refine (if_congr_prop (c := c) (same ?_)).mpr trivial
  refine ⟨b1, b2, b3, b1, b2, b3, .inl ⟨rfl, same' ⟨b1, b2, b3, b1, b2, b3, .inl ⟨rfl, ⟨by omega, by omega⟩, ?_⟩⟩⟩⟩
  rw [rngD_up]
  refine fl_lc1 b (by omega) _ rfl _ b.length 0 [] _ (by simp) (by simp) ?_
  rw [List.nil_append]
  simp only [List.set_cons_succ, List.set_cons_zero, List.getElem?_cons_zero, List.getElem?_cons_succ]
  refine ⟨⟨_, rfl⟩, _, rfl, _, rfl, (show Fit62 ((di b).length : Int) by rw [List.length_map]; exact ⟨by omega, by omega⟩), ?_⟩
  rw [show ((di b).length : Int).toNat = b.length by simp, rngD_up]
  refine fl_lc2 b c (by omega) _ rfl _ b.length 0 [] _ (by simp) (by simp) ?_
  rw [List.nil_append]
  have hF : (fl b 0 b.length).length = b.length := fl_len b b.length 0
  have hR := rising_falls b
  generalize fl b 0 b.length = F at f1 f2 f3 hF hR ⊢
  simp only [List.set_cons_succ, List.set_cons_zero, List.getElem?_cons_zero, List.getElem?_cons_succ]
  refine ⟨⟨_, rfl⟩, _, rfl, f1, f2, f3, ⟨_, rfl⟩, _, rfl, f1, f2, f3, .inl ⟨rfl, _, rfl, ?_⟩⟩
  refine own_lc F _ rfl _ F [] _ (by simp; omega) ?_
  rw [List.nil_append]
  generalize hO : F.filter (fun x => decide (0 < x)) = O at hR ⊢
  have hO2 : PyData.eqv (.list (di O)) (.list []) = risingB b := by
    rw [← hR]
    exact eqv_ints O []
  have hO3 := shaped_ints O
  simp [hO2, hO3, r1, r2, r3, S_rising, pe1]
  refine ⟨b, rfl, b, rfl, b, rfl, fun b' p s => ?_⟩
  have e3 : PyData.eqv (.list (di b)) (.list (di b')) = risingB b := by
    rw [eqv_ints, ← sorted_same p s, Bool.eq_iff_iff, decide_eq_true_eq, decide_eq_true_eq]
    exact ⟨Eq.symm, Eq.symm⟩
  rw [e3, ← show3 (risingB b)]
  have t := bool_len (risingB b)
  have l1 : (Str.ofString "[").length = 1 := by decide
  have l2 : (Str.ofString ", ").length = 2 := by decide
  have l3 : (Str.ofString "]").length = 1 := by decide
  simp only [strLen_append, l1, l2, l3]
  refine ⟨shaped_ints b, shaped_ints b', t1, t2, t3, size_small (by omega), size_small (by omega), size_small (by omega), size_small (by omega), size_small (by omega), size_small (by omega), .inr ⟨trivial, w1, w2, w3, h⟩⟩
end K02
namespace K02
open PySem PySem.Spec PyProof.Rows L2 DL
def S_pick : Sd := fun as q => ∃ ds : List PyData, as = [.loom, .d (.list ds)] ∧ 0 < ds.length ∧ ds.length ≤ 1000 ∧ ∀ d ∈ ds, q d
theorem mono_pick : MonoD S_pick := fun as q q' h ⟨ds, e, a, b, k⟩ => ⟨ds, e, a, b, fun d hd => h _ (k d hd)⟩
theorem data_pick (as : List Sl) (q : PyData → Prop) (hl : as.length = 2) (h : S_pick as q) : w__law_pick S_draw (enD q) (entry ["loom", "things"] as) := by
  obtain ⟨ds, rfl, h0, h1, h⟩ := h
  rw [show entry ["loom", "things"] [.loom, .d (.list ds)] = [.loom, .d (.list ds)] from rfl]
  unfold w__law_pick
  simp [S_draw]
  refine ⟨by omega, fun r hr => ?_⟩
  obtain ⟨d, e, hd⟩ := pick_at hr h0
  exact ⟨d, e, h d hd⟩
def S_row : Sd := fun as q => ∃ n m : Int, as = [.loom, .d (.int n), .d (.int m)] ∧ 1 ≤ n ∧ n ≤ 8 ∧ 0 ≤ m ∧ m ≤ 12 ∧ ∀ a, RowI n a → a.length ≤ 12 → q (.tuple (di a))
theorem mono_row : MonoD S_row := fun as q q' h ⟨n, m, e, a, b, c, d, k⟩ => ⟨n, m, e, a, b, c, d, fun a h1 h2 => h _ (k a h1 h2)⟩
theorem row_lc (n : Int) (s2 : Sl) (h1 : 1 ≤ n) (h8 : n ≤ 8) (ρ0 : Sls) (h0 : ρ0 = [.loom, .d (.int n), s2, .un]) (Q : List PyData → Sls → Prop) : ∀ (xs : List PyData) (acc : List Int) (s : Sl), RowI n acc → acc.length + xs.length ≤ 62 → (∀ a, RowI n a → a.length = acc.length + xs.length → Q (di a) [.loom, .d (.int n), s2, .un]) →
    wLcL (wgName 3) (wYes) (wCall S_draw [.loom 0, .e (wVar 1)]) [3] ρ0 xs (di acc) [.loom, .d (.int n), s2, s] Q := by
  intro xs
  induction xs with
  | nil =>
    intro acc s hr hl h
    rw [wLcL_nil]
    subst h0
    exact h acc hr (by simp)
  | cons x r ih =>
    intro acc s hr hl h
    rw [wLcL_cons]
    have ih' := fun acc s => ih acc s
    generalize wLcL _ _ _ _ _ r = L at ih' ⊢
    simp at hl
    have hacc : acc.length < sizeLine := lt_size1 (by omega)
    simp [S_draw, hacc]
    refine ⟨by omega, fun k hk => ?_⟩
    have := ih' (acc ++ [k]) (.d x) (hr.app (.one (drawn_in h1 hk))) (by simp; omega) fun a ha hal => h a ha (by simp at hal ⊢; omega)
    simpa using this
theorem data_row (as : List Sl) (q : PyData → Prop) (hl : as.length = 3) (h : S_row as q) : w__law_row S_draw (enD q) (entry ["loom", "n", "most", "turn"] as) := by
  obtain ⟨n, m, rfl, h1, h8, m0, m1, h⟩ := h
  rw [show entry ["loom", "n", "most", "turn"] [.loom, .d (.int n), .d (.int m)] = [.loom, .d (.int n), .d (.int m), .un] from rfl]
  unfold w__law_row
  simp [S_draw, Fit62]
  refine ⟨by omega, fun r hr => ?_⟩
  have hr2 : 0 ≤ r ∧ r ≤ 12 := by
    rcases hr with ⟨a, b⟩ | ⟨a, b, c⟩ <;> omega
  refine ⟨⟨by omega, by omega⟩, row_lc n _ h1 h8 _ rfl _ _ [] _ (fun i hi => absurd hi (by simp)) (by rw [rngD_length]; simp; omega) fun a ha hal => h a ha (by rw [rngD_length] at hal; simp at hal; omega)⟩
section
variable {ns : List Int} {D : En} {s2 s3 s4 s5 s6 s7 s8 : Sl}
theorem l3 (h : ∀ n : Int, 1 ≤ n → n ≤ 8 → D.nx [.scr ns, .loom, s2, .d (.int n), s4, s5, s6, s7, s8]) :
    wSet 3 (wOp2 addD (.v (wC (.int 1))) (.v (wCall S_draw [.loom 1, .e (wC (.int 8))]))) D [.scr ns, .loom, s2, s3, s4, s5, s6, s7, s8] := by
  simp [S_draw]
  intro r hr
  have hr2 : 0 ≤ r ∧ r < 8 := drawn_in (n := 8) (by decide) hr
  exact h _ (by omega) (by omega)
theorem l4 {n : Int} (h1 : 1 ≤ n) (h8 : n ≤ 8) (h : ∀ a, RowI n a → a.length ≤ 12 → D.nx [.scr ns, .loom, s2, .d (.int n), .d (.tuple (di a)), s5, s6, s7, s8]) :
    wSet 4 (wCall S_row [.loom 1, .e (wVar 3), .e (wCall S_pick [.loom 1, .e (wC (.list [.int 0, .int 1, .int 2, .int 5, .int 12]))])]) D [.scr ns, .loom, s2, .d (.int n), s4, s5, s6, s7, s8] := by
  simp
  refine ⟨_, rfl, by decide, by decide, fun d hd => ?_⟩
  have hm : ∃ m : Int, d = .int m ∧ 0 ≤ m ∧ m ≤ 12 := by
    simp at hd
    rcases hd with rfl | rfl | rfl | rfl | rfl <;> exact ⟨_, rfl, by decide, by decide⟩
  obtain ⟨m, rfl, m0, m1⟩ := hm
  exact ⟨n, m, rfl, h1, h8, m0, m1, h⟩
theorem so_loop {n t : Int} {a : List Int} (h1 : 1 ≤ n) (h8 : n ≤ 8) (ha : RowI n a) (hal : a.length ≤ 12) : ∀ (l : List (List Int)) (s5 : Sl), (∀ b ∈ l, RowI n b ∧ b.length ≤ 13) → (∀ s5, D.nx [.scr ns, .loom, .d (.int t), .d (.int n), .d (.tuple (di a)), s5, s6, s7, s8]) →
    wLoop (wgName 5) (wIfS (wNot (wTst (wCall S_so [.e (wVar 3), .e (wVar 4), .e (wVar 5), .e (wOp2 eqXD (.s 2) (.v (wC (.int 2))))]))) (wRet (wC (.bool false))) (wNx)) (tups l) D [.scr ns, .loom, .d (.int t), .d (.int n), .d (.tuple (di a)), s5, s6, s7, s8] := by
  intro l
  induction l with
  | nil => intro s5 _ h; exact h s5
  | cons x r ih =>
    intro s5 hx h
    rw [show tups (x :: r) = .tuple (di x) :: tups r from rfl, wLoop_cons]
    have ih' := fun s5 => ih s5 (fun y hy => hx y (List.mem_cons_of_mem _ hy)) h
    generalize wLoop _ _ (tups r) D = L at ih' ⊢
    obtain ⟨x1, x2⟩ := hx x List.mem_cons_self
    simp
    exact ⟨n, a, x, t == 2, rfl, h1, h8, ha, x1, by omega, by omega, by simpa using ih' _⟩
theorem l5 {n t : Int} {a : List Int} (h1 : 1 ≤ n) (h8 : n ≤ 8) (ha : RowI n a) (hal : a.length ≤ 12) (h : ∀ s5, D.nx [.scr ns, .loom, .d (.int t), .d (.int n), .d (.tuple (di a)), s5, s6, s7, s8]) :
    wFor (wI (wCall S_near [.loom 1, .e (wVar 3), .e (wVar 4)])) (wgName 5) (wIfS (wNot (wTst (wCall S_so [.e (wVar 3), .e (wVar 4), .e (wVar 5), .e (wOp2 eqXD (.s 2) (.v (wC (.int 2))))]))) (wRet (wC (.bool false))) (wNx)) D [.scr ns, .loom, .d (.int t), .d (.int n), .d (.tuple (di a)), s5, s6, s7, s8] := by
  simp only [wFor, wI, wCall, wAgs, wVar, okL, List.getElem?_cons_zero, List.getElem?_cons_succ]
  exact ⟨trivial, ⟨trivial, trivial⟩, n, a, rfl, h1, h8, ha, hal, fun l _ hb => ⟨_, rfl, so_loop h1 h8 ha hal l _ hb h⟩⟩
/-! sums of what stands ahead -/
theorem fl_lc3 {n t : Int} (b : List Int) (hb : b.length ≤ 1000) (ρ0 : Sls) (h0 : ρ0 = [s2, s3, s4, s5, .d (.tuple (di b)), s6, s7, s8, .un]) (Q : List PyData → Sls → Prop) : ∀ (k e : Nat) (acc : List Int) (s : Sl), e + k = b.length → acc.length ≤ e → Q (di (acc ++ fl b e k)) [s2, s3, s4, s5, .d (.tuple (di b)), s6, s7, s8, .un] →
    wLcL (wgName 8) (wYes) (wCall S_falls [.e (wVar 4), .e (wVar 8)]) [8] ρ0 (upD e k) (di acc) [s2, s3, s4, s5, .d (.tuple (di b)), s6, s7, s8, s] Q := by
  intro k
  induction k with
  | zero =>
    intro e acc s he hl h
    rw [upD, wLcL_nil]
    subst h0
    have h' : Q (di acc) [s2, s3, s4, s5, .d (.tuple (di b)), s6, s7, s8, .un] := by simpa [fl] using h
    exact h'
  | succ k ih =>
    intro e acc s he hl h
    rw [upD, wLcL_cons]
    have ih' := fun acc s => ih (e + 1) acc s
    generalize wLcL _ _ _ _ _ (upD (e + 1) k) = L at ih' ⊢
    have hacc : acc.length < sizeLine := lt_size1 (by omega)
    simp [S_falls, hacc]
    refine ⟨b, e, ⟨rfl, rfl⟩, by omega, hb, ?_⟩
    simpa using ih' (acc ++ [((fallsAt b e : Nat) : Int)]) (.d (.int (e : Int))) (by omega) (by simp; omega) (by simpa [fl] using h)
theorem fl_sum (b : List Int) : ∀ k e : Nat, tot b e + (fl b e k).sum = (tot b (e + k) : Nat)
  | 0, e => by simp [fl]
  | k + 1, e => by
    have ih := fl_sum b k (e + 1)
    have t := tot_succ b e
    simp only [fl, List.sum_cons]
    rw [show e + (k + 1) = e + 1 + k by omega, ← ih, t]
    omega
theorem l6 {a : List Int} (hal : a.length ≤ 12) (h : ∀ L : List Int, L.Pairwise (· ≤ ·) → D.nx [.scr ns, .loom, s2, s3, .d (.tuple (di a)), s5, .d (.tuple (di L)), .d (.int (tot a a.length : Nat)), s8]) :
    wAsg (wCall S_sunk [.e (wVar 4)]) (wgTup 2 (wgCons (wgName 6) (wgCons (wgName 7) (wgNil)))) D [.scr ns, .loom, s2, s3, .d (.tuple (di a)), s5, s6, s7, s8] := by
  simp [and_assoc]
  exact ⟨a, rfl, by omega, fun L _ hs => ⟨_, rfl, rfl, _, _, rfl, _, _, rfl, rfl, h L hs⟩⟩
theorem l7 {a L : List Int} (hal : a.length ≤ 12) (hL : L.Pairwise (· ≤ ·)) (h : D.nx [.scr ns, .loom, s2, s3, .d (.tuple (di a)), s5, .d (.tuple (di L)), .d (.int (tot a a.length : Nat)), .un]) :
    wIfS (wOr (wNot (wTst (wCall S_rising [.e (wVar 6)]))) (wTst (wOp2 neXD (.v (wOp1 sumD (.v (wLc (wRng1 (wOp1 lenD (.s 4))) (wgName 8) (wYes) (wCall S_falls [.e (wVar 4), .e (wVar 8)]) [8])))) (.s 7)))) (wRet (wC (.bool false))) (wNx) D [.scr ns, .loom, s2, s3, .d (.tuple (di a)), s5, .d (.tuple (di L)), .d (.int (tot a a.length : Nat)), .un] := by
  have hr : risingB L = true := decide_eq_true hL
  simp [S_rising]
  refine ⟨L, rfl, ?_⟩
  rw [if_pos hr]
  refine ⟨⟨by omega, by omega⟩, ?_⟩
  rw [rngD_up]
  refine fl_lc3 (n := 0) (t := 0) a (by omega) _ rfl _ a.length 0 [] _ (by simp) (by simp) ?_
  rw [List.nil_append]
  refine ⟨_, rfl, ?_⟩
  have e := fl_sum a a.length 0
  have e0 : tot a 0 = 0 := rfl
  rw [e0, Nat.zero_add] at e
  have e2 : (fl a 0 a.length).sum = (tot a a.length : Nat) := by omega
  rw [e2]
  simpa using h
theorem turns : ∀ (xs : List PyData) (s2 s3 s4 s5 s6 s7 : Sl), (∀ x ∈ xs, ∃ t : Int, x = .int t) → (∀ s2 s3 s4 s5 s6 s7, D.nx [.scr ns, .loom, s2, s3, s4, s5, s6, s7, .un]) →
    wLoop (wgName 2) (wSeq (wSet 3 (wOp2 addD (.v (wC (.int 1))) (.v (wCall S_draw [.loom 1, .e (wC (.int 8))])))) (wSeq (wSet 4 (wCall S_row [.loom 1, .e (wVar 3), .e (wCall S_pick [.loom 1, .e (wC (.list [.int 0, .int 1, .int 2, .int 5, .int 12]))])])) (wSeq (wFor (wI (wCall S_near [.loom 1, .e (wVar 3), .e (wVar 4)])) (wgName 5) (wIfS (wNot (wTst (wCall S_so [.e (wVar 3), .e (wVar 4), .e (wVar 5), .e (wOp2 eqXD (.s 2) (.v (wC (.int 2))))]))) (wRet (wC (.bool false))) (wNx)))
      (wSeq (wAsg (wCall S_sunk [.e (wVar 4)]) (wgTup 2 (wgCons (wgName 6) (wgCons (wgName 7) (wgNil))))) (wIfS (wOr (wNot (wTst (wCall S_rising [.e (wVar 6)]))) (wTst (wOp2 neXD (.v (wOp1 sumD (.v (wLc (wRng1 (wOp1 lenD (.s 4))) (wgName 8) (wYes) (wCall S_falls [.e (wVar 4), .e (wVar 8)]) [8])))) (.s 7)))) (wRet (wC (.bool false))) (wNx))))))
      xs D [.scr ns, .loom, s2, s3, s4, s5, s6, s7, .un] := by
  intro xs
  induction xs with
  | nil => intro s2 s3 s4 s5 s6 s7 _ h; exact h s2 s3 s4 s5 s6 s7
  | cons x r ih =>
    intro s2 s3 s4 s5 s6 s7 hx h
    rw [wLoop_cons]
    have ih' := fun s2 s3 s4 s5 s6 s7 => ih s2 s3 s4 s5 s6 s7 (fun y hy => hx y (List.mem_cons_of_mem _ hy)) h
    generalize wLoop _ _ r D = L at ih' ⊢
    obtain ⟨t, rfl⟩ := hx x List.mem_cons_self
    exact l3 fun n h1 h8 => l4 h1 h8 fun a ha hal => l5 h1 h8 ha hal fun s5 => l6 hal fun L hL => l7 hal hL (ih' _ _ _ _ _ _)
theorem m1 (h : ∀ n : Int, 1 ≤ n → n ≤ 8 → D.nx [.scr ns, .loom, s2, .d (.int n), s4, s5, s6, s7, s8]) :
    wSet 3 (wCall S_pick [.loom 1, .e (wC (.list [.int 1, .int 2, .int 8]))]) D [.scr ns, .loom, s2, s3, s4, s5, s6, s7, s8] := by
  simp
  refine ⟨_, rfl, by decide, by decide, fun d hd => ?_⟩
  simp at hd
  rcases hd with rfl | rfl | rfl <;> exact h _ (by decide) (by decide)
theorem m2_lc {n : Int} (h1 : 1 ≤ n) (h8 : n ≤ 8) (ρ0 : Sls) (x2 : Sl) (h0 : ρ0 = [.scr ns, .loom, x2, .d (.int n), s4, s5, s6, s7, s8]) (Q : List PyData → Sls → Prop) : ∀ (xs : List PyData) (acc : List Int) (s : Sl), RowI n acc → acc.length + xs.length ≤ 60 → (∀ a s, RowI n a → a.length ≤ 60 → Q (di a) [.scr ns, .loom, s, .d (.int n), s4, s5, s6, s7, s8]) →
    wLcL (wgName 2) (wYes) (wCall S_draw [.loom 1, .e (wVar 3)]) [2] ρ0 xs (di acc) [.scr ns, .loom, s, .d (.int n), s4, s5, s6, s7, s8] Q := by
  intro xs
  induction xs with
  | nil =>
    intro acc s hr hl h
    rw [wLcL_nil]
    subst h0
    exact h acc _ hr (by simpa using hl)
  | cons x r ih =>
    intro acc s hr hl h
    rw [wLcL_cons]
    have ih' := fun acc s => ih acc s
    generalize wLcL _ _ _ _ _ r = L at ih' ⊢
    simp at hl
    have hacc : acc.length < sizeLine := lt_size1 (by omega)
    simp [S_draw, hacc]
    refine ⟨by omega, fun k hk => ?_⟩
    have := ih' (acc ++ [k]) (.d x) (hr.app (.one (drawn_in h1 hk))) (by simp; omega) h
    simpa using this
theorem m2 {n : Int} (h1 : 1 ≤ n) (h8 : n ≤ 8) (h : ∀ s a, RowI n a → a.length ≤ 60 → D.nx [.scr ns, .loom, s, .d (.int n), .d (.tuple (di a)), s5, s6, s7, s8]) :
    wSet 4 (wOp1 tupD (.v (wLc (wRng1 (wOp2 addD (.v (wC (.int 58))) (.v (wCall S_draw [.loom 1, .e (wC (.int 3))])))) (wgName 2) (wYes) (wCall S_draw [.loom 1, .e (wVar 3)]) [2]))) D [.scr ns, .loom, s2, .d (.int n), s4, s5, s6, s7, s8] := by
  simp [S_draw, Fit62]
  intro r hr
  have hr2 : 0 ≤ r ∧ r < 3 := drawn_in (n := 3) (by decide) hr
  refine ⟨⟨by omega, by omega⟩, m2_lc h1 h8 _ _ rfl _ _ [] _ (fun i hi => absurd hi (by simp)) (by rw [rngD_length]; simp; omega) fun a s ha hal => h s a ha hal⟩
theorem m3 {n : Int} {a : List Int} (h1 : 1 ≤ n) (h8 : n ≤ 8) (ha : RowI n a) (hal : a.length ≤ 60) :
    wRet (wAndV (wCall S_so [.e (wVar 3), .e (wVar 4), .e (wOp1 tupD (.v (wOp1 sortD (.s 4)))), .e (wC (.bool false))]) (wCall S_so [.e (wVar 3), .e (wVar 4), .e (wRev (.s 4)), .e (wC (.bool true))])) (enD (· = .bool true)) [.scr ns, .loom, s2, .d (.int n), .d (.tuple (di a)), s5, s6, s7, s8] := by
  simp
  refine ⟨a, rfl, fun b hb _ => ⟨n, a, b, false, rfl, h1, h8, ha, ha.sub fun i hi => hb.mem_iff.mp hi, by omega, by rw [hb.length_eq]; omega, ?_⟩⟩
  exact ⟨rfl, n, a, a.reverse, true, by simp [List.map_reverse], h1, h8, ha, ha.sub fun i hi => List.mem_reverse.mp hi, by omega, by rw [List.length_reverse]; omega, rfl⟩
end
theorem data_law (ns : List Int) (hl : ns.length ≤ 63) : w_law S_draw S_row S_pick S_near S_so S_sunk S_falls S_rising (enD (· = .bool true)) (entry ["script", "loom", "turn", "n", "row", "other", "best", "many", "place"] [.scr ns]) := by
  rw [show entry ["script", "loom", "turn", "n", "row", "other", "best", "many", "place"] [.scr ns] = [.scr ns, .un, .un, .un, .un, .un, .un, .un, .un] from rfl]
  unfold w_law
  simp only [wSeq, wMk]
  refine ⟨⟨ns, rfl, hl⟩, rfl, ?_⟩
  simp only [List.set_cons_succ, List.set_cons_zero]
  rw [wFor]
  simp only [wRng1, wC]
  refine ⟨7, rfl, ⟨by decide, by decide⟩, ?_⟩
  refine turns _ _ _ _ _ _ _ (fun x hx => ?_) fun s2 s3 s4 s5 s6 s7 => ?_
  · unfold rngD at hx
    obtain ⟨j, _, e⟩ := List.mem_map.mp hx
    exact ⟨_, e.symm⟩
  · exact m1 fun n h1 h8 => m2 h1 h8 fun s a ha hal => m3 h1 h8 ha hal
end K02
namespace K02
open PySem PySem.Spec PyProof.Rows L2 DL
section
variable {P : Program} {w : World} {K : PySem.W.Frag} {mg : Str → Option Value} {base : Heap} {k : Nat}
theorem here_mk {h : Heap} {x : Str} {st : Stmt} {f : Addr} {oc : Value} {od an : Option Addr} {osl : Array (Option Value)} {kV doc pm cdv ct : Value} (X : K.In h) (G : h.Ns mainGlobals mg) (a : PySem.W.nsIn K mainGlobals x = some (some (.ref f)))
    (l : K.lookup f = some ⟨oc, od, .func (PySem.W.fnOf x x (defArgs st) (defBody st) (defScope st) .none kV doc pm an cdv ct), osl⟩) (c : PySem.W.codeIn K cdv x = true) (kp : PySem.W.keepIn K (.ref f) = true) : Here K mg x st := ⟨f, _, fun_mk l c kp, PySem.W.mg_of X G a⟩
/-- a def, by its body's reading -/
theorem D_mk {R : Res} {x : Str} {st : Stmt} {N ps : List Str} {S : Sd} {W : WS} (h : Here K mg x st) (Sc : FnScope N ps (defScope st)) (mS : MonoD S)
    (t : ∀ (f : Addr) (cdv : Value) (A : Around) (outer : List PySem.Env) (s : Shared) (H : Hp) (E : XK), (A.deeper (envOfC x (defScope st) s.heap.objs.size f cdv)).guards = some [] → Room k (A.deeper (envOfC x (defScope st) s.heap.objs.size f cdv)) → SSs R (cxOf CX0 P w K mg base N x (defScope st) f cdv A outer s H E).nox (defBody st) W)
    (hd : ∀ as q, as.length = ps.length → S as q → W (enD q) (entry N as)) (hb : ∀ (kV doc pm : Value) (an : Option Addr) (cdv ct : Value) (us : List Value), us.length = ps.length → bindArgs (PySem.W.fnOf x x (defArgs st) (defBody st) (defScope st) .none kV doc pm an cdv ct) ⟨us, []⟩ = pure (ps.zip us)) :
    Def R P w K mg base (k + 1) x st ps S := by
  obtain ⟨f, fd, F, gm⟩ := h
  exact ⟨mS, f, fd, F, gd_of F Sc (fun cdv A outer s H E hg hr => ⟨W, t f cdv A outer s H E hg hr, hd⟩), gm, F.binds hb⟩
/-- where all defs stand -/
structure All (K : PySem.W.Frag) (mg : Str → Option Value) : Prop where
  h1 : Here K mg "same_things" s_same_things
  h2 : Here K mg "ahead" s_ahead
  h3 : Here K mg "is_rising" s_is_rising
  h4 : Here K mg "_law_loom" s__law_loom
  h5 : Here K mg "_law_draw" s__law_draw
  h6 : Here K mg "_law_pick" s__law_pick
  h7 : Here K mg "_law_mixed" s__law_mixed
  h8 : Here K mg "_law_row" s__law_row
  h9 : Here K mg "_law_counted" s__law_counted
  h10 : Here K mg "_law_falls" s__law_falls
  h11 : Here K mg "_law_near" s__law_near
  h12 : Here K mg "_law_is_so" s__law_is_so
  h13 : Here K mg "_law_sunk" s__law_sunk
variable (B : Bi mg) (hs : SysIn base) (T : All K mg)
include B hs T
theorem P1 : Def loomR P w K mg base 1 "same_things" s_same_things ["one", "other"] S_same :=
  D_mk T.h1 sc_same_things mono_same (fun f cdv A outer s H E hg hr => t_same_things B hs  hg hr) data_same fun _ _ _ _ _ _ us hl => match us, hl with | [_, _], _ => rfl
theorem P2 : Def loomR P w K mg base 1 "ahead" s_ahead ["row", "place"] S_falls :=
  D_mk T.h2 sc_ahead mono_falls (fun f cdv A outer s H E hg hr => t_ahead B hs  hg hr) data_ahead fun _ _ _ _ _ _ us hl => match us, hl with | [_, _], _ => rfl
theorem P3 : Def loomR P w K mg base 1 "is_rising" s_is_rising ["row"] S_rising :=
  D_mk T.h3 sc_is_rising mono_rising (fun f cdv A outer s H E hg hr => t_is_rising B hs  hg hr) data_rising fun _ _ _ _ _ _ us hl => match us, hl with | [_], _ => rfl
theorem P5 : Def loomR P w K mg base 1 "_law_draw" s__law_draw ["loom", "many"] S_draw := D_draw T.h5 B
theorem P6 : Def loomR P w K mg base 2 "_law_pick" s__law_pick ["loom", "things"] S_pick :=
  D_mk T.h6 sc__law_pick mono_pick (fun f cdv A outer s H E hg hr => t__law_pick B hs ((P5 B hs T).up (by decide)) hg hr) data_pick fun _ _ _ _ _ _ us hl => match us, hl with | [_, _], _ => rfl
theorem P7 : Def loomR P w K mg base 2 "_law_mixed" s__law_mixed ["loom", "things"] S_mixed :=
  D_mk T.h7 sc__law_mixed mono_mixed (fun f cdv A outer s H E hg hr => t__law_mixed B hs ((P5 B hs T).up (by decide)) hg hr) data_mixed fun _ _ _ _ _ _ us hl => match us, hl with | [_, _], _ => rfl
theorem P8 : Def loomR P w K mg base 2 "_law_row" s__law_row ["loom", "n", "most"] S_row :=
  D_mk T.h8 sc__law_row mono_row (fun f cdv A outer s H E hg hr => t__law_row B hs ((P5 B hs T).up (by decide)) hg hr) data_row fun _ _ _ _ _ _ us hl => match us, hl with | [_, _, _], _ => rfl
theorem P9 : Def loomR P w K mg base 1 "_law_counted" s__law_counted ["n", "row"] S_counted :=
  D_mk T.h9 sc__law_counted mono_counted (fun f cdv A outer s H E hg hr => t__law_counted B hs  hg hr) data_counted fun _ _ _ _ _ _ us hl => match us, hl with | [_, _], _ => rfl
theorem P10 : Def loomR P w K mg base 1 "_law_falls" s__law_falls ["row", "place"] S_falls :=
  D_mk T.h10 sc__law_falls mono_falls (fun f cdv A outer s H E hg hr => t__law_falls B hs  hg hr) data_falls fun _ _ _ _ _ _ us hl => match us, hl with | [_, _], _ => rfl
theorem P11 : Def loomR P w K mg base 3 "_law_near" s__law_near ["loom", "n", "row"] S_near :=
  D_mk T.h11 sc__law_near mono_near (fun f cdv A outer s H E hg hr => t__law_near B hs ((P5 B hs T).up (by decide)) ((P7 B hs T).up (by decide)) hg hr) data_near fun _ _ _ _ _ _ us hl => match us, hl with | [_, _, _], _ => rfl
theorem P12 : Def loomR P w K mg base 2 "_law_is_so" s__law_is_so ["n", "row", "other", "is_named"] S_so :=
  D_mk T.h12 sc__law_is_so mono_so (fun f cdv A outer s H E hg hr => t__law_is_so B hs ((P9 B hs T).up (by decide)) ((P1 B hs T).up (by decide)) ((P10 B hs T).up (by decide)) ((P2 B hs T).up (by decide)) ((P3 B hs T).up (by decide)) hg hr) data_so fun _ _ _ _ _ _ us hl => match us, hl with | [_, _, _, _], _ => rfl
theorem P13 : Def loomR P w K mg base 1 "_law_sunk" s__law_sunk ["row"] S_sunk :=
  D_mk T.h13 sc__law_sunk mono_sunk (fun f cdv A outer s H E hg hr => t__law_sunk B hs  hg hr) data_sunk fun _ _ _ _ _ _ us hl => match us, hl with | [_], _ => rfl
theorem PL {f : Addr} {fd : FuncData} (F : Fun K "law" "law" s_law f fd) : GFn P w K mg base CX0 4 f fd ["script"] (spLaw K) := by
  obtain ⟨fL, fdL, FL, gL⟩ := T.h4
  exact law_gd F sc_law fun cdv A outer s H E hg hr => ⟨_, t_law B hs (loom_gd FL B hs) gL FL.kp (FL.binds fun _ _ _ _ _ _ us hl => match us, hl with | [_], _ => rfl)
    ((P5 B hs T).up (by decide)) ((P8 B hs T).up (by decide)) ((P6 B hs T).up (by decide)) ((P11 B hs T).up (by decide)) ((P12 B hs T).up (by decide)) ((P13 B hs T).up (by decide)) ((P2 B hs T).up (by decide)) ((P3 B hs T).up (by decide)) hg hr, data_law⟩
end
end K02
namespace K02
open PySem PySem.Spec PyProof.Rows L2 DL
theorem all_mk {l : PySem.W.OpenLaw} {w : World} {K : PySem.W.Frag} {h : Heap} {mg : Str → Option Value} {fa f1 f2 f3 f4 f5 f6 f7 f8 f9 f10 f11 f12 f13 f14 : Addr} (X : K.In h) (G : h.Ns mainGlobals mg) (hfa : mg "law" = some (.ref fa))
    {od1 an1 od2 an2 od3 an3 od4 an4 od5 an5 od6 an6 od7 an7 od8 an8 od9 an9 od10 an10 od11 an11 od12 an12 od13 an13 od14 an14 : Option Addr} {sl1 sl2 sl3 sl4 sl5 sl6 sl7 sl8 sl9 sl10 sl11 sl12 sl13 sl14 : Array (Option Value)} {oc1 kV1 dc1 pm1 cd1 ct1 oc2 kV2 dc2 pm2 cd2 ct2 oc3 kV3 dc3 pm3 cd3 ct3 oc4 kV4 dc4 pm4 cd4 ct4 oc5 kV5 dc5 pm5 cd5 ct5 oc6 kV6 dc6 pm6 cd6 ct6 oc7 kV7 dc7 pm7 cd7 ct7 oc8 kV8 dc8 pm8 cd8 ct8 oc9 kV9 dc9 pm9 cd9 ct9 oc10 kV10 dc10 pm10 cd10 ct10 oc11 kV11 dc11 pm11 cd11 ct11 oc12 kV12 dc12 pm12 cd12 ct12 oc13 kV13 dc13 pm13 cd13 ct13 oc14 kV14 dc14 pm14 cd14 ct14 : Value} 
    (a1 : PySem.W.nsIn K mainGlobals "same_things" = some (some (.ref f1))) (l1 : K.lookup f1 = some ⟨oc1, od1, .func (PySem.W.fnOf "same_things" "same_things" (defArgs s_same_things) (defBody s_same_things) (defScope s_same_things) .none kV1 dc1 pm1 an1 cd1 ct1), sl1⟩) (c1 : PySem.W.codeIn K cd1 "same_things" = true) (k1 : PySem.W.keepIn K (.ref f1) = true)
    (a2 : PySem.W.nsIn K mainGlobals "ahead" = some (some (.ref f2))) (l2 : K.lookup f2 = some ⟨oc2, od2, .func (PySem.W.fnOf "ahead" "ahead" (defArgs s_ahead) (defBody s_ahead) (defScope s_ahead) .none kV2 dc2 pm2 an2 cd2 ct2), sl2⟩) (c2 : PySem.W.codeIn K cd2 "ahead" = true) (k2 : PySem.W.keepIn K (.ref f2) = true)
    (a3 : PySem.W.nsIn K mainGlobals "is_rising" = some (some (.ref f3))) (l3 : K.lookup f3 = some ⟨oc3, od3, .func (PySem.W.fnOf "is_rising" "is_rising" (defArgs s_is_rising) (defBody s_is_rising) (defScope s_is_rising) .none kV3 dc3 pm3 an3 cd3 ct3), sl3⟩) (c3 : PySem.W.codeIn K cd3 "is_rising" = true) (k3 : PySem.W.keepIn K (.ref f3) = true)
    (a4 : PySem.W.nsIn K mainGlobals "_law_loom" = some (some (.ref f4))) (l4 : K.lookup f4 = some ⟨oc4, od4, .func (PySem.W.fnOf "_law_loom" "_law_loom" (defArgs s__law_loom) (defBody s__law_loom) (defScope s__law_loom) .none kV4 dc4 pm4 an4 cd4 ct4), sl4⟩) (c4 : PySem.W.codeIn K cd4 "_law_loom" = true) (k4 : PySem.W.keepIn K (.ref f4) = true)
    (a5 : PySem.W.nsIn K mainGlobals "_law_draw" = some (some (.ref f5))) (l5 : K.lookup f5 = some ⟨oc5, od5, .func (PySem.W.fnOf "_law_draw" "_law_draw" (defArgs s__law_draw) (defBody s__law_draw) (defScope s__law_draw) .none kV5 dc5 pm5 an5 cd5 ct5), sl5⟩) (c5 : PySem.W.codeIn K cd5 "_law_draw" = true) (k5 : PySem.W.keepIn K (.ref f5) = true)
    (a6 : PySem.W.nsIn K mainGlobals "_law_pick" = some (some (.ref f6))) (l6 : K.lookup f6 = some ⟨oc6, od6, .func (PySem.W.fnOf "_law_pick" "_law_pick" (defArgs s__law_pick) (defBody s__law_pick) (defScope s__law_pick) .none kV6 dc6 pm6 an6 cd6 ct6), sl6⟩) (c6 : PySem.W.codeIn K cd6 "_law_pick" = true) (k6 : PySem.W.keepIn K (.ref f6) = true)
    (a7 : PySem.W.nsIn K mainGlobals "_law_mixed" = some (some (.ref f7))) (l7 : K.lookup f7 = some ⟨oc7, od7, .func (PySem.W.fnOf "_law_mixed" "_law_mixed" (defArgs s__law_mixed) (defBody s__law_mixed) (defScope s__law_mixed) .none kV7 dc7 pm7 an7 cd7 ct7), sl7⟩) (c7 : PySem.W.codeIn K cd7 "_law_mixed" = true) (k7 : PySem.W.keepIn K (.ref f7) = true)
    (a8 : PySem.W.nsIn K mainGlobals "_law_row" = some (some (.ref f8))) (l8 : K.lookup f8 = some ⟨oc8, od8, .func (PySem.W.fnOf "_law_row" "_law_row" (defArgs s__law_row) (defBody s__law_row) (defScope s__law_row) .none kV8 dc8 pm8 an8 cd8 ct8), sl8⟩) (c8 : PySem.W.codeIn K cd8 "_law_row" = true) (k8 : PySem.W.keepIn K (.ref f8) = true)
    (a9 : PySem.W.nsIn K mainGlobals "_law_counted" = some (some (.ref f9))) (l9 : K.lookup f9 = some ⟨oc9, od9, .func (PySem.W.fnOf "_law_counted" "_law_counted" (defArgs s__law_counted) (defBody s__law_counted) (defScope s__law_counted) .none kV9 dc9 pm9 an9 cd9 ct9), sl9⟩) (c9 : PySem.W.codeIn K cd9 "_law_counted" = true) (k9 : PySem.W.keepIn K (.ref f9) = true)
    (a10 : PySem.W.nsIn K mainGlobals "_law_falls" = some (some (.ref f10))) (l10 : K.lookup f10 = some ⟨oc10, od10, .func (PySem.W.fnOf "_law_falls" "_law_falls" (defArgs s__law_falls) (defBody s__law_falls) (defScope s__law_falls) .none kV10 dc10 pm10 an10 cd10 ct10), sl10⟩) (c10 : PySem.W.codeIn K cd10 "_law_falls" = true) (k10 : PySem.W.keepIn K (.ref f10) = true)
    (a11 : PySem.W.nsIn K mainGlobals "_law_near" = some (some (.ref f11))) (l11 : K.lookup f11 = some ⟨oc11, od11, .func (PySem.W.fnOf "_law_near" "_law_near" (defArgs s__law_near) (defBody s__law_near) (defScope s__law_near) .none kV11 dc11 pm11 an11 cd11 ct11), sl11⟩) (c11 : PySem.W.codeIn K cd11 "_law_near" = true) (k11 : PySem.W.keepIn K (.ref f11) = true)
    (a12 : PySem.W.nsIn K mainGlobals "_law_is_so" = some (some (.ref f12))) (l12 : K.lookup f12 = some ⟨oc12, od12, .func (PySem.W.fnOf "_law_is_so" "_law_is_so" (defArgs s__law_is_so) (defBody s__law_is_so) (defScope s__law_is_so) .none kV12 dc12 pm12 an12 cd12 ct12), sl12⟩) (c12 : PySem.W.codeIn K cd12 "_law_is_so" = true) (k12 : PySem.W.keepIn K (.ref f12) = true)
    (a13 : PySem.W.nsIn K mainGlobals "_law_sunk" = some (some (.ref f13))) (l13 : K.lookup f13 = some ⟨oc13, od13, .func (PySem.W.fnOf "_law_sunk" "_law_sunk" (defArgs s__law_sunk) (defBody s__law_sunk) (defScope s__law_sunk) .none kV13 dc13 pm13 an13 cd13 ct13), sl13⟩) (c13 : PySem.W.codeIn K cd13 "_law_sunk" = true) (k13 : PySem.W.keepIn K (.ref f13) = true)
    (a14 : PySem.W.nsIn K mainGlobals "law" = some (some (.ref f14))) (l14 : K.lookup f14 = some ⟨oc14, od14, .func (PySem.W.fnOf "law" "law" (defArgs s_law) (defBody s_law) (defScope s_law) .none kV14 dc14 pm14 an14 cd14 ct14), sl14⟩) (c14 : PySem.W.codeIn K cd14 "law" = true) (k14 : PySem.W.keepIn K (.ref f14) = true)
    (z_abs : PySem.W.nsIn K mainGlobals "abs" = some none)
    (z_int : PySem.W.nsIn K mainGlobals "int" = some none)
    (z_len : PySem.W.nsIn K mainGlobals "len" = some none)
    (z_list : PySem.W.nsIn K mainGlobals "list" = some none)
    (z_range : PySem.W.nsIn K mainGlobals "range" = some none)
    (z_repr : PySem.W.nsIn K mainGlobals "repr" = some none)
    (z_sorted : PySem.W.nsIn K mainGlobals "sorted" = some none)
    (z_sum : PySem.W.nsIn K mainGlobals "sum" = some none)
    (z_tuple : PySem.W.nsIn K mainGlobals "tuple" = some none)
    : ∃ fd : FuncData, (∀ (s : Shared) (v : Value), BindsTo s fd ⟨[v], []⟩ [("script", v)]) ∧ ∀ base : Heap, K.In base → base.Ns mainGlobals mg → SysIn base → GFn l.prog w K mg base CX0 4 fa fd ["script"] (spLaw K) := by
  have e := hfa.symm.trans (PySem.W.mg_of X G a14)
  cases e
  have F := fun_mk (st := s_law) l14 c14 k14
  have B : Bi mg := ⟨PySem.W.mg_none_of X G z_abs, PySem.W.mg_none_of X G z_int, PySem.W.mg_none_of X G z_len, PySem.W.mg_none_of X G z_list, PySem.W.mg_none_of X G z_range, PySem.W.mg_none_of X G z_repr, PySem.W.mg_none_of X G z_sorted, PySem.W.mg_none_of X G z_sum, PySem.W.mg_none_of X G z_tuple⟩
  have T : All K mg := ⟨here_mk X G a1 l1 c1 k1, here_mk X G a2 l2 c2 k2, here_mk X G a3 l3 c3 k3, here_mk X G a4 l4 c4 k4, here_mk X G a5 l5 c5 k5, here_mk X G a6 l6 c6 k6, here_mk X G a7 l7 c7 k7, here_mk X G a8 l8 c8 k8, here_mk X G a9 l9 c9 k9, here_mk X G a10 l10 c10 k10, here_mk X G a11 l11 c11 k11, here_mk X G a12 l12 c12 k12, here_mk X G a13 l13 c13 k13⟩
  exact ⟨_, fun s v => .of_eq rfl, fun base _ _ hs => PL B hs T F⟩
end K02
open PySem PySem.W PyProof.Rows
set_option maxHeartbeats 0 in
theorem PySem.Challenge.cw_baylines_k02_whole_things_that_stand_ahe_holds : PySem.Challenge.rw_baylines_k02_whole_things_that_stand_ahe.Holds := by
  w_on; o_law; k_head; (case hw => w_witness2)
  k_fill
  refine DL.law_end (l := PySem.Challenge.rw_baylines_k02_whole_things_that_stand_ahe) (k := 4) (x := "script") rfl (by decide +kernel) rfl ⟨rfl, by decide, by decide⟩ (fun w h Y => PySem.W.kIn_of Y) ?F
  case F =>
    intro w mg fa h KX G hmg
    refine' K02.all_mk KX G hmg ?a1 ?l1 ?c1 ?k1 ?a2 ?l2 ?c2 ?k2 ?a3 ?l3 ?c3 ?k3 ?a4 ?l4 ?c4 ?k4 ?a5 ?l5 ?c5 ?k5 ?a6 ?l6 ?c6 ?k6 ?a7 ?l7 ?c7 ?k7 ?a8 ?l8 ?c8 ?k8 ?a9 ?l9 ?c9 ?k9 ?a10 ?l10 ?c10 ?k10 ?a11 ?l11 ?c11 ?k11 ?a12 ?l12 ?c12 ?k12 ?a13 ?l13 ?c13 ?k13 ?a14 ?l14 ?c14 ?k14 ?z_abs ?z_int ?z_len ?z_list ?z_range ?z_repr ?z_sorted ?z_sum ?z_tuple
    (case a1 => k_is); (case l1 => k_is); (case c1 => k_is); (case k1 => k_is); (case a2 => k_is); (case l2 => k_is); (case c2 => k_is); (case k2 => k_is); (case a3 => k_is); (case l3 => k_is); (case c3 => k_is); (case k3 => k_is); (case a4 => k_is); (case l4 => k_is); (case c4 => k_is); (case k4 => k_is); (case a5 => k_is); (case l5 => k_is); (case c5 => k_is); (case k5 => k_is); (case a6 => k_is); (case l6 => k_is); (case c6 => k_is); (case k6 => k_is); (case a7 => k_is); (case l7 => k_is); (case c7 => k_is); (case k7 => k_is); (case a8 => k_is); (case l8 => k_is); (case c8 => k_is); (case k8 => k_is); (case a9 => k_is); (case l9 => k_is); (case c9 => k_is); (case k9 => k_is); (case a10 => k_is); (case l10 => k_is); (case c10 => k_is); (case k10 => k_is); (case a11 => k_is); (case l11 => k_is); (case c11 => k_is); (case k11 => k_is); (case a12 => k_is); (case l12 => k_is); (case c12 => k_is); (case k12 => k_is); (case a13 => k_is); (case l13 => k_is); (case c13 => k_is); (case k13 => k_is); (case a14 => k_is); (case l14 => k_is); (case c14 => k_is); (case k14 => k_is); (case z_abs => k_is); (case z_int => k_is); (case z_len => k_is); (case z_list => k_is); (case z_range => k_is); (case z_repr => k_is); (case z_sorted => k_is); (case z_sum => k_is); (case z_tuple => k_is)
