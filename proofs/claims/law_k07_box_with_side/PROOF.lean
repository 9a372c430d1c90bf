import PyProof.Rows.All
import Wide.All
import OpenK.AllK
import Wide.FinOn
import HandS.ForMost
import HandS.TupAny
import HandS.SortInts
import HandS.Zip
import HandS.Deep
import HandS.IsInst
import HandS.Star
import HandS.DictComp
import HandS.Style
import HandS.SetFor
import KE.DataAny
import HandS.IterVal
import HandS.OwnIter
import KE.GoesMore
import PyProof.EnumMake
import PySem.Challenge.RW_plainask_k07_box_with_side
set_option Elab.async false
set_option linter.all false
set_option maxRecDepth 100000
namespace PL
open PySem L2

/-! ### what is known of values, of cells -/
def Ex (H H' : Hp) : Prop := ∀ a o, H a = some o → H' a = some o
theorem Ex.refl (H : Hp) : Ex H H := fun _ _ h => h
theorem Ex.trans {H H1 H2 : Hp} (a : Ex H H1) (b : Ex H1 H2) : Ex H H2 := fun x o h => b x o (a x o h)
theorem Ex.new {H : Hp} {p : Addr} {o : HO} (h : H p = none) : Ex H (upd H p o) := fun a u e => by
  rw [upd_ne (ne_of_none e h)]
  exact e
theorem Ex.none {H H' : Hp} {p : Addr} (e : Ex H H') (h : H' p = none) : H p = none := by
  cases h1 : H p with
  | none => rfl
  | some o => rw [e p o h1] at h; cases h
structure VP where
  p : Hp → V → Prop
  mono : ∀ {G G' v}, Ex G G' → p G v → p G' v
structure CP where
  p : Hp → HO → Prop
  mono : ∀ {G G' o}, Ex G G' → p G o → p G' o
inductive Sl where
  | d (P : VP) | c (k : Nat) | u
def Sl.ok (as : List Addr) (G : Hp) (v : V) : Sl → Prop
  | .d P => P.p G v
  | .c k => ∃ a, as[k]? = some a ∧ v = .ref a
  | .u => True
theorem pre_get {α : Type} {as as' : List α} {k : Nat} {a : α} (p : as <+: as') (h : as[k]? = some a) : as'[k]? = some a := by
  obtain ⟨r, rfl⟩ := p
  rw [List.getElem?_append_left (List.getElem?_eq_some_iff.mp h).1]
  exact h
theorem Sl.ok.mono {as as' : List Addr} {G G' : Hp} {v : V} {s : Sl} (e : Ex G G') (p : as <+: as') (h : s.ok as G v) : s.ok as' G' v := by
  cases s with
  | d P => exact P.mono e h
  | c k => obtain ⟨a, h1, h2⟩ := h; exact ⟨a, pre_get p h1, h2⟩
  | u => trivial
structure Fx where
  F : Hp
  G0 : Hp
  as0 : List Addr
structure Hs (fx : Fx) (M : List (Option CP)) (as : List Addr) (G H : Hp) : Prop where
  ex : Ex G H
  g0 : Ex fx.G0 G
  a0 : fx.as0 <+: as
  fr : ∀ a o, fx.F a = some o → H a = some o ∧ G a = none ∧ a ∉ as
  len : as.length = M.length
  nd : as.Nodup
  al : ∀ a ∈ as, H a ≠ none
  cells : ∀ (k : Nat) (a : Addr) (C : CP), as[k]? = some a → M[k]? = some (some C) → G a = none ∧ ∃ o, H a = some o ∧ C.p G o
structure Good (fx : Fx) (M : List (Option CP)) (Γ : List Sl) (as : List Addr) (G : Hp) (σ : L2.St) (H : Hp) : Prop where
  hs : Hs fx M as G H
  len : σ.length = Γ.length
  env : ∀ (i : Nat) (s : Sl), Γ[i]? = some s → s = .u ∨ ∃ v, σ[i]? = some (some v) ∧ s.ok as G v
abbrev Fx.at (fx : Fx) (G : Hp) (as : List Addr) : Fx := ⟨fx.F, G, as⟩
theorem Hs.re {fx : Fx} {M : List (Option CP)} {as : List Addr} {G H : Hp} (h : Hs fx M as G H) : Hs (fx.at G as) M as G H :=
  ⟨h.ex, Ex.refl _, List.prefix_refl _, h.fr, h.len, h.nd, h.al, h.cells⟩
theorem Hs.back {fx : Fx} {M M' : List (Option CP)} {as as' : List Addr} {G G' H H' : Hp} (h : Hs fx M as G H) (h' : Hs (fx.at G as) M' as' G' H') : Hs fx M' as' G' H' :=
  ⟨h'.ex, h.g0.trans h'.g0, h.a0.trans h'.a0, h'.fr, h'.len, h'.nd, h'.al, h'.cells⟩
theorem Good.lift {fx : Fx} {M M' : List (Option CP)} {Γ : List Sl} {as as' : List Addr} {G G' H H' : Hp} {σ : L2.St} (h : Good fx M Γ as G σ H) (h' : Hs (fx.at G as) M' as' G' H') : Good fx M' Γ as' G' σ H' :=
  ⟨h.hs.back h', h.len, fun i s e => (h.env i s e).imp id fun ⟨v, h1, h2⟩ => ⟨v, h1, h2.mono h'.g0 h'.a0⟩⟩

/-! ### judgements: K what is wanted of the result -/
abbrev Wt (fx : Fx) (M : List (Option CP)) (s : Sl) (Q : VK) : Prop := ∀ v as G H, Hs fx M as G H → s.ok as G v → Q v H
abbrev WtB (fx : Fx) (M : List (Option CP)) (b : Bool) (Q : Bool → Hp → Prop) : Prop := ∀ as G H, Hs fx M as G H → Q b H
inductive Slots (as : List Addr) (G : Hp) : List Sl → List V → Prop
  | nil : Slots as G [] []
  | cons {s : Sl} {v : V} {ss : List Sl} {vs : List V} : s.ok as G v → Slots as G ss vs → Slots as G (s :: ss) (v :: vs)
theorem Slots.mono {as as' : List Addr} {G G' : Hp} {ss : List Sl} {vs : List V} (e : Ex G G') (p : as <+: as') (h : Slots as G ss vs) : Slots as' G' ss vs := by
  induction h with
  | nil => exact .nil
  | cons h _ ih => exact .cons (h.mono e p) ih
theorem Slots.length {as : List Addr} {G : Hp} {ss : List Sl} {vs : List V} (h : Slots as G ss vs) : vs.length = ss.length := by
  induction h with
  | nil => rfl
  | cons _ _ ih => simp [ih]
abbrev WtA (fx : Fx) (M : List (Option CP)) (ss : List Sl) (Q : List V → Hp → Prop) : Prop := ∀ vs as G H, Hs fx M as G H → Slots as G ss vs → Q vs H
/-- evaluated from M, Γ: behind it M', the value is s -/
def EV (M : List (Option CP)) (Γ : List Sl) (te : TE) (M' : List (Option CP)) (s : Sl) : Prop :=
  ∀ fx as G σ H, Good fx M Γ as G σ H → ∀ Q : VK, Wt fx M' s Q → te σ H Q
def ET (M : List (Option CP)) (Γ : List Sl) (tt : TT) (M' : List (Option CP)) (b : Bool) : Prop :=
  ∀ fx as G σ H, Good fx M Γ as G σ H → ∀ Q : Bool → Hp → Prop, WtB fx M' b Q → tt σ H Q
def EA (M : List (Option CP)) (Γ : List Sl) (ta : TA) (M' : List (Option CP)) (ss : List Sl) : Prop :=
  ∀ fx as G σ H, Good fx M Γ as G σ H → ∀ Q : List V → Hp → Prop, WtA fx M' ss Q → ta σ H Q
def OPV (M : List (Option CP)) (r : R2) (s1 s2 : Sl) (M' : List (Option CP)) (s : Sl) : Prop :=
  ∀ fx as G H x y, Hs fx M as G H → s1.ok as G x → s2.ok as G y → ∀ Q : VK, Wt fx M' s Q → r x y H Q
def UNV (M : List (Option CP)) (r : V → Hp → VK → Prop) (s1 : Sl) (M' : List (Option CP)) (s : Sl) : Prop :=
  ∀ fx as G H x, Hs fx M as G H → s1.ok as G x → ∀ Q : VK, Wt fx M' s Q → r x H Q
def CBV (M : List (Option CP)) (r : List V → Hp → VK → Prop) (ss : List Sl) (M' : List (Option CP)) (s : Sl) : Prop :=
  ∀ fx as G H xs, Hs fx M as G H → Slots as G ss xs → ∀ Q : VK, Wt fx M' s Q → r xs H Q
/-- what follows, from M, Γ -/
def KV (fx : Fx) (M : List (Option CP)) (Γ : List Sl) (k : L2.St → Hp → Prop) : Prop := ∀ as G σ H, Good fx M Γ as G σ H → k σ H

section
variable {fx : Fx} {M M1 M2 M3 M' : List (Option CP)} {Γ Γ' : List Sl} {te ta tb tc : TE} {t t1 t2 : TT} {s s1 s2 s3 : Sl} {b b1 b2 : Bool} {r : R2} {D : Ends} {tu tw tz : TS} {i j k : Nat}

theorem ev_var (h : Γ[i]? = some s) (hu : s ≠ .u := by intro q; cases q) : EV M Γ (tVar i) M s := fun fx as G σ H g Q q => by
  rcases g.env i s h with e | ⟨v, h1, h2⟩
  · exact absurd e hu
  · exact ⟨v, h1, q v as G H g.hs h2⟩
theorem ev_op (ha : EV M Γ ta M1 s1) (hb : EV M1 Γ tb M2 s2) (ho : OPV M2 r s1 s2 M3 s) : EV M Γ (tOp r ta tb) M3 s := fun fx as G σ H g Q q => by
  refine ha (fx.at G as) as G σ H ⟨g.hs.re, g.len, g.env⟩ _ fun x as1 G1 H1 h1 o1 => ?_
  have g1 := g.lift h1
  refine hb (fx.at G1 as1) as1 G1 σ H1 ⟨g1.hs.re, g1.len, g1.env⟩ _ fun y as2 G2 H2 h2 o2 => ?_
  exact ho fx as2 G2 H2 x y (g1.lift h2).hs (o1.mono h2.g0 h2.a0) o2 Q q
theorem ev_un {r : V → Hp → VK → Prop} (ha : EV M Γ ta M1 s1) (ho : UNV M1 r s1 M2 s) : EV M Γ (tUn r ta) M2 s := fun fx as G σ H g Q q => by
  refine ha fx as G σ H g _ fun x as1 G1 H1 h1 o1 => ?_
  exact ho fx as1 G1 H1 x h1 o1 Q q
theorem ea_nil : EA M Γ tNil M [] := fun fx as G σ H g Q q => q [] as G H g.hs .nil
theorem ea_cons {tr : TA} {ss : List Sl} (ha : EV M Γ ta M1 s) (hr : EA M1 Γ tr M2 ss) : EA M Γ (tCons ta tr) M2 (s :: ss) := fun fx as G σ H g Q q => by
  refine ha (fx.at G as) as G σ H ⟨g.hs.re, g.len, g.env⟩ _ fun x as1 G1 H1 h1 o1 => ?_
  have g1 := g.lift h1
  refine hr (fx.at G1 as1) as1 G1 σ H1 ⟨g1.hs.re, g1.len, g1.env⟩ _ fun ys as2 G2 H2 h2 o2 => ?_
  exact q _ as2 G2 H2 (g1.lift h2).hs (.cons (o1.mono h2.g0 h2.a0) o2)
theorem ev_cb {r : List V → Hp → VK → Prop} {tr : TA} {ss : List Sl} (ha : EA M Γ tr M1 ss) (ho : CBV M1 r ss M2 s) : EV M Γ (tCB r tr) M2 s := fun fx as G σ H g Q q => by
  refine ha fx as G σ H g _ fun xs as1 G1 H1 h1 o1 => ?_
  exact ho fx as1 G1 H1 xs h1 o1 Q q
/-- the reading may be told otherwise -/
theorem ev_to {te te' : TE} (h : EV M Γ te M' s) (e : ∀ σ H Q, te σ H Q → te' σ H Q) : EV M Γ te' M' s := fun fx as G σ H g Q q => e _ _ _ (h fx as G σ H g Q q)

/-! ### tests -/
theorem et_and (h1 : ET M Γ t1 M1 b1) (h2 : b1 = true → ET M1 Γ t2 M1 b2) : ET M Γ (tAnd t1 t2) M1 (b1 && b2) := fun fx as G σ H g Q q => by
  refine h1 (fx.at G as) as G σ H ⟨g.hs.re, g.len, g.env⟩ _ fun as1 G1 H1 hs1 => ?_
  cases b1 with
  | true => exact iteT (h2 rfl fx as1 G1 σ H1 (g.lift hs1) Q q)
  | false => exact iteF (q as1 G1 H1 (g.hs.back hs1))
theorem et_or (h1 : ET M Γ t1 M1 b1) (h2 : b1 = false → ET M1 Γ t2 M1 b2) : ET M Γ (tOr t1 t2) M1 (b1 || b2) := fun fx as G σ H g Q q => by
  refine h1 (fx.at G as) as G σ H ⟨g.hs.re, g.len, g.env⟩ _ fun as1 G1 H1 hs1 => ?_
  cases b1 with
  | true => exact iteT (q as1 G1 H1 (g.hs.back hs1))
  | false => exact iteF (h2 rfl fx as1 G1 σ H1 (g.lift hs1) Q q)
theorem et_not (h1 : ET M Γ t1 M1 b1) : ET M Γ (tNot t1) M1 (!b1) := fun fx as G σ H g Q q => h1 fx as G σ H g _ fun as1 G1 H1 hs1 => q as1 G1 H1 hs1

/-! ### statements -/
theorem Good.set {as : List Addr} {G H : Hp} {σ : L2.St} {v : V} (g : Good fx M Γ as G σ H) (h : s.ok as G v) : Good fx M (Γ.set i s) as G (σ.set i (some v)) H :=
  ⟨g.hs, by rw [List.length_set, List.length_set, g.len], fun j s' e => by
    by_cases hj : i = j
    · subst hj
      have hl : i < Γ.length := by
        have := (List.getElem?_eq_some_iff.mp e).1
        rw [List.length_set] at this; exact this
      rw [List.getElem?_set_self hl] at e
      cases e
      exact .inr ⟨v, by rw [List.getElem?_set_self (by rw [g.len]; exact hl)], h⟩
    · rw [List.getElem?_set_ne hj] at e
      rcases g.env j s' e with q | ⟨u, h1, h2⟩
      · exact .inl q
      · exact .inr ⟨u, by rw [List.getElem?_set_ne hj]; exact h1, h2⟩⟩
theorem k_seq (h : KV fx M Γ (tu { D with nx := tz D })) : KV fx M Γ (tSeq tu tz D) := h
theorem k_asg (h : EV M Γ te M' s) (k : KV fx M' (Γ.set i s) D.nx) : KV fx M Γ (tAsg te (gName i) D) := fun as G σ H g => by
  refine h (fx.at G as) as G σ H ⟨g.hs.re, g.len, g.env⟩ _ fun v as1 G1 H1 h1 o1 => ?_
  exact k as1 G1 _ H1 ((g.lift h1).set o1)
theorem k_drop (h : EV M Γ te M' s) (k : KV fx M' Γ D.nx) : KV fx M Γ (tDrop te D) := fun as G σ H g => by
  refine h (fx.at G as) as G σ H ⟨g.hs.re, g.len, g.env⟩ _ fun v as1 G1 H1 h1 o1 => ?_
  exact k as1 G1 _ H1 (g.lift h1)
theorem k_if (h : ET M Γ t M' b) (h1 : b = true → KV fx M' Γ (tu D)) (h2 : b = false → KV fx M' Γ (tw D)) : KV fx M Γ (tIfS t tu tw D) := fun as G σ H g => by
  refine h (fx.at G as) as G σ H ⟨g.hs.re, g.len, g.env⟩ _ fun as1 G1 H1 hs1 => ?_
  cases b with
  | true => exact iteT (h1 rfl as1 G1 σ H1 (g.lift hs1))
  | false => exact iteF (h2 rfl as1 G1 σ H1 (g.lift hs1))
theorem k_nop (k : KV fx M Γ D.nx) : KV fx M Γ (tNext D) := k
/-- what is wanted of the value handed back -/
def Rt (fx : Fx) (M : List (Option CP)) (s : Sl) (Q : VK) : Prop := Wt fx M s Q
theorem k_ret (q : Rt fx M' s D.rt) (h : EV M Γ te M' s) : KV fx M Γ (tRet te D) := fun as G σ H g => h fx as G σ H g _ q
end
end PL

namespace PL
open PySem L2

/-! ### kinds of values -/
inductive Vs (G : Hp) : List VP → List V → Prop
  | nil : Vs G [] []
  | cons {P : VP} {v : V} {Ps : List VP} {vs : List V} : P.p G v → Vs G Ps vs → Vs G (P :: Ps) (v :: vs)
theorem Vs.mono {G G' : Hp} {Ps : List VP} {vs : List V} (e : Ex G G') (h : Vs G Ps vs) : Vs G' Ps vs := by
  induction h with
  | nil => exact .nil
  | cons h _ ih => exact .cons (VP.mono _ e h) ih
theorem Vs.length {G : Hp} {Ps : List VP} {vs : List V} (h : Vs G Ps vs) : vs.length = Ps.length := by
  induction h with
  | nil => rfl
  | cons _ _ ih => simp [ih]
theorem Vs.get {G : Hp} {Ps : List VP} {vs : List V} (h : Vs G Ps vs) : ∀ {i : Nat} {P : VP}, Ps[i]? = some P → ∃ v, vs[i]? = some v ∧ P.p G v := by
  induction h with
  | nil => intro i P e; simp at e
  | cons h _ ih =>
    intro i P e
    cases i with
    | zero => simp at e; subst e; exact ⟨_, rfl, h⟩
    | succ i => exact ih (by simpa using e)
theorem Vs.append {G : Hp} {Ps Qs : List VP} {vs ws : List V} (h : Vs G Ps vs) (k : Vs G Qs ws) : Vs G (Ps ++ Qs) (vs ++ ws) := by
  induction h with
  | nil => exact k
  | cons h _ ih => exact .cons h ih
theorem Vs.one {G : Hp} {P : VP} {v : V} (h : P.p G v) : Vs G [P] [v] := .cons h .nil
theorem Vs.take {G : Hp} {Ps : List VP} {vs : List V} (h : Vs G Ps vs) : ∀ n, Vs G (Ps.take n) (vs.take n) := by
  induction h with
  | nil => intro n; simp; exact .nil
  | cons h _ ih =>
    intro n
    cases n with
    | zero => exact .nil
    | succ n => exact .cons h (ih n)
theorem Vs.drop {G : Hp} {Ps : List VP} {vs : List V} (h : Vs G Ps vs) : ∀ n, Vs G (Ps.drop n) (vs.drop n) := by
  induction h with
  | nil => intro n; simp; exact .nil
  | cons h k ih =>
    intro n
    cases n with
    | zero => exact .cons h k
    | succ n => exact ih n
theorem Vs.set {G : Hp} {Ps : List VP} {vs : List V} {P : VP} {v : V} (h : Vs G Ps vs) (hp : P.p G v) : ∀ i, Vs G (Ps.set i P) (vs.set i v) := by
  induction h with
  | nil => intro i; exact .nil
  | cons h k ih =>
    intro i
    cases i with
    | zero => exact .cons hp k
    | succ i => exact .cons h (ih i)
def vI (i : Int) : VP := ⟨fun _ v => v = .int i, fun _ h => h⟩
def vB (b : Bool) : VP := ⟨fun _ v => v = .bl b, fun _ h => h⟩
def vN : VP := ⟨fun _ v => v = .non, fun _ h => h⟩
def vS (x : Str) : VP := ⟨fun _ v => v = .str x, fun _ h => h⟩
/-- a list, a tuple, either of them -/
def vLs (Ps : List VP) : VP := ⟨fun G v => ∃ a vs, v = .ref a ∧ G a = some (.lst vs) ∧ Ps.length ≤ 16777216 ∧ Vs G Ps vs, fun e ⟨a, vs, h1, h2, h3, h4⟩ => ⟨a, vs, h1, e a _ h2, h3, h4.mono e⟩⟩
def vTs (Ps : List VP) : VP := ⟨fun G v => ∃ a vs, v = .ref a ∧ G a = some (.tup vs) ∧ Ps.length ≤ 16777216 ∧ Vs G Ps vs, fun e ⟨a, vs, h1, h2, h3, h4⟩ => ⟨a, vs, h1, e a _ h2, h3, h4.mono e⟩⟩
def vQs (Ps : List VP) : VP := ⟨fun G v => ∃ a vs, v = .ref a ∧ (G a = some (.lst vs) ∨ G a = some (.tup vs)) ∧ Ps.length ≤ 16777216 ∧ Vs G Ps vs,
  fun e ⟨a, vs, h1, h2, h3, h4⟩ => ⟨a, vs, h1, h2.imp (e a _) (e a _), h3, h4.mono e⟩⟩
/-- the script, a list of the written part or locked -/
def vK (K : PySem.W.Frag) (ns : List Int) : VP := ⟨fun G v => ∃ a, v = .ref a ∧ SqL K G a (ns.map V.int) ∧ ns.length ≤ 63, fun e ⟨a, h1, h2, h3⟩ => ⟨a, h1, (show Same _ _ from e).seq h2, h3⟩⟩
def vEx {ρ : Type} (I : ρ → Prop) (P : ρ → VP) : VP := ⟨fun G v => ∃ r, I r ∧ (P r).p G v, fun e ⟨r, h1, h2⟩ => ⟨r, h1, (P r).mono e h2⟩⟩
/-- implied -/
def Sub (P P' : VP) : Prop := ∀ G v, P.p G v → P'.p G v
theorem Sub.rfl {P : VP} : Sub P P := fun _ _ h => h
theorem Sub.trans {P P' P'' : VP} (a : Sub P P') (b : Sub P' P'') : Sub P P'' := fun G v h => b G v (a G v h)
theorem sub_lq {Ps : List VP} : Sub (vLs Ps) (vQs Ps) := fun G v ⟨a, vs, h1, h2, h3, h4⟩ => ⟨a, vs, h1, .inl h2, h3, h4⟩
theorem sub_tq {Ps : List VP} : Sub (vTs Ps) (vQs Ps) := fun G v ⟨a, vs, h1, h2, h3, h4⟩ => ⟨a, vs, h1, .inr h2, h3, h4⟩
theorem Vs.sub {G : Hp} {Ps Qs : List VP} {vs : List V} (hl : Ps.length = Qs.length) (h : Vs G Ps vs) (hs : ∀ (i : Nat) (P Q : VP), Ps[i]? = some P → Qs[i]? = some Q → Sub P Q) : Vs G Qs vs := by
  induction h generalizing Qs with
  | nil => cases Qs with
    | nil => exact .nil
    | cons _ _ => simp at hl
  | cons h k ih => cases Qs with
    | nil => simp at hl
    | cons Q Qs => exact .cons (hs 0 _ _ rfl rfl _ _ h) (ih (by simpa using hl) fun i P Q a b => hs (i + 1) P Q (by simpa using a) (by simpa using b))
theorem Vs.submap {α : Type} {G : Hp} {R R' : α → VP} (hs : ∀ x, Sub (R x) (R' x)) : ∀ {xs : List α} {vs : List V}, Vs G (xs.map R) vs → Vs G (xs.map R') vs
  | [], _, .nil => .nil
  | _ :: _, _, .cons h k => .cons (hs _ _ _ h) (Vs.submap hs k)
theorem sub_l {α : Type} {R R' : α → VP} {xs : List α} (hs : ∀ x, Sub (R x) (R' x)) : Sub (vLs (xs.map R)) (vLs (xs.map R')) := fun G v ⟨a, vs, h1, h2, h3, h4⟩ => ⟨a, vs, h1, h2, by simpa using h3, h4.submap hs⟩
theorem sub_t {α : Type} {R R' : α → VP} {xs : List α} (hs : ∀ x, Sub (R x) (R' x)) : Sub (vTs (xs.map R)) (vTs (xs.map R')) := fun G v ⟨a, vs, h1, h2, h3, h4⟩ => ⟨a, vs, h1, h2, by simpa using h3, h4.submap hs⟩
theorem sub_q {α : Type} {R R' : α → VP} {xs : List α} (hs : ∀ x, Sub (R x) (R' x)) : Sub (vQs (xs.map R)) (vQs (xs.map R')) := fun G v ⟨a, vs, h1, h2, h3, h4⟩ => ⟨a, vs, h1, h2, by simpa using h3, h4.submap hs⟩
theorem sub_ex {ρ : Type} {I : ρ → Prop} {P : ρ → VP} {Q : VP} (h : ∀ r, I r → Sub (P r) Q) : Sub (vEx I P) Q := fun G v ⟨r, hr, k⟩ => h r hr G v k
theorem sub_in {ρ : Type} {I : ρ → Prop} {P : ρ → VP} {Q : VP} (r : ρ) (hr : I r) (h : Sub Q (P r)) : Sub Q (vEx I P) := fun G v k => ⟨r, hr, h G v k⟩
/-- a list of things each of which is some r -/
theorem Vs.ex {ρ : Type} {I : ρ → Prop} {P : ρ → VP} {G : Hp} : ∀ {n : Nat} {vs : List V}, Vs G (List.replicate n (vEx I P)) vs → ∃ rs : List ρ, rs.length = n ∧ (∀ r ∈ rs, I r) ∧ Vs G (rs.map P) vs
  | 0, _, .nil => ⟨[], rfl, fun _ h => (by simp at h), .nil⟩
  | n + 1, _, .cons ⟨r, hr, k⟩ t => by
    obtain ⟨rs, h1, h2, h3⟩ := Vs.ex t
    refine ⟨r :: rs, by simp [h1], fun x hx => ?_, .cons k h3⟩
    rcases List.mem_cons.mp hx with rfl | hx
    · exact hr
    · exact h2 x hx
theorem sub_lex {ρ : Type} {I : ρ → Prop} {P : ρ → VP} {n : Nat} : Sub (vLs (List.replicate n (vEx I P))) (vEx (fun rs : List ρ => rs.length = n ∧ ∀ r ∈ rs, I r) fun rs => vLs (rs.map P)) := fun G v ⟨a, vs, h1, h2, h3, h4⟩ => by
  obtain ⟨rs, k1, k2, k3⟩ := Vs.ex h4
  exact ⟨rs, ⟨k1, k2⟩, a, vs, h1, h2, by simpa [k1] using h3, k3⟩
/-! ### kinds of cells -/
def cLs (Ps : List VP) : CP := ⟨fun G o => ∃ vs, o = .lst vs ∧ Vs G Ps vs, fun e ⟨vs, h1, h2⟩ => ⟨vs, h1, h2.mono e⟩⟩
def cSrc : CP := ⟨fun _ o => ∃ x y z : Int, o = .lst [.int x, .int y, .int z], fun _ h => h⟩

/-! ### the heap grows -/
section
variable {fx : Fx} {M M1 M2 M3 M' : List (Option CP)} {Γ Γ' : List Sl} {as : List Addr} {G H : Hp} {p a : Addr} {o o' : HO} {C C' : CP} {k : Nat}
theorem Hs.gnone (h : Hs fx M as G H) (hp : H p = none) : G p = none := h.ex.none hp
theorem Hs.data (h : Hs fx M as G H) (hp : H p = none) : Hs (fx.at G as) M as (upd G p o) (upd H p o) where
  ex := fun b u e => by
    by_cases q : b = p
    · subst q; rw [upd_same] at e ⊢; exact e
    · rw [upd_ne q] at e ⊢; exact h.ex b u e
  g0 := Ex.new (h.gnone hp)
  a0 := List.prefix_refl _
  fr := fun b u e => by
    obtain ⟨h1, h2, h3⟩ := h.fr b u e
    have q : b ≠ p := ne_of_none h1 hp
    rw [upd_ne q, upd_ne q]; exact ⟨h1, h2, h3⟩
  len := h.len
  nd := h.nd
  al := fun b hb => by
    by_cases q : b = p
    · subst q; rw [upd_same]; exact fun z => by cases z
    · rw [upd_ne q]; exact h.al b hb
  cells := fun j b D hb hD => by
    obtain ⟨h1, u, h2, h3⟩ := h.cells j b D hb hD
    have q : b ≠ p := ne_of_none h2 hp
    rw [upd_ne q, upd_ne q]
    exact ⟨h1, u, h2, D.mono (Ex.new (h.gnone hp)) h3⟩
/-- a new thing that nobody speaks of -/
theorem Hs.junk (h : Hs fx M as G H) (hp : H p = none) : Hs (fx.at G as) M as G (upd H p o) where
  ex := h.ex.trans (Ex.new hp)
  g0 := Ex.refl _
  a0 := List.prefix_refl _
  fr := fun b u e => by
    obtain ⟨h1, h2, h3⟩ := h.fr b u e
    have q : b ≠ p := ne_of_none h1 hp
    rw [upd_ne q]; exact ⟨h1, h2, h3⟩
  len := h.len
  nd := h.nd
  al := fun b hb => by
    by_cases q : b = p
    · subst q; rw [upd_same]; exact fun z => by cases z
    · rw [upd_ne q]; exact h.al b hb
  cells := fun j b D hb hD => by
    obtain ⟨h1, u, h2, h3⟩ := h.cells j b D hb hD
    have q : b ≠ p := ne_of_none h2 hp
    rw [upd_ne q]
    exact ⟨h1, u, h2, h3⟩
theorem Hs.cell (h : Hs fx M as G H) (hp : H p = none) (hC : C.p G o) : Hs (fx.at G as) (M ++ [some C]) (as ++ [p]) G (upd H p o) where
  ex := h.ex.trans (Ex.new hp)
  g0 := Ex.refl _
  a0 := List.prefix_append _ _
  fr := fun b u e => by
    obtain ⟨h1, h2, h3⟩ := h.fr b u e
    have q : b ≠ p := ne_of_none h1 hp
    rw [upd_ne q]
    refine ⟨h1, h2, fun z => ?_⟩
    rcases List.mem_append.mp z with z | z
    · exact h3 z
    · exact q (List.mem_singleton.mp z)
  len := by rw [List.length_append, List.length_append, h.len] <;> rfl
  nd := by
    rw [List.nodup_append]
    refine ⟨h.nd, by simp, fun x hx y hy => ?_⟩
    rw [List.mem_singleton] at hy
    subst hy
    exact fun z => h.al x hx (by rw [z]; exact hp)
  al := fun b hb => by
    by_cases q : b = p
    · subst q; rw [upd_same]; exact fun z => by cases z
    · rw [upd_ne q]
      rcases List.mem_append.mp hb with z | z
      · exact h.al b z
      · exact absurd (List.mem_singleton.mp z) q
  cells := fun j b D hb hD => by
    by_cases hj : j < as.length
    · rw [List.getElem?_append_left hj] at hb
      rw [List.getElem?_append_left (by rw [← h.len]; exact hj)] at hD
      obtain ⟨h1, u, h2, h3⟩ := h.cells j b D hb hD
      rw [upd_ne (ne_of_none h2 hp)]
      exact ⟨h1, u, h2, h3⟩
    · have ej : j = as.length := by
        have := (List.getElem?_eq_some_iff.mp hb).1
        rw [List.length_append, List.length_singleton] at this
        omega
      subst ej
      rw [List.getElem?_append_right (Nat.le_refl _), Nat.sub_self] at hb
      rw [h.len, List.getElem?_append_right (Nat.le_refl _), Nat.sub_self] at hD
      have e1 : p = b := Option.some.inj hb
      have e2 : C = D := Option.some.inj (Option.some.inj hD)
      subst e1 e2
      exact ⟨h.gnone hp, o, upd_same, hC⟩
theorem Hs.inj (h : Hs fx M as G H) {j k : Nat} (h1 : as[j]? = some a) (h2 : as[k]? = some a) : j = k := nd_ix h.nd h1 h2
/-- a cell is written -/
theorem Hs.put (h : Hs fx M as G H) (ha : as[k]? = some a) (hM : M[k]? = some (some C)) (hC : C'.p G o') : Hs (fx.at G as) (M.set k (some C')) as G (upd H a o') where
  ex := fun b u e => by
    have q : b ≠ a := fun z => by
      have := (h.cells k a C ha hM).1
      rw [z, this] at e; cases e
    rw [upd_ne q]; exact h.ex b u e
  g0 := Ex.refl _
  a0 := List.prefix_refl _
  fr := fun b u e => by
    obtain ⟨h1, h2, h3⟩ := h.fr b u e
    have q : b ≠ a := fun z => h3 (by rw [z]; exact List.mem_of_getElem? ha)
    rw [upd_ne q]; exact ⟨h1, h2, h3⟩
  len := by rw [List.length_set]; exact h.len
  nd := h.nd
  al := fun b hb => by
    by_cases q : b = a
    · subst q; rw [upd_same]; exact fun z => by cases z
    · rw [upd_ne q]; exact h.al b hb
  cells := fun j b D hb hD => by
    by_cases hj : k = j
    · subst hj
      rw [List.getElem?_set_self (List.getElem?_eq_some_iff.mp hM).1] at hD
      rw [ha] at hb
      have e1 := Option.some.inj hb
      have e2 := Option.some.inj (Option.some.inj hD)
      subst e1 e2
      exact ⟨(h.cells k a C ha hM).1, o', upd_same, hC⟩
    · rw [List.getElem?_set_ne hj] at hD
      obtain ⟨h1, u, h2, h3⟩ := h.cells j b D hb hD
      have q : b ≠ a := fun z => hj (h.inj ha (by rw [← z]; exact hb))
      rw [upd_ne q]; exact ⟨h1, u, h2, h3⟩
/-- a cell is read for good: it is never written again -/
theorem Hs.freeze (h : Hs fx M as G H) (ha : as[k]? = some a) (hM : M[k]? = some (some C)) (ho : H a = some o) : Hs (fx.at G as) (M.set k none) as (upd G a o) H where
  ex := fun b u e => by
    by_cases q : b = a
    · subst q; rw [upd_same] at e; cases e; exact ho
    · rw [upd_ne q] at e; exact h.ex b u e
  g0 := Ex.new (h.cells k a C ha hM).1
  a0 := List.prefix_refl _
  fr := fun b u e => by
    obtain ⟨h1, h2, h3⟩ := h.fr b u e
    have q : b ≠ a := fun z => h3 (by rw [z]; exact List.mem_of_getElem? ha)
    rw [upd_ne q]; exact ⟨h1, h2, h3⟩
  len := by rw [List.length_set]; exact h.len
  nd := h.nd
  al := h.al
  cells := fun j b D hb hD => by
    by_cases hj : k = j
    · subst hj
      rw [List.getElem?_set_self (List.getElem?_eq_some_iff.mp hM).1] at hD
      cases hD
    · rw [List.getElem?_set_ne hj] at hD
      obtain ⟨h1, u, h2, h3⟩ := h.cells j b D hb hD
      have q : b ≠ a := fun z => hj (h.inj ha (by rw [← z]; exact hb))
      rw [upd_ne q]
      exact ⟨h1, u, h2, D.mono (Ex.new (h.cells k a C ha hM).1) h3⟩
/-- the last cells are forgotten -/
theorem Hs.cut (h : Hs fx (M ++ M1) as G H) (h0 : fx.as0.length ≤ M.length) : Hs fx M (as.take M.length) G H where
  ex := h.ex
  g0 := h.g0
  a0 := by
    obtain ⟨r, e⟩ := h.a0
    refine ⟨r.take (M.length - fx.as0.length), ?_⟩
    rw [← e, List.take_append, List.take_of_length_le h0]
  fr := fun b u e => by
    obtain ⟨h1, h2, h3⟩ := h.fr b u e
    exact ⟨h1, h2, fun z => h3 (List.mem_of_mem_take z)⟩
  len := by
    have := h.len
    rw [List.length_append] at this
    rw [List.length_take]; omega
  nd := h.nd.sublist (List.take_sublist _ _)
  al := fun b hb => h.al b (List.mem_of_mem_take hb)
  cells := fun j b D hb hD => by
    have hj : j < M.length := (List.getElem?_eq_some_iff.mp hD).1
    rw [List.getElem?_take_of_lt hj] at hb
    exact h.cells j b D hb (by rw [List.getElem?_append_left hj]; exact hD)
/-- the cells told otherwise -/
theorem Hs.cells_to (h : Hs fx M as G H) (hl : M'.length = M.length) (hc : ∀ (k : Nat) (C' : CP), M'[k]? = some (some C') → ∃ C, M[k]? = some (some C) ∧ ∀ G o, C.p G o → C'.p G o) : Hs fx M' as G H :=
  ⟨h.ex, h.g0, h.a0, h.fr, by rw [hl]; exact h.len, h.nd, h.al, fun k a C' ha hC => by
    obtain ⟨C, e, i⟩ := hc k C' hC
    obtain ⟨h1, o, h2, h3⟩ := h.cells k a C ha e
    exact ⟨h1, o, h2, i _ _ h3⟩⟩
end

/-! ### slots and states told otherwise -/
def SlLe (s s' : Sl) : Prop := s' = .u ∨ (s = s' ∧ s ≠ .u) ∨ ∃ P P', s = .d P ∧ s' = .d P' ∧ Sub P P'
theorem SlLe.ok {as : List Addr} {G : Hp} {v : V} {s s' : Sl} (h : SlLe s s') (o : s.ok as G v) : s'.ok as G v := by
  rcases h with rfl | ⟨rfl, _⟩ | ⟨P, P', rfl, rfl, i⟩
  · trivial
  · exact o
  · exact i _ _ o
theorem sle_u {s : Sl} : SlLe s .u := .inl rfl
theorem sle_d {P : VP} : SlLe (.d P) (.d P) := .inr (.inl ⟨rfl, fun q => by cases q⟩)
theorem sle_c {k : Nat} : SlLe (.c k) (.c k) := .inr (.inl ⟨rfl, fun q => by cases q⟩)
theorem sle_s {P P' : VP} (h : Sub P P') : SlLe (.d P) (.d P') := .inr (.inr ⟨P, P', rfl, rfl, h⟩)
inductive GLe : List Sl → List Sl → Prop
  | nil : GLe [] []
  | cons {s s' : Sl} {Γ Γ' : List Sl} : SlLe s s' → GLe Γ Γ' → GLe (s :: Γ) (s' :: Γ')
theorem GLe.same : ∀ {Γ : List Sl}, GLe Γ Γ
  | [] => .nil
  | .d _ :: _ => .cons sle_d GLe.same
  | .c _ :: _ => .cons sle_c GLe.same
  | .u :: _ => .cons sle_u GLe.same
theorem GLe.length {Γ Γ' : List Sl} (h : GLe Γ Γ') : Γ'.length = Γ.length := by
  induction h with
  | nil => rfl
  | cons _ _ ih => simp [ih]
theorem GLe.get {Γ Γ' : List Sl} (h : GLe Γ Γ') : ∀ {i : Nat} {s' : Sl}, Γ'[i]? = some s' → ∃ s, Γ[i]? = some s ∧ SlLe s s' := by
  induction h with
  | nil => intro i s' e; simp at e
  | cons a _ ih =>
    intro i s' e
    cases i with
    | zero => simp at e; subst e; exact ⟨_, rfl, a⟩
    | succ i => exact ih (by simpa using e)
theorem Good.le {fx : Fx} {M : List (Option CP)} {Γ Γ' : List Sl} {as : List Addr} {G H : Hp} {σ : L2.St} (g : Good fx M Γ as G σ H) (h : GLe Γ Γ') : Good fx M Γ' as G σ H :=
  ⟨g.hs, by rw [h.length]; exact g.len, fun i s' e => by
    obtain ⟨s, h1, h2⟩ := h.get e
    rcases g.env i s h1 with rfl | ⟨v, h3, h4⟩
    · rcases h2 with q | ⟨q, q2⟩ | ⟨P, P', q, _⟩
      · exact .inl q
      · exact absurd rfl q2
      · cases q
    · exact .inr ⟨v, h3, h2.ok h4⟩⟩
theorem kv_le {fx : Fx} {M : List (Option CP)} {Γ Γ' : List Sl} {k : L2.St → Hp → Prop} (h : GLe Γ Γ') (q : KV fx M Γ' k) : KV fx M Γ k := fun as G σ H g => q as G σ H (g.le h)
/-- Γ from M cells down to fewer -/
theorem Good.cut {fx : Fx} {M M1 : List (Option CP)} {Γ : List Sl} {as : List Addr} {G H : Hp} {σ : L2.St} (g : Good fx (M ++ M1) Γ as G σ H) (h0 : fx.as0.length ≤ M.length) (hc : ∀ (i k : Nat), Γ[i]? = some (Sl.c k) → k < M.length) : Good fx M Γ (as.take M.length) G σ H :=
  ⟨g.hs.cut h0, g.len, fun i s e => (g.env i s e).imp id fun ⟨v, h1, h2⟩ => ⟨v, h1, by
    cases s with
    | d P => exact h2
    | u => trivial
    | c k =>
      obtain ⟨a, h3, h4⟩ := h2
      exact ⟨a, by rw [List.getElem?_take_of_lt (hc i k e)]; exact h3, h4⟩⟩⟩
end PL

namespace PL
open PySem L2

/-- exactly x -/
def vV (x : V) : VP := ⟨fun _ v => v = x, fun _ h => h⟩
theorem sz_eq {n : Nat} (h : n ≤ 16777216) : n ≤ sizeLine := by rw [show (sizeLine : Nat) = 16777216 from sizeLine_eq]; exact h
theorem sz_lt {n : Nat} (h : n < 16777216) : n < sizeLine := by rw [show (sizeLine : Nat) = 16777216 from sizeLine_eq]; exact h
section
variable {K : PySem.W.Frag} {fx : Fx} {M M1 M2 M3 M' : List (Option CP)} {Γ Γ' : List Sl} {te ta tb tc : TE} {t t1 t2 : TT} {s s1 s2 s3 : Sl} {b b1 b2 : Bool} {r : R2} {D : Ends} {tu tw tz : TS} {i j k : Nat}
  {x y : V} {m n : Int} {P Q : VP} {Ps Qs : List VP}

theorem ev_c : EV M Γ (tC x) M (.d (vV x)) := fun fx as G σ H g Q q => q x as G H g.hs rfl
theorem ev_sub (h : EV M Γ te M' (.d P)) (hs : Sub P Q) : EV M Γ te M' (.d Q) := fun fx as G σ H g R q => h fx as G σ H g R fun v as' G' H' h1 h2 => q v as' G' H' h1 (hs _ _ h2)
theorem opv_I0 {g : Int → Int → V} : OPV M (rI0 g) (.d (vV (.int m))) (.d (vV (.int n))) M (.d (vV (g m n))) := fun fx as G H x y h h1 h2 Q q =>
  ⟨m, n, h1, h2, q _ as G H h rfl⟩
theorem opv_I {C : Int → Int → Prop} {g : Int → Int → V} (hc : C m n) : OPV M (rI C g) (.d (vV (.int m))) (.d (vV (.int n))) M (.d (vV (g m n))) := fun fx as G H x y h h1 h2 Q q =>
  ⟨m, n, h1, h2, hc, q _ as G H h rfl⟩
theorem unv_U {g : Int → V} : UNV M (rU g) (.d (vV (.int m))) M (.d (vV (g m))) := fun fx as G H x h h1 Q q => ⟨m, h1, q _ as G H h rfl⟩
theorem opv_eq (hs : scal x y = true) : OPV M rEq (.d (vV x)) (.d (vV y)) M (.d (vV (.bl (decide (x = y))))) := fun fx as G H x' y' h h1 h2 Q q => by
  obtain rfl : x' = x := h1
  obtain rfl : y' = y := h2
  exact ⟨hs, q _ as G H h rfl⟩
theorem opv_ne (hs : scal x y = true) : OPV M rNe (.d (vV x)) (.d (vV y)) M (.d (vV (.bl (!decide (x = y))))) := fun fx as G H x' y' h h1 h2 Q q => by
  obtain rfl : x' = x := h1
  obtain rfl : y' = y := h2
  exact ⟨hs, q _ as G H h rfl⟩
theorem dec_int : decide (V.int m = V.int n) = decide (m = n) := by
  by_cases h : m = n
  · subst h; simp
  · rw [decide_eq_false h, decide_eq_false fun q => h (V.int.inj q)]
theorem opv_eqI : OPV M rEq (.d (vV (.int m))) (.d (vV (.int n))) M (.d (vV (.bl (decide (m = n))))) := by
  have := opv_eq (M := M) (x := .int m) (y := .int n) rfl
  rw [dec_int] at this; exact this
theorem opv_neI : OPV M rNe (.d (vV (.int m))) (.d (vV (.int n))) M (.d (vV (.bl (!decide (m = n))))) := by
  have := opv_ne (M := M) (x := .int m) (y := .int n) rfl
  rw [dec_int] at this; exact this

/-! ### tests -/
theorem et_test (h : EV M Γ te M' (.d (vV (.bl b)))) : ET M Γ (tTest te) M' b := fun fx as G σ H g Q q => h fx as G σ H g _ fun v as' G' H' h1 h2 => ⟨b, h2, q as' G' H' h1⟩
theorem et_B (h : EV M Γ te M' (.d (vV (.bl b)))) : ET M Γ (tB te) M' b := fun fx as G σ H g Q q => h fx as G σ H g _ fun v as' G' H' h1 h2 => ⟨b, h2, q as' G' H' h1⟩
theorem et_is (h : ET M Γ t M' b1) (e : b1 = b) : ET M Γ t M' b := e ▸ h
theorem ev_is (h : EV M Γ te M' (.d (vV x))) (e : x = y) : EV M Γ te M' (.d (vV y)) := e ▸ h
theorem et_yes : ET M Γ tYes M true := fun fx as G σ H g Q q => q as G H g.hs
/-- truth of a list, a tuple -/
theorem et_truL {a : VP} (h : EV M Γ te M' (.d (vQs Ps))) : ET M Γ (fun σ H Q => te σ H fun x H1 => ∃ k, TruV K x H1 k ∧ Q k H1) M' (!Ps.isEmpty) := fun fx as G σ H g Q q =>
  h fx as G σ H g _ fun v as' G' H' h1 ⟨a, vs, e, h2, h3, h4⟩ => by
    subst e
    have ee : (!vs.isEmpty) = !Ps.isEmpty := by cases h4 <;> rfl
    refine ⟨!Ps.isEmpty, ?_, q as' G' H' h1⟩
    rcases h2 with h2 | h2
    · exact .inl ⟨vs, SqL.of (h1.ex _ _ h2), ee.symm⟩
    · exact .inr (.inl ⟨vs, SqT.of (h1.ex _ _ h2), ee.symm⟩)
theorem ev_ifE (h : ET M Γ t M1 b) (h1 : b = true → EV M1 Γ ta M2 s) (h2 : b = false → EV M1 Γ tb M2 s) : EV M Γ (tIf t ta tb) M2 s := fun fx as G σ H g Q q => by
  refine h (fx.at G as) as G σ H ⟨g.hs.re, g.len, g.env⟩ _ fun as1 G1 H1 hs1 => ?_
  cases b with
  | true => exact iteT (h1 rfl fx as1 G1 σ H1 (g.lift hs1) Q q)
  | false => exact iteF (h2 rfl fx as1 G1 σ H1 (g.lift hs1) Q q)
theorem ev_andV (h1 : EV M Γ ta M1 (.d (vV (.bl b1)))) (h2 : b1 = true → EV M1 Γ tb M1 (.d (vV (.bl b2)))) : EV M Γ (tAndV ta tb) M1 (.d (vV (.bl (b1 && b2)))) := fun fx as G σ H g Q q => by
  refine h1 (fx.at G as) as G σ H ⟨g.hs.re, g.len, g.env⟩ _ fun v as1 G1 H1 hs1 e => ?_
  refine ⟨b1, e, ?_⟩
  cases b1 with
  | true => exact iteT (h2 rfl fx as1 G1 σ H1 (g.lift hs1) Q q)
  | false => exact iteF (q _ as1 G1 H1 (g.hs.back hs1) rfl)
theorem ev_orV (h1 : EV M Γ ta M1 (.d (vV (.bl b1)))) (h2 : b1 = false → EV M1 Γ tb M1 (.d (vV (.bl b2)))) : EV M Γ (tOrV ta tb) M1 (.d (vV (.bl (b1 || b2)))) := fun fx as G σ H g Q q => by
  refine h1 (fx.at G as) as G σ H ⟨g.hs.re, g.len, g.env⟩ _ fun v as1 G1 H1 hs1 e => ?_
  refine ⟨b1, e, ?_⟩
  cases b1 with
  | true => exact iteT (q _ as1 G1 H1 (g.hs.back hs1) rfl)
  | false => exact iteF (h2 rfl fx as1 G1 σ H1 (g.lift hs1) Q q)
theorem ev_notV (h1 : EV M Γ ta M1 (.d (vV (.bl b1)))) : EV M Γ (tNotV ta) M1 (.d (vV (.bl (!b1)))) := fun fx as G σ H g Q q =>
  h1 fx as G σ H g _ fun v as1 G1 H1 hs1 e => ⟨b1, e, q _ as1 G1 H1 hs1 rfl⟩

/-! ### new lists, tuples -/
inductive AllD : List Sl → List VP → Prop
  | nil : AllD [] []
  | cons {P : VP} {ss : List Sl} {Ps : List VP} : AllD ss Ps → AllD (.d P :: ss) (P :: Ps)
theorem AllD.vs {as : List Addr} {G : Hp} {ss : List Sl} {vs : List V} (h : AllD ss Ps) (o : Slots as G ss vs) : Vs G Ps vs := by
  induction h generalizing vs with
  | nil => cases o; exact .nil
  | cons _ ih => cases o with
    | cons h1 h2 => exact .cons h1 (ih h2)
theorem ev_tup {tr : TA} {ss : List Sl} (h : EA M Γ tr M' ss) (hd : AllD ss Ps) (hl : Ps.length ≤ 16777216 := by first | decide | exact Nat.le_of_ble_eq_true rfl) : EV M Γ (tTup tr) M' (.d (vTs Ps)) := fun fx as G σ H g Q q =>
  h fx as G σ H g _ fun vs as1 G1 H1 h1 o => by
    have v := hd.vs o
    refine ⟨sz_eq (by rw [v.length]; exact hl), fun p hp => ?_⟩
    exact q _ as1 _ _ (h1.back (h1.data hp)) ⟨p, vs, rfl, upd_same, hl, v.mono (Ex.new (h1.gnone hp))⟩
/-- a new list, a cell -/
theorem ev_lstC {tr : TA} {ss : List Sl} (h : EA M Γ tr M' ss) (hd : AllD ss Ps) (hl : Ps.length ≤ 16777216 := by first | decide | exact Nat.le_of_ble_eq_true rfl) : EV M Γ (tLst tr) (M' ++ [some (cLs Ps)]) (.c M'.length) := fun fx as G σ H g Q q =>
  h fx as G σ H g _ fun vs as1 G1 H1 h1 o => by
    have v := hd.vs o
    refine ⟨sz_eq (by rw [v.length]; exact hl), fun p hp => ?_⟩
    refine q _ (as1 ++ [p]) G1 _ (h1.back (h1.cell hp ⟨vs, rfl, v⟩)) ⟨p, ?_, rfl⟩
    rw [← h1.len, List.getElem?_append_right (Nat.le_refl _), Nat.sub_self] <;> rfl
theorem ev_lst {tr : TA} {ss : List Sl} (h : EA M Γ tr M' ss) (hd : AllD ss Ps) (hl : Ps.length ≤ 16777216 := by first | decide | exact Nat.le_of_ble_eq_true rfl) : EV M Γ (tLst tr) M' (.d (vLs Ps)) := fun fx as G σ H g Q q =>
  h fx as G σ H g _ fun vs as1 G1 H1 h1 o => by
    have v := hd.vs o
    refine ⟨sz_eq (by rw [v.length]; exact hl), fun p hp => ?_⟩
    exact q _ as1 _ _ (h1.back (h1.data hp)) ⟨p, vs, rfl, upd_same, hl, v.mono (Ex.new (h1.gnone hp))⟩

/-! ### places -/
theorem atI_vs {G : Hp} {vs : List V} {i : Int} (h : Vs G Ps vs) (ha : atI Ps i = some P) : ∃ v, atI vs i = some v ∧ P.p G v := by
  unfold atI at ha ⊢
  rw [h.length]
  cases e : ixN Ps.length i with
  | none => rw [e] at ha; cases ha
  | some j => rw [e] at ha; exact h.get ha
theorem opv_ixL (ha : atI Ps n = some P) : OPV M (rIx K) (.d (vLs Ps)) (.d (vV (.int n))) M (.d P) := fun fx as G H x y h ⟨a, vs, e1, e2, e3, e4⟩ h2 Q q => by
  obtain ⟨v, h3, h4⟩ := atI_vs e4 ha
  exact .inl ⟨a, vs, n, v, e1, h2, SqL.of (h.ex _ _ e2), h3, q v as G H h h4⟩
theorem opv_ixT (ha : atI Ps n = some P) : OPV M (rIx K) (.d (vTs Ps)) (.d (vV (.int n))) M (.d P) := fun fx as G H x y h ⟨a, vs, e1, e2, e3, e4⟩ h2 Q q => by
  obtain ⟨v, h3, h4⟩ := atI_vs e4 ha
  exact .inr (.inl ⟨a, vs, n, v, e1, h2, SqT.of (h.ex _ _ e2), h3, q v as G H h h4⟩)
theorem opv_ixQ (ha : atI Ps n = some P) : OPV M (rIx K) (.d (vQs Ps)) (.d (vV (.int n))) M (.d P) := fun fx as G H x y h ⟨a, vs, e1, e2, e3, e4⟩ h2 Q q => by
  obtain ⟨v, h3, h4⟩ := atI_vs e4 ha
  rcases e2 with e2 | e2
  · exact .inl ⟨a, vs, n, v, e1, h2, SqL.of (h.ex _ _ e2), h3, q v as G H h h4⟩
  · exact .inr (.inl ⟨a, vs, n, v, e1, h2, SqT.of (h.ex _ _ e2), h3, q v as G H h h4⟩)
theorem opv_ixC {C : CP} (hM : M[k]? = some (some (cLs Ps))) (ha : atI Ps n = some P) : OPV M (rIx K) (.c k) (.d (vV (.int n))) M (.d P) := fun fx as G H x y h ⟨a, e0, e1⟩ h2 Q q => by
  obtain ⟨g1, o, g2, vs, rfl, g3⟩ := h.cells k a _ e0 hM
  obtain ⟨v, h3, h4⟩ := atI_vs g3 ha
  exact .inl ⟨a, vs, n, v, e1, h2, SqL.of g2, h3, q v as G H h h4⟩
/-- an item of a source: some int -/
def vSome : VP := vEx (fun _ : Int => True) fun i => vV (.int i)
theorem opv_ixK {ns : List Int} (ha : atI ns n = some m) : OPV M (rIx K) (.d (vK K ns)) (.d (vV (.int n))) M (.d (vV (.int m))) := fun fx as G H x y h ⟨a, e1, e2, e3⟩ h2 Q q => by
  refine .inl ⟨a, _, n, .int m, e1, h2, (show Same _ _ from h.ex).seq e2, ?_, q _ as G H h rfl⟩
  unfold atI at ha ⊢
  rw [List.length_map]
  cases e : ixN ns.length n with
  | none => rw [e] at ha; cases ha
  | some j => rw [e] at ha; simp only [Option.bind_some] at ha ⊢; rw [List.getElem?_map, ha]; rfl
/-! ### len, list(), tuple() -/
theorem cb_len : CBV M (fun xs H Q => ∃ p ys, xs = [.ref p] ∧ (SqL K H p ys ∨ SqT K H p ys) ∧ Q (.int ys.length) H) [.d (vQs Ps)] M (.d (vV (.int (Ps.length : Nat)))) := fun fx as G H xs h o Q q => by
  cases o with
  | cons o1 o2 =>
    cases o2
    obtain ⟨a, vs, rfl, e2, e3, e4⟩ := o1
    refine ⟨a, vs, rfl, ?_, ?_⟩
    · exact e2.imp (fun e => SqL.of (h.ex _ _ e)) fun e => SqT.of (h.ex _ _ e)
    · rw [e4.length]; exact q _ as G H h rfl
theorem cb_lenC (hM : M[k]? = some (some (cLs Ps))) : CBV M (fun xs H Q => ∃ p ys, xs = [.ref p] ∧ (SqL K H p ys ∨ SqT K H p ys) ∧ Q (.int ys.length) H) [.c k] M (.d (vV (.int (Ps.length : Nat)))) := fun fx as G H xs h o Q q => by
  cases o with
  | cons o1 o2 =>
    cases o2
    obtain ⟨a, e0, rfl⟩ := o1
    obtain ⟨g1, o, g2, vs, rfl, g3⟩ := h.cells k a _ e0 hM
    exact ⟨a, vs, rfl, .inl (SqL.of g2), by rw [g3.length]; exact q _ as G H h rfl⟩
theorem cb_lenK {ns : List Int} : CBV M (fun xs H Q => ∃ p ys, xs = [.ref p] ∧ (SqL K H p ys ∨ SqT K H p ys) ∧ Q (.int ys.length) H) [.d (vK K ns)] M (.d (vV (.int (ns.length : Nat)))) := fun fx as G H xs h o Q q => by
  cases o with
  | cons o1 o2 =>
    cases o2
    obtain ⟨a, rfl, e2, e3⟩ := o1
    exact ⟨a, _, rfl, .inl ((show Same _ _ from h.ex).seq e2), by rw [List.length_map]; exact q _ as G H h rfl⟩
theorem cb_listC : CBV M (fun xs H Q => ∃ p ys, xs = [.ref p] ∧ (SqL K H p ys ∨ SqT K H p ys) ∧ ∀ l, H l = none → Q (.ref l) (upd H l (.lst ys))) [.d (vQs Ps)] (M ++ [some (cLs Ps)]) (.c M.length) := fun fx as G H xs h o Q q => by
  cases o with
  | cons o1 o2 =>
    cases o2
    obtain ⟨a, vs, rfl, e2, e3, e4⟩ := o1
    refine ⟨a, vs, rfl, e2.imp (fun e => SqL.of (h.ex _ _ e)) fun e => SqT.of (h.ex _ _ e), fun p hp => ?_⟩
    refine q _ (as ++ [p]) G _ (h.back (h.cell hp ⟨vs, rfl, e4⟩)) ⟨p, ?_, rfl⟩
    rw [← h.len, List.getElem?_append_right (Nat.le_refl _), Nat.sub_self] <;> rfl
theorem cb_list : CBV M (fun xs H Q => ∃ p ys, xs = [.ref p] ∧ (SqL K H p ys ∨ SqT K H p ys) ∧ ∀ l, H l = none → Q (.ref l) (upd H l (.lst ys))) [.d (vQs Ps)] M (.d (vLs Ps)) := fun fx as G H xs h o Q q => by
  cases o with
  | cons o1 o2 =>
    cases o2
    obtain ⟨a, vs, rfl, e2, e3, e4⟩ := o1
    refine ⟨a, vs, rfl, e2.imp (fun e => SqL.of (h.ex _ _ e)) fun e => SqT.of (h.ex _ _ e), fun p hp => ?_⟩
    exact q _ as _ _ (h.back (h.data hp)) ⟨p, vs, rfl, upd_same, e3, e4.mono (Ex.new (h.gnone hp))⟩
theorem cb_tuple : CBV M (fun xs H Q => ∃ p ys, xs = [.ref p] ∧ ((SqL K H p ys ∧ ∀ l, H l = none → Q (.ref l) (upd H l (.tup ys))) ∨ (SqT K H p ys ∧ Q (.ref p) H))) [.d (vQs Ps)] M (.d (vTs Ps)) := fun fx as G H xs h o Q q => by
  cases o with
  | cons o1 o2 =>
    cases o2
    obtain ⟨a, vs, rfl, e2, e3, e4⟩ := o1
    refine ⟨a, vs, rfl, ?_⟩
    rcases e2 with e2 | e2
    · refine .inl ⟨SqL.of (h.ex _ _ e2), fun p hp => ?_⟩
      exact q _ as _ _ (h.back (h.data hp)) ⟨p, vs, rfl, upd_same, e3, e4.mono (Ex.new (h.gnone hp))⟩
    · exact .inr ⟨SqT.of (h.ex _ _ e2), q _ as G H h ⟨a, vs, rfl, e2, e3, e4⟩⟩
/-! ### int(), max, min, sorted, all, any, sum -/
theorem cb_int : CBV M (fun xs H Q => (∃ i, xs = [.int i] ∧ Q (.int i) H) ∨ ∃ k, xs = [.bl k] ∧ Q (.int (if k then 1 else 0)) H) [.d (vV (.int n))] M (.d (vV (.int n))) := fun fx as G H xs h o Q q => by
  cases o with
  | cons o1 o2 =>
    cases o2
    obtain rfl : _ = V.int n := o1
    exact .inl ⟨n, rfl, q _ as G H h rfl⟩
theorem cb_intB : CBV M (fun xs H Q => (∃ i, xs = [.int i] ∧ Q (.int i) H) ∨ ∃ k, xs = [.bl k] ∧ Q (.int (if k then 1 else 0)) H) [.d (vV (.bl b))] M (.d (vV (.int (if b then 1 else 0)))) := fun fx as G H xs h o Q q => by
  cases o with
  | cons o1 o2 =>
    cases o2
    obtain rfl : _ = V.bl b := o1
    exact .inr ⟨b, rfl, q _ as G H h rfl⟩
theorem cb_max2 : CBV M (fun xs H Q => ∃ i j, xs = [.int i, .int j] ∧ Q (.int (if j > i then j else i)) H) [.d (vV (.int m)), .d (vV (.int n))] M (.d (vV (.int (if n > m then n else m)))) := fun fx as G H xs h o Q q => by
  cases o with
  | cons o1 o2 =>
    cases o2 with
    | cons o2 o3 =>
      cases o3
      obtain rfl : _ = V.int m := o1
      obtain rfl : _ = V.int n := o2
      exact ⟨m, n, rfl, q _ as G H h rfl⟩
theorem cb_min2 : CBV M (fun xs H Q => ∃ i j, xs = [.int i, .int j] ∧ Q (.int (if j < i then j else i)) H) [.d (vV (.int m)), .d (vV (.int n))] M (.d (vV (.int (if n < m then n else m)))) := fun fx as G H xs h o Q q => by
  cases o with
  | cons o1 o2 =>
    cases o2 with
    | cons o2 o3 =>
      cases o3
      obtain rfl : _ = V.int m := o1
      obtain rfl : _ = V.int n := o2
      exact ⟨m, n, rfl, q _ as G H h rfl⟩
theorem vs_ints {G : Hp} : ∀ {ns : List Int} {vs : List V}, Vs G (ns.map fun n => vV (.int n)) vs → vs = ns.map V.int
  | [], _, .nil => rfl
  | n :: ns, _, .cons h t => by
    obtain rfl : _ = V.int n := h
    rw [vs_ints t] <;> rfl
theorem ints_vs {G : Hp} : ∀ ns : List Int, Vs G (ns.map fun n => vV (.int n)) (ns.map V.int)
  | [] => .nil
  | n :: ns => .cons rfl (ints_vs ns)
theorem vs_bools {G : Hp} : ∀ {ns : List Bool} {vs : List V}, Vs G (ns.map fun n => vV (.bl n)) vs → vs = ns.map V.bl
  | [], _, .nil => rfl
  | n :: ns, _, .cons h t => by
    obtain rfl : _ = V.bl n := h
    rw [vs_bools t] <;> rfl
abbrev vIs (ns : List Int) : List VP := ns.map fun n => vV (.int n)
abbrev vBs (ns : List Bool) : List VP := ns.map fun n => vV (.bl n)
theorem perm_sorted {as bs : List Int} (hp : as.Perm bs) (ha : as.Pairwise (· ≤ ·)) (hb : bs.Pairwise (· ≤ ·)) : as = bs :=
  hp.eq_of_pairwise (fun a b _ _ h1 h2 => Int.le_antisymm h1 h2) ha hb
def srt (ns : List Int) : List Int := ns.mergeSort (fun a b => decide (a ≤ b))
theorem srt_perm (ns : List Int) : (srt ns).Perm ns := List.mergeSort_perm _ _
theorem srt_pw (ns : List Int) : (srt ns).Pairwise (· ≤ ·) := by
  have := List.pairwise_mergeSort (le := fun a b : Int => decide (a ≤ b)) (fun a b c h1 h2 => by simp at *; omega) (fun a b => by simp; omega) ns
  exact this.imp fun h => by simpa using h
theorem cb_sorted {ns : List Int} : CBV M (rSortedI K) [.d (vLs (vIs ns))] M (.d (vLs (vIs (srt ns)))) := fun fx as G H xs h o Q q => by
  cases o with
  | cons o1 o2 =>
    cases o2
    obtain ⟨a, vs, rfl, e2, e3, e4⟩ := o1
    have e := vs_ints e4
    subst e
    refine ⟨a, ns, rfl, SqL.of (h.ex _ _ e2), fun ns' p h1 h2 hp => ?_⟩
    have ens : ns' = srt ns := perm_sorted (h1.trans (srt_perm ns).symm) h2 (srt_pw ns)
    subst ens
    refine q _ as _ _ (h.back (h.data hp)) ⟨p, _, rfl, upd_same, ?_, ints_vs _⟩
    rw [List.length_map, (srt_perm ns).length_eq]
    rw [List.length_map] at e3; exact e3
theorem cb_all {bs : List Bool} : CBV M (rAll K) [.d (vLs (vBs bs))] M (.d (vV (.bl (bs.all id)))) := fun fx as G H xs h o Q q => by
  cases o with
  | cons o1 o2 =>
    cases o2
    obtain ⟨a, vs, rfl, e2, e3, e4⟩ := o1
    have e := vs_bools e4
    subst e
    exact ⟨a, bs, rfl, SqL.of (h.ex _ _ e2), q _ as G H h rfl⟩
theorem cb_any {bs : List Bool} : CBV M (rAny K) [.d (vLs (vBs bs))] M (.d (vV (.bl (bs.any id)))) := fun fx as G H xs h o Q q => by
  cases o with
  | cons o1 o2 =>
    cases o2
    obtain ⟨a, vs, rfl, e2, e3, e4⟩ := o1
    have e := vs_bools e4
    subst e
    exact ⟨a, bs, rfl, SqL.of (h.ex _ _ e2), q _ as G H h rfl⟩
theorem cb_sum {ns : List Int} : CBV M (rSum K) [.d (vLs (vIs ns))] M (.d (vV (.int ns.sum))) := fun fx as G H xs h o Q q => by
  cases o with
  | cons o1 o2 =>
    cases o2
    obtain ⟨a, vs, rfl, e2, e3, e4⟩ := o1
    have e := vs_ints e4
    subst e
    exact ⟨a, ns, rfl, SqL.of (h.ex _ _ e2), q _ as G H h rfl⟩
end
end PL

namespace PL
open PySem L2
section
variable {K : PySem.W.Frag} {fx fx' : Fx} {M M1 M2 M3 M' : List (Option CP)} {Γ Γ' : List Sl} {te ta tb tc : TE} {t t1 t2 : TT} {s s1 s2 s3 : Sl} {b b1 b2 : Bool} {r : R2} {D : Ends} {tu tw tz : TS} {i j k : Nat}
  {x y : V} {m n : Int} {P Q : VP} {Ps Qs : List VP}
/-! ### slices, sums of lists and tuples -/
def EO (M : List (Option CP)) (Γ : List Sl) (to : TO) (o : Option Int) : Prop := ∀ fx as G σ H, Good fx M Γ as G σ H → ∀ Q : Option Int → Hp → Prop, (∀ as' G' H', Hs fx M as' G' H' → Q o H') → to σ H Q
theorem eo_none : EO M Γ tNoPart none := fun fx as G σ H g Q q => q as G H g.hs
theorem eo_some (h : EV M Γ te M (.d (vV (.int n)))) : EO M Γ (tPart te) (some n) := fun fx as G σ H g Q q => h fx as G σ H g _ fun v as' G' H' h1 e => ⟨n, e, q as' G' H' h1⟩
def cutP (xs : List VP) (lo hi : Option Int) : List VP := (xs.drop (HT.sIx xs.length 0 lo)).take (HT.sIx xs.length xs.length hi - HT.sIx xs.length 0 lo)
def cut {α : Type} (xs : List α) (lo hi : Option Int) : List α := (xs.drop (HT.sIx xs.length 0 lo)).take (HT.sIx xs.length xs.length hi - HT.sIx xs.length 0 lo)
theorem cutP_map {α : Type} (xs : List α) (R : α → VP) (lo hi : Option Int) : cutP (xs.map R) lo hi = (cut xs lo hi).map R := by
  unfold cutP cut
  rw [List.length_map, List.map_take, List.map_drop]
theorem cutP_le (xs : List VP) (lo hi : Option Int) : (cutP xs lo hi).length ≤ xs.length := by
  unfold cutP
  rw [List.length_take, List.length_drop]
  omega
theorem Vs.cut {G : Hp} {vs : List V} (h : Vs G Ps vs) (lo hi : Option Int) : Vs G (cutP Ps lo hi) (cutV vs lo hi) := by
  unfold cutP cutV
  rw [h.length]
  exact (h.drop _).take _
def SLV (M : List (Option CP)) (r : V → Option Int → Option Int → Hp → VK → Prop) (s1 : Sl) (lo hi : Option Int) (M' : List (Option CP)) (s : Sl) : Prop :=
  ∀ fx as G H x, Hs fx M as G H → s1.ok as G x → ∀ Q : VK, Wt fx M' s Q → r x lo hi H Q
theorem ev_sl {rs : V → Option Int → Option Int → Hp → VK → Prop} {tl th : TO} {lo hi : Option Int} (h : EV M Γ te M1 s1) (h1 : EO M1 Γ tl lo) (h2 : EO M1 Γ th hi) (hr : SLV M1 rs s1 lo hi M2 s) : EV M Γ (tSl rs te tl th) M2 s := fun fx as G σ H g Q q => by
  refine h (fx.at G as) as G σ H ⟨g.hs.re, g.len, g.env⟩ _ fun x as1 G1 H1 hs1 o1 => ?_
  have g1 := g.lift hs1
  refine h1 (fx.at G1 as1) as1 G1 σ H1 ⟨g1.hs.re, g1.len, g1.env⟩ _ fun as2 G2 H2 hs2 => ?_
  have g2 := g1.lift hs2
  refine h2 (fx.at G2 as2) as2 G2 σ H2 ⟨g2.hs.re, g2.len, g2.env⟩ _ fun as3 G3 H3 hs3 => ?_
  exact hr fx as3 G3 H3 x (g2.lift hs3).hs ((o1.mono hs2.g0 hs2.a0).mono hs3.g0 hs3.a0) Q q
theorem slv_L {lo hi : Option Int} : SLV M (rSlL K) (.d (vLs Ps)) lo hi M (.d (vLs (cutP Ps lo hi))) := fun fx as G H x h ⟨a, vs, e1, e2, e3, e4⟩ Q q =>
  ⟨a, vs, e1, SqL.of (h.ex _ _ e2), fun p hp => q _ as _ _ (h.back (h.data hp)) ⟨p, _, rfl, upd_same, Nat.le_trans (cutP_le _ _ _) e3, (e4.cut lo hi).mono (Ex.new (h.gnone hp))⟩⟩
theorem slv_LC {lo hi : Option Int} : SLV M (rSlL K) (.d (vLs Ps)) lo hi (M ++ [some (cLs (cutP Ps lo hi))]) (.c M.length) := fun fx as G H x h ⟨a, vs, e1, e2, e3, e4⟩ Q q =>
  ⟨a, vs, e1, SqL.of (h.ex _ _ e2), fun p hp => q _ (as ++ [p]) _ _ (h.back (h.cell hp ⟨_, rfl, e4.cut lo hi⟩)) ⟨p, by rw [← h.len, List.getElem?_append_right (Nat.le_refl _), Nat.sub_self] <;> rfl, rfl⟩⟩
theorem cutV_whole {vs : List V} {lo hi : Option Int} (h : HT.sIx vs.length 0 lo = 0 ∧ HT.sIx vs.length vs.length hi = vs.length) : cutV vs lo hi = vs := by
  unfold cutV
  rw [h.1, h.2, Nat.sub_zero, List.drop_zero, List.take_length]
theorem slv_T {lo hi : Option Int} : SLV M (rSlA K) (.d (vTs Ps)) lo hi M (.d (vTs (cutP Ps lo hi))) := fun fx as G H x h ⟨a, vs, e1, e2, e3, e4⟩ Q q =>
  ⟨a, vs, e1, SqT.of (h.ex _ _ e2), fun w => q _ as _ _ h ⟨a, vs, rfl, e2, Nat.le_trans (cutP_le _ _ _) e3, by have := e4.cut lo hi; rw [cutV_whole w] at this; exact this⟩,
    fun _ p hp => q _ as _ _ (h.back (h.data hp)) ⟨p, _, rfl, upd_same, Nat.le_trans (cutP_le _ _ _) e3, (e4.cut lo hi).mono (Ex.new (h.gnone hp))⟩⟩
theorem opv_cat (hl : Ps.length + Qs.length ≤ 16777216) : OPV M rCat (.d (vLs Ps)) (.d (vLs Qs)) M (.d (vLs (Ps ++ Qs))) := fun fx as G H x y h ⟨a, vs, e1, e2, e3, e4⟩ ⟨b, ws, f1, f2, f3, f4⟩ Q q =>
  ⟨a, b, vs, ws, e1, f1, h.ex _ _ e2, h.ex _ _ f2, sz_eq (by rw [e4.length, f4.length]; exact hl), fun p hp => q _ as _ _ (h.back (h.data hp)) ⟨p, _, rfl, upd_same, by rw [List.length_append]; exact hl, (e4.append f4).mono (Ex.new (h.gnone hp))⟩⟩
theorem opv_catC (hl : Ps.length + Qs.length ≤ 16777216) : OPV M rCat (.d (vLs Ps)) (.d (vLs Qs)) (M ++ [some (cLs (Ps ++ Qs))]) (.c M.length) := fun fx as G H x y h ⟨a, vs, e1, e2, e3, e4⟩ ⟨b, ws, f1, f2, f3, f4⟩ Q q =>
  ⟨a, b, vs, ws, e1, f1, h.ex _ _ e2, h.ex _ _ f2, sz_eq (by rw [e4.length, f4.length]; exact hl), fun p hp => q _ (as ++ [p]) _ _ (h.back (h.cell hp ⟨_, rfl, e4.append f4⟩)) ⟨p, by rw [← h.len, List.getElem?_append_right (Nat.le_refl _), Nat.sub_self] <;> rfl, rfl⟩⟩
theorem opv_catT (hl : Ps.length + Qs.length ≤ 16777216) : OPV M (rCatA K) (.d (vTs Ps)) (.d (vTs Qs)) M (.d (vTs (Ps ++ Qs))) := fun fx as G H x y h ⟨a, vs, e1, e2, e3, e4⟩ ⟨b, ws, f1, f2, f3, f4⟩ Q q => by
  have hz : (Ps ++ Qs).length ≤ 16777216 := by rw [List.length_append]; exact hl
  have hv := e4.append f4
  refine ⟨a, b, vs, ws, e1, f1, SqT.of (h.ex _ _ e2), SqT.of (h.ex _ _ f2), sz_eq (by rw [e4.length, f4.length]; exact hl), fun z => ?_, fun _ z => ?_, fun _ _ p hp => ?_⟩
  · subst z; exact q _ as _ _ h ⟨b, ws, rfl, f2, hz, hv⟩
  · subst z; rw [List.append_nil] at hv; exact q _ as _ _ h ⟨a, vs, rfl, e2, hz, hv⟩
  · exact q _ as _ _ (h.back (h.data hp)) ⟨p, _, rfl, upd_same, hz, hv.mono (Ex.new (h.gnone hp))⟩

/-! ### a cell becomes data; data told otherwise -/
theorem Good.freeze {as : List Addr} {G H : Hp} {σ : L2.St} (g : Good fx M Γ as G σ H) (hM : M[k]? = some (some (cLs Ps))) (hl : Ps.length ≤ 16777216) (hΓ : Γ[i]? = some (.c k)) :
    ∃ G', Good fx (M.set k none) (Γ.set i (.d (vLs Ps))) as G' σ H := by
  rcases g.env i _ hΓ with q | ⟨v, h1, a, h2, rfl⟩
  · cases q
  obtain ⟨g1, o, g2, vs, rfl, g3⟩ := g.hs.cells k a _ h2 hM
  have h' := g.hs.freeze h2 hM g2
  have gg := g.lift h'
  refine ⟨_, gg.hs, by rw [List.length_set]; exact gg.len, fun j s' e => ?_⟩
  by_cases hj : i = j
  · subst hj
    rw [List.getElem?_set_self (List.getElem?_eq_some_iff.mp hΓ).1] at e
    cases e
    exact .inr ⟨_, h1, a, vs, rfl, upd_same, hl, g3.mono (Ex.new g1)⟩
  · rw [List.getElem?_set_ne hj] at e
    exact gg.env j s' e
/-- the slot i's list is never written again -/
theorem kv_frz {kk : L2.St → Hp → Prop} (i : Nat) (hΓ : Γ[i]? = some (.c k)) (hM : M[k]? = some (some (cLs Ps))) (hl : Ps.length ≤ 16777216) (h : KV fx (M.set k none) (Γ.set i (.d (vLs Ps))) kk) : KV fx M Γ kk := fun as G σ H g => by
  obtain ⟨G', g'⟩ := g.freeze hM hl hΓ
  exact h as G' σ H g'
/-- slot i holds some r -/
theorem kv_open {kk : L2.St → Hp → Prop} {ρ : Type} {I : ρ → Prop} {R : ρ → VP} (i : Nat) (hΓ : Γ[i]? = some (.d (vEx I R))) (h : ∀ r, I r → KV fx M (Γ.set i (.d (R r))) kk) : KV fx M Γ kk := fun as G σ H g => by
  rcases g.env i _ hΓ with q | ⟨v, h1, r, hr, h2⟩
  · cases q
  refine h r hr as G σ H ⟨g.hs, by rw [List.length_set]; exact g.len, fun j s' e => ?_⟩
  by_cases hj : i = j
  · subst hj
    rw [List.getElem?_set_self (List.getElem?_eq_some_iff.mp hΓ).1] at e
    cases e
    exact .inr ⟨v, h1, h2⟩
  · rw [List.getElem?_set_ne hj] at e
    exact g.env j s' e
/-- x = e, e some r -/
theorem k_asgE {ρ : Type} {I : ρ → Prop} {R : ρ → VP} (h : EV M Γ te M' (.d (vEx I R))) (k : ∀ r, I r → KV fx M' (Γ.set i (.d (R r))) D.nx) : KV fx M Γ (tAsg te (gName i) D) := fun as G σ H g => by
  refine h (fx.at G as) as G σ H ⟨g.hs.re, g.len, g.env⟩ _ fun v as1 G1 H1 h1 ⟨r, hr, o⟩ => ?_
  exact k r hr as1 G1 _ H1 ((g.lift h1).set (s := .d (R r)) o)
theorem opv_ex1 {ρ : Type} {I : ρ → Prop} {R : ρ → VP} (h : ∀ z, I z → OPV M r (.d (R z)) s2 M' s) : OPV M r (.d (vEx I R)) s2 M' s := fun fx as G H x y hs ⟨z, hz, h1⟩ h2 Q q => h z hz fx as G H x y hs h1 h2 Q q
theorem opv_ex2 {ρ : Type} {I : ρ → Prop} {R : ρ → VP} (h : ∀ z, I z → OPV M r s1 (.d (R z)) M' s) : OPV M r s1 (.d (vEx I R)) M' s := fun fx as G H x y hs h1 ⟨z, hz, h2⟩ Q q => h z hz fx as G H x y hs h1 h2 Q q
theorem opv_sub (h : OPV M r s1 s2 M' (.d P)) (hs : Sub P Q) : OPV M r s1 s2 M' (.d Q) := fun fx as G H x y h0 h1 h2 R q => h fx as G H x y h0 h1 h2 R fun v as' G' H' h3 h4 => q v as' G' H' h3 (hs _ _ h4)

/-! ### statements on cells -/
theorem k_append (ha : EV M Γ ta M (.c k)) (hM : M[k]? = some (some (cLs Ps))) (he : EV M Γ te M (.d P)) (hl : Ps.length < 16777216) (q : KV fx (M.set k (some (cLs (Ps ++ [P])))) Γ D.nx) :
    KV fx M Γ (tDrop (tBM K "list" rAppend ta (tCons te tNil)) D) := fun as G σ H g => by
  refine ha (fx.at G as) as G σ H ⟨g.hs.re, g.len, g.env⟩ _ fun x as1 G1 H1 h1 o1 => ?_
  have g1 := g.lift h1
  obtain ⟨a, e1, rfl⟩ := o1
  obtain ⟨c1, o, c2, vs, rfl, c3⟩ := h1.cells k a _ e1 hM
  refine ⟨.inl ⟨rfl, vs, SqL.of c2⟩, ?_⟩
  refine he (fx.at G1 as1) as1 G1 σ H1 ⟨g1.hs.re, g1.len, g1.env⟩ _ fun y as2 G2 H2 h2 o2 => ?_
  have e2 := pre_get h2.a0 e1
  obtain ⟨d1, o', d2, ws, rfl, d3⟩ := h2.cells k a _ e2 hM
  have g2 := g1.lift h2
  refine ⟨a, ws, y, rfl, rfl, d2, sz_lt (by rw [d3.length]; exact hl), ?_⟩
  exact q as2 G2 σ _ (g2.lift (g2.hs.put e2 hM (C' := cLs (Ps ++ [P])) ⟨_, rfl, d3.append (.one o2)⟩))
/-- xs[i] = e -/
theorem k_setitem (he : EV M Γ te M1 (.d P)) (ho : EV M1 Γ ta M1 (.c k)) (hi : EV M1 Γ tb M1 (.d (vV (.int n)))) (hM : M1[k]? = some (some (cLs Ps))) (hj : ixN Ps.length n = some j) (q : KV fx (M1.set k (some (cLs (Ps.set j P)))) Γ D.nx) :
    KV fx M Γ (tAsg te (gSub ta tb rSetL) D) := fun as G σ H g => by
  refine he (fx.at G as) as G σ H ⟨g.hs.re, g.len, g.env⟩ _ fun x as1 G1 H1 h1 o1 => ?_
  have g1 := g.lift h1
  refine ho (fx.at G1 as1) as1 G1 σ H1 ⟨g1.hs.re, g1.len, g1.env⟩ _ fun y as2 G2 H2 h2 o2 => ?_
  have g2 := g1.lift h2
  obtain ⟨a, e1, rfl⟩ := o2
  refine hi (fx.at G2 as2) as2 G2 σ H2 ⟨g2.hs.re, g2.len, g2.env⟩ _ fun z as3 G3 H3 h3 o3 => ?_
  have e3 := pre_get h3.a0 e1
  obtain ⟨d1, o', d2, ws, rfl, d3⟩ := h3.cells k a _ e3 hM
  have g3 := g2.lift h3
  refine ⟨a, ws, n, j, rfl, o3, d2, by rw [d3.length]; exact hj, ?_⟩
  have ok1 : P.p G3 x := P.mono (h2.g0.trans h3.g0) o1
  exact q as3 G3 σ _ (g3.lift (g3.hs.put e3 hM (C' := cLs (Ps.set j P)) ⟨_, rfl, d3.set ok1 j⟩))

/-! ### what is walked -/
def Fx.le (fx fx' : Fx) : Prop := fx'.F = fx.F ∧ Ex fx.G0 fx'.G0 ∧ fx.as0 <+: fx'.as0
theorem Hs.le {as : List Addr} {G H : Hp} (h : Hs fx' M as G H) (e : fx.le fx') : Hs fx M as G H :=
  ⟨h.ex, e.2.1.trans h.g0, e.2.2.trans h.a0, by rw [← e.1]; exact h.fr, h.len, h.nd, h.al, h.cells⟩
theorem Good.fle {as : List Addr} {G H : Hp} {σ : L2.St} (g : Good fx' M Γ as G σ H) (e : fx.le fx') : Good fx M Γ as G σ H := ⟨g.hs.le e, g.len, g.env⟩
theorem KV.fle {kk : L2.St → Hp → Prop} (h : KV fx M Γ kk) (e : fx.le fx') : KV fx' M Γ kk := fun as G σ H g => h as G σ H (g.fle e)
theorem Rt.fle {R : VK} (h : Rt fx M s R) (e : fx.le fx') : Rt fx' M s R := fun v as G H h1 o => h v as G H (h1.le e) o
theorem Fx.le_at {as : List Addr} {G H : Hp} (h : Hs fx M as G H) : fx.le (fx.at G as) := ⟨rfl, h.g0, h.a0⟩

/-- J hands out n things, the i-th one a P i, while G1 stands and the cells are as ok says -/
structure Walks (J : It) (G1 : Hp) (as1 : List Addr) (ok : List (Option CP) → Prop) (n : Nat) (P : Nat → VP) : Prop where
  go : ∀ i fx M as G H, i < n → ok M → as1 <+: as → Ex G1 G → Hs fx M as G H → J.go i H ∧ ∀ x H', J.yld i H x H' → ∃ G', Hs (fx.at G as) M as G' H' ∧ (P i).p G' x
  stop : ∀ i fx M as G H, n ≤ i → ok M → as1 <+: as → Ex G1 G → Hs fx M as G H → J.stop i H
def SrcM (M : List (Option CP)) (Γ : List Sl) (wi : TI) (M1 : List (Option CP)) (ok : List (Option CP) → Prop) (n : Nat) (P : Nat → VP) : Prop :=
  ∀ fx as G σ H, Good fx M Γ as G σ H → ∀ R : It → Hp → Prop, (∀ J as1 G1 H1, Hs fx M1 as1 G1 H1 → Walks J G1 as1 ok n P → R J H1) → wi σ H R
abbrev Src (M : List (Option CP)) (Γ : List Sl) (wi : TI) (M1 : List (Option CP)) (n : Nat) (P : Nat → VP) : Prop := SrcM M Γ wi M1 (fun _ => True) n P
def Pat (Ps : List VP) (i : Nat) : VP := Ps.getD i vN
theorem pat_get (h : i < Ps.length) : Ps[i]? = some (Pat Ps i) := by
  unfold Pat
  rw [List.getD_eq_getElem?_getD, List.getElem?_eq_getElem h] <;> rfl
theorem walks_L {a : Addr} {vs : List V} {G1 : Hp} (h1 : G1 a = some (.lst vs)) (h2 : Vs G1 Ps vs) {as1 : List Addr} : Walks (Itl K a) G1 as1 (fun _ => True) Ps.length (Pat Ps) where
  go := fun i fx M as G H hi _ _ e h => by
    obtain ⟨v, hv, hp⟩ := h2.get (pat_get hi)
    have hH := h.ex _ _ (e _ _ h1)
    refine ⟨⟨vs, v, SqL.of hH, hv⟩, fun x H' ⟨e1, e2⟩ => ?_⟩
    subst e1
    have ex : v = x := by have := e2 vs (SqL.of hH); rw [hv] at this; exact Option.some.inj this
    subst ex
    exact ⟨G, h.re, VP.mono _ e hp⟩
  stop := fun i fx M as G H hi _ _ e h => ⟨vs, SqL.of (h.ex _ _ (e _ _ h1)), by rw [h2.length]; exact hi⟩
theorem walks_T {a : Addr} {vs : List V} {G1 : Hp} (h1 : G1 a = some (.tup vs)) (h2 : Vs G1 Ps vs) {as1 : List Addr} : Walks (Itt K a) G1 as1 (fun _ => True) Ps.length (Pat Ps) where
  go := fun i fx M as G H hi _ _ e h => by
    obtain ⟨v, hv, hp⟩ := h2.get (pat_get hi)
    have hH := h.ex _ _ (e _ _ h1)
    refine ⟨⟨vs, v, SqT.of hH, hv⟩, fun x H' ⟨e1, e2⟩ => ?_⟩
    subst e1
    have ex : v = x := by have := e2 vs (SqT.of hH); rw [hv] at this; exact Option.some.inj this
    subst ex
    exact ⟨G, h.re, VP.mono _ e hp⟩
  stop := fun i fx M as G H hi _ _ e h => ⟨vs, SqT.of (h.ex _ _ (e _ _ h1)), by rw [h2.length]; exact hi⟩
theorem src_L (h : EV M Γ te M1 (.d (vLs Ps))) : Src M Γ (iList K te) M1 Ps.length (Pat Ps) := fun fx as G σ H g R q =>
  h fx as G σ H g _ fun v as1 G1 H1 h1 ⟨a, vs, e1, e2, e3, e4⟩ => ⟨a, e1, ⟨vs, SqL.of (h1.ex _ _ e2)⟩, q _ as1 G1 H1 h1 (walks_L e2 e4)⟩
theorem src_T (h : EV M Γ te M1 (.d (vTs Ps))) : Src M Γ (iTup K te) M1 Ps.length (Pat Ps) := fun fx as G σ H g R q =>
  h fx as G σ H g _ fun v as1 G1 H1 h1 ⟨a, vs, e1, e2, e3, e4⟩ => ⟨a, e1, ⟨vs, SqT.of (h1.ex _ _ e2)⟩, q _ as1 G1 H1 h1 (walks_T e2 e4)⟩
/-- a list or a tuple -/
def iSeq (K : PySem.W.Frag) (tl : TE) : TI := fun σ H R => tl σ H fun x H1 => ∃ a, x = .ref a ∧ ((∃ xs, SqL K H1 a xs) ∧ R (Itl K a) H1 ∨ (∃ xs, SqT K H1 a xs) ∧ R (Itt K a) H1)
theorem src_Q (h : EV M Γ te M1 (.d (vQs Ps))) : Src M Γ (iSeq K te) M1 Ps.length (Pat Ps) := fun fx as G σ H g R q =>
  h fx as G σ H g _ fun v as1 G1 H1 h1 ⟨a, vs, e1, e2, e3, e4⟩ => ⟨a, e1, e2.imp (fun e2 => ⟨⟨vs, SqL.of (h1.ex _ _ e2)⟩, q _ as1 G1 H1 h1 (walks_L e2 e4)⟩) fun e2 => ⟨⟨vs, SqT.of (h1.ex _ _ e2)⟩, q _ as1 G1 H1 h1 (walks_T e2 e4)⟩⟩
theorem walks_R {lo : Int} {n : Nat} {G1 : Hp} {as1 : List Addr} : Walks (Itr lo n) G1 as1 (fun _ => True) n (fun i => vV (.int (lo + i))) where
  go := fun i fx M as G H hi _ _ e h => ⟨hi, fun x H' ⟨e1, e2⟩ => by subst e1 e2; exact ⟨G, h.re, rfl⟩⟩
  stop := fun i fx M as G H hi _ _ e h => hi
theorem src_R1 {tr : TA} (h : EA M Γ tr M1 [.d (vV (.int n))]) (hn : -1000000000 < n ∧ n < 1000000000) : Src M Γ (iRng1 tr) M1 n.toNat (fun i => vV (.int (i : Nat))) := fun fx as G σ H g R q =>
  h fx as G σ H g _ fun vs as1 G1 H1 h1 o => by
    cases o with
    | cons o1 o2 =>
      cases o2
      obtain rfl : _ = V.int n := o1
      refine ⟨n, rfl, by omega, by omega, q _ as1 G1 H1 h1 ?_⟩
      have := walks_R (lo := 0) (n := n.toNat) (G1 := G1) (as1 := as1)
      simpa only [Int.zero_add] using this
theorem src_R2 {tr : TA} (h : EA M Γ tr M1 [.d (vV (.int m)), .d (vV (.int n))]) (hm : -1000000000 < m ∧ m < 1000000000) (hn : -1000000000 < n ∧ n < 1000000000) : Src M Γ (iRng2 tr) M1 (n - m).toNat (fun i => vV (.int (m + (i : Nat)))) := fun fx as G σ H g R q =>
  h fx as G σ H g _ fun vs as1 G1 H1 h1 o => by
    cases o with
    | cons o1 o2 =>
      cases o2 with
      | cons o2 o3 =>
        cases o3
        obtain rfl : _ = V.int m := o1
        obtain rfl : _ = V.int n := o2
        exact ⟨m, n, rfl, ⟨by omega, by omega, by omega, by omega⟩, q _ as1 G1 H1 h1 walks_R⟩
end
end PL

namespace L2
open PySem PySem.Spec PyProof.Rows
theorem pi_seq {X : Cx} {tg l : Expr} {tl : TE} (hl : PE X l tl) : PI X tg l (PL.iSeq X.K tl) := by
  refine ⟨fun pins s σ H R I h => ?_⟩
  refine thn (hl.run pins s σ H _ I h) fun v s1 ⟨x, H1, I1, r1, q1⟩ => ?_
  obtain ⟨a, e, q⟩ := q1
  subst e
  cases r1
  rcases q with ⟨⟨xs, hq⟩, q⟩ | ⟨⟨xs, hq⟩, q⟩
  · obtain ⟨its, rv, p, hz⟩ := I1.list hq
    refine wpAny_pyIter_list p.isList ?_
    refine ⟨s1.heap.objs.size, [s1.heap.objs.size], _, _, H1, rfl, I1.kept (t' := s1.toks) fun b o e => Heap.get?_push_of_some _ e, turn_list a _, ⟨_, Heap.get?_push_size _ rfl, rfl, rfl⟩, fun b hb => ?_, q⟩
    have e : b = s1.heap.objs.size := by simpa using hb
    subst e
    exact I1.fpOk (Nat.le_refl _) (I1.hok.fresh (Nat.le_refl _))
  · obtain ⟨its, rv, p, hz⟩ := I1.tuple hq
    refine wpAny_pyIter_tuple (show s1.heap.IsTuple a its.toArray from p) ?_
    refine ⟨s1.heap.objs.size, [s1.heap.objs.size], _, _, H1, rfl, I1.kept (t' := s1.toks) fun b o e => Heap.get?_push_of_some _ e, turn_tuple a _, ⟨_, Heap.get?_push_size _ rfl, rfl, rfl⟩, fun b hb => ?_, q⟩
    have e : b = s1.heap.objs.size := by simpa using hb
    subst e
    exact I1.fpOk (Nat.le_refl _) (I1.hok.fresh (Nat.le_refl _))
end L2
namespace PL
open PySem L2
section
variable {K : PySem.W.Frag} {fx fx' : Fx} {M M1 M2 M3 M' : List (Option CP)} {Γ Γ' Γ1 Γ2 : List Sl} {te ta tb tc : TE} {t t1 t2 tt : TT} {s s1 s2 s3 : Sl} {b b1 b2 : Bool} {r : R2} {D : Ends} {tu tw tz : TS} {i j k : Nat}
  {x y : V} {m n : Int} {P Q P1 P2 : VP} {Ps Qs : List VP} {g g1 g2 : TG} {wi : TI} {N : Nat} {Pf : Nat → VP} {js js1 js2 : List Nat}
/-! ### targets: behind the store of a P the slots are Γ'; js: the slots stored -/
structure GT (g : TG) (P : VP) (Γ Γ' : List Sl) (js : List Nat) : Prop where
  run : ∀ fx M as G σ H v, Good fx M Γ as G σ H → P.p G v → ∀ Q : L2.St → Hp → Prop, (∀ σ', Good fx M Γ' as G σ' H → (∀ vs : List Nat, (∀ j ∈ js, j ∈ vs) → wipe σ' vs = wipe σ vs) → Q σ' H) → g v σ H Q
theorem wipe_set {σ : L2.St} {u : Option V} : ∀ {vs : List Nat}, j ∈ vs → wipe (σ.set j u) vs = wipe σ vs
  | [], h => by simp at h
  | v :: vs, h => by
    show (wipe (σ.set j u) vs).set v none = (wipe σ vs).set v none
    by_cases hm : j ∈ vs
    · rw [wipe_set hm]
    · have e : j = v := by
        rcases List.mem_cons.mp h with h | h
        · exact h
        · exact absurd h hm
      subst e
      have : ∀ (ws : List Nat) (τ : L2.St), j ∉ ws → wipe (τ.set j u) ws = (wipe τ ws).set j u := by
        intro ws
        induction ws with
        | nil => intro τ _; rfl
        | cons w ws ih =>
          intro τ hw
          have hne : w ≠ j := fun q => hw (by rw [q]; exact List.mem_cons_self)
          show (wipe (τ.set j u) ws).set w none = ((wipe τ ws).set w none).set j u
          rw [ih τ fun q => hw (List.mem_cons_of_mem _ q), List.set_comm _ _ hne]
      rw [this vs σ hm, List.set_set]
theorem gt_name : GT (gName j) P Γ (Γ.set j (.d P)) [j] := ⟨fun fx M as G σ H v h o Q q => q _ (h.set o) fun vs hv => wipe_set (hv j List.mem_cons_self)⟩
theorem Good.get {as : List Addr} {G H : Hp} {σ : L2.St} (g : Good fx M Γ as G σ H) (h : Γ[i]? = some (.d P)) : ∃ v, σ[i]? = some (some v) ∧ P.p G v := by
  rcases g.env i _ h with q | q
  · cases q
  · exact q
theorem gt_tup2 (h1 : GT g1 P1 Γ Γ1 js1) (h2 : GT g2 P2 Γ1 Γ2 js2) : GT (gTup K 2 (gCons g1 (gCons g2 gNil))) (vTs [P1, P2]) Γ Γ2 (js1 ++ js2) := ⟨fun fx M as G σ H v h ⟨a, vs, e1, e2, e3, e4⟩ Q q => by
  cases e4 with
  | cons o1 e5 => cases e5 with
    | cons o2 e6 =>
      cases e6
      refine ⟨a, _, e1, SqT.of (h.hs.ex _ _ e2), rfl, _, _, rfl, ?_⟩
      refine h1.run fx M as G σ H _ h o1 _ fun σ1 g' w1 => ?_
      refine ⟨_, _, rfl, ?_⟩
      refine h2.run fx M as G σ1 H _ g' o2 _ fun σ2 g'' w2 => ?_
      exact ⟨rfl, q σ2 g'' fun vs hv => (w2 vs fun j hj => hv j (List.mem_append_right _ hj)).trans (w1 vs fun j hj => hv j (List.mem_append_left _ hj))⟩⟩

/-! ### for -/
def NX {δ : Type} (fx : Fx) (Inv : Nat → δ → Prop) (Mi : δ → List (Option CP)) (Γi : δ → List Sl) (i : Nat) : L2.St → Hp → Prop := fun σ H => ∃ d as G, Inv i d ∧ Good fx (Mi d) (Γi d) as G σ H
theorem k_for {δ : Type} {okM : List (Option CP) → Prop} (hsrc : SrcM M Γ wi M1 okM N Pf) (Inv : Nat → δ → Prop) (Mi : δ → List (Option CP)) (Γi : δ → List Sl) (Γt : Nat → δ → List Sl) (d0 : δ) (h0 : Inv 0 d0) (hM : M1 = Mi d0) (hΓ : GLe Γ (Γi d0))
    (ht : ∀ i d, i < N → Inv i d → ∃ js, GT g (Pf i) (Γi d) (Γt i d) js)
    (hs : ∀ fx', fx.le fx' → fx'.as0.length = M1.length → ∀ i d, i < N → Inv i d → KV fx' (Mi d) (Γt i d) (tu { D with nx := NX fx' Inv Mi Γi (i + 1), ct := NX fx' Inv Mi Γi (i + 1), bk := D.nx }))
    (hd : ∀ d, Inv N d → KV fx (Mi d) (Γi d) D.nx) (hok : ∀ d, okM (Mi d) := by intro _; trivial) : KV fx M Γ (tFor wi g tu D) := fun as G σ H gd => by
  refine hsrc (fx.at G as) as G σ H ⟨gd.hs.re, gd.len, gd.env⟩ _ fun J as1 G1 H1 h1 W => ?_
  have g1 := gd.lift h1
  refine ⟨fun i m σ' H' => m = N - i ∧ i ≤ N ∧ NX (fx.at G1 as1) Inv Mi Γi i σ' H', ⟨N, by simp, Nat.zero_le _, d0, as1, G1, h0, ?_⟩, ?_⟩
  · subst hM
    exact Good.le ⟨g1.hs.re, g1.len, g1.env⟩ hΓ
  rintro i m σ' H' ⟨rfl, hi, d, as2, G2, hI, g2⟩
  have le1 : fx.le (fx.at G1 as1) := Fx.le_at g1.hs
  by_cases hlt : i < N
  · obtain ⟨hgo, hy⟩ := W.go i _ _ _ _ _ hlt (hok d) g2.hs.a0 g2.hs.g0 g2.hs
    refine .inr ⟨hgo, NX (fx.at G1 as1) Inv Mi Γi (i + 1), fun σ3 H3 p => ⟨N - (i + 1), by omega, rfl, hlt, p⟩, fun x H3 hx => ?_⟩
    obtain ⟨G3, h3, o3⟩ := hy x H3 hx
    obtain ⟨js, gt⟩ := ht i d hlt hI
    have g3 : Good (fx.at G1 as1) (Mi d) (Γi d) as2 G3 σ' H3 := g2.lift h3
    refine gt.run _ _ as2 G3 σ' H3 x g3 o3 _ fun σ4 g4 _ => ?_
    exact hs (fx.at G1 as1) le1 g1.hs.len i d hlt hI as2 G3 σ4 H3 g4
  · have e : i = N := by omega
    subst e
    exact .inl ⟨W.stop i _ _ _ _ _ (Nat.le_refl _) (hok d) g2.hs.a0 g2.hs.g0 g2.hs, hd d hI as2 G2 σ' H' (g2.fle le1)⟩
/-- the end of a turn -/
theorem k_next {δ : Type} {Inv : Nat → δ → Prop} {Mi : δ → List (Option CP)} {Γi : δ → List Sl} (d : δ) (hI : Inv i d) (hM : M = Mi d) (hΓ : GLe Γ (Γi d)) : KV fx M Γ (NX fx Inv Mi Γi i) := fun as G σ H g =>
  ⟨d, as, G, hI, by subst hM; exact g.le hΓ⟩

/-! ### while -/
def NW {δ : Type} (fx : Fx) (Inv : δ → Prop) (μ : δ → Nat) (Mi : δ → List (Option CP)) (Γi : δ → List Sl) (n : Nat) : L2.St → Hp → Prop := fun σ H => ∃ d as G, Inv d ∧ μ d < n ∧ Good fx (Mi d) (Γi d) as G σ H
theorem k_while {δ : Type} (Inv : δ → Prop) (μ : δ → Nat) (Mi : δ → List (Option CP)) (Γi : δ → List Sl) (bt : δ → Bool) (d0 : δ) (h0 : Inv d0) (hM : M = Mi d0) (hΓ : GLe Γ (Γi d0))
    (ht : ∀ d, Inv d → ET (Mi d) (Γi d) t (Mi d) (bt d))
    (hs : ∀ fx', fx.le fx' → ∀ d, Inv d → bt d = true → KV fx' (Mi d) (Γi d) (tu { D with nx := NW fx' Inv μ Mi Γi (μ d), ct := NW fx' Inv μ Mi Γi (μ d), bk := D.nx }))
    (hd : ∀ d, Inv d → bt d = false → KV fx (Mi d) (Γi d) D.nx) : KV fx M Γ (tWhile t tu D) := fun as G σ H gd => by
  refine ⟨fun m σ' H' => ∃ d as G, Inv d ∧ m = μ d ∧ Good fx (Mi d) (Γi d) as G σ' H', ⟨μ d0, d0, as, G, h0, rfl, ?_⟩, ?_⟩
  · subst hM; exact gd.le hΓ
  rintro m σ' H' ⟨d, as1, G1, hI, rfl, g1⟩
  refine ht d hI (fx.at G1 as1) as1 G1 σ' H' ⟨g1.hs.re, g1.len, g1.env⟩ _ fun as2 G2 H2 h2 => ?_
  have g2 := g1.lift h2
  cases hb : bt d with
  | true => exact iteT ⟨NW fx Inv μ Mi Γi (μ d), fun σ3 H3 ⟨d', as3, G3, h3, h4, h5⟩ => ⟨μ d', h4, d', as3, G3, h3, rfl, h5⟩, hs fx ⟨rfl, Ex.refl _, List.prefix_refl _⟩ d hI hb as2 G2 σ' H2 g2⟩
  | false => exact iteF (hd d hI hb as2 G2 σ' H2 g2)
theorem k_nextW {δ : Type} {Inv : δ → Prop} {μ : δ → Nat} {Mi : δ → List (Option CP)} {Γi : δ → List Sl} {n : Nat} (d : δ) (hI : Inv d) (hμ : μ d < n) (hM : M = Mi d) (hΓ : GLe Γ (Γi d)) : KV fx M Γ (NW fx Inv μ Mi Γi n) := fun as G σ H g =>
  ⟨d, as, G, hI, hμ, by subst hM; exact g.le hΓ⟩

/-! ### comprehensions -/
def wipeG (Γ : List Sl) : List Nat → List Sl
  | [] => Γ
  | v :: vs => (wipeG Γ vs).set v .u
theorem wipeG_length (Γ : List Sl) : ∀ vs : List Nat, (wipeG Γ vs).length = Γ.length
  | [] => rfl
  | v :: vs => by unfold wipeG; rw [List.length_set, wipeG_length Γ vs]
theorem Good.wipe {as : List Addr} {G H : Hp} {σ : L2.St} (g : Good fx M Γ as G σ H) : ∀ vs : List Nat, Good fx M (wipeG Γ vs) as G (L2.wipe σ vs) H
  | [] => g
  | v :: vs => by
    have g' := Good.wipe g vs
    refine ⟨g'.hs, by unfold wipeG L2.wipe; rw [List.length_set, List.length_set]; exact g'.len, fun i s e => ?_⟩
    unfold wipeG at e
    unfold L2.wipe
    by_cases hi : v = i
    · subst hi
      have hl : v < (wipeG Γ vs).length := by
        have := (List.getElem?_eq_some_iff.mp e).1
        rw [List.length_set] at this; exact this
      rw [List.getElem?_set_self hl] at e
      cases e
      exact .inl rfl
    · rw [List.getElem?_set_ne hi] at e
      rcases g'.env i s e with q | ⟨u, h1, h2⟩
      · exact .inl q
      · exact .inr ⟨u, by rw [List.getElem?_set_ne hi]; exact h1, h2⟩
/-- the list that a comprehension fills is nobody's -/
theorem Hs.hold {as : List Addr} {G H : Hp} {p : Addr} {o : HO} (h : Hs fx M as G H) (hp : H p = none) : Hs ⟨upd fx.F p o, G, as⟩ M as G (upd H p o) where
  ex := h.ex.trans (Ex.new hp)
  g0 := Ex.refl _
  a0 := List.prefix_refl _
  fr := fun b u e => by
    have e : upd fx.F p o b = some u := e
    by_cases q : b = p
    · subst q
      rw [upd_same] at e ⊢
      exact ⟨e, h.gnone hp, fun z => h.al _ z hp⟩
    · rw [upd_ne q] at e ⊢
      exact h.fr b u e
  len := h.len
  nd := h.nd
  al := fun b hb => by
    by_cases q : b = p
    · subst q; rw [upd_same]; exact fun z => by cases z
    · rw [upd_ne q]; exact h.al b hb
  cells := fun j b D hb hD => by
    obtain ⟨h1, u, h2, h3⟩ := h.cells j b D hb hD
    rw [upd_ne (ne_of_none h2 hp)]
    exact ⟨h1, u, h2, h3⟩
/-- it is changed -/
theorem Hs.held {as : List Addr} {G H : Hp} {p : Addr} {o o' : HO} (hF : fx.F p = some o) (h : Hs fx M as G H) : Hs ⟨upd fx.F p o', fx.G0, fx.as0⟩ M as G (upd H p o') where
  ex := fun b u e => by
    have q : b ≠ p := fun z => by
      rw [z, (h.fr p _ hF).2.1] at e; cases e
    rw [upd_ne q]; exact h.ex b u e
  g0 := h.g0
  a0 := h.a0
  fr := fun b u e => by
    have e : upd fx.F p o' b = some u := e
    by_cases q : b = p
    · subst q
      rw [upd_same] at e ⊢
      exact ⟨e, (h.fr b _ hF).2⟩
    · rw [upd_ne q] at e ⊢
      exact h.fr b u e
  len := h.len
  nd := h.nd
  al := fun b hb => by
    by_cases q : b = p
    · subst q; rw [upd_same]; exact fun z => by cases z
    · rw [upd_ne q]; exact h.al b hb
  cells := fun j b D hb hD => by
    obtain ⟨h1, u, h2, h3⟩ := h.cells j b D hb hD
    have q : b ≠ p := fun z => (h.fr p _ hF).2.2 (by rw [← z]; exact List.mem_of_getElem? hb)
    rw [upd_ne q]
    exact ⟨h1, u, h2, h3⟩
/-- it is handed out -/
theorem Hs.unhold {F : Hp} {as : List Addr} {G H : Hp} {p : Addr} {o : HO} {G0 : Hp} {as0 : List Addr} (h : Hs ⟨upd F p o, G0, as0⟩ M as G H) (hF : ∀ q u, F q = some u → q ≠ p) : Hs ⟨F, G0, as0⟩ M as G H ∧ H p = some o ∧ G p = none ∧ p ∉ as :=
  ⟨⟨h.ex, h.g0, h.a0, fun b u e => h.fr b u (by show upd F p o b = some u; rw [upd_ne (hF b u e)]; exact e), h.len, h.nd, h.al, h.cells⟩, h.fr p o (by show upd F p o p = some o; exact upd_same)⟩
/-- a held list becomes a cell -/
theorem Hs.tocell {as : List Addr} {G H : Hp} {p : Addr} {o : HO} {C : CP} (h : Hs fx M as G H) (hF : ∀ q u, fx.F q = some u → q ≠ p) (hp : H p = some o) (hG : G p = none) (ha : p ∉ as) (hC : C.p G o) : Hs (fx.at G as) (M ++ [some C]) (as ++ [p]) G H where
  ex := h.ex
  g0 := Ex.refl _
  a0 := List.prefix_append _ _
  fr := fun b u e => by
    obtain ⟨h1, h2, h3⟩ := h.fr b u e
    refine ⟨h1, h2, fun z => ?_⟩
    rcases List.mem_append.mp z with z | z
    · exact h3 z
    · exact hF b u e (List.mem_singleton.mp z)
  len := by rw [List.length_append, List.length_append, h.len] <;> rfl
  nd := by
    rw [List.nodup_append]
    refine ⟨h.nd, by simp, fun x hx y hy => ?_⟩
    rw [List.mem_singleton] at hy
    subst hy
    exact fun z => ha (by rw [← z]; exact hx)
  al := fun b hb => by
    rcases List.mem_append.mp hb with z | z
    · exact h.al b z
    · rw [List.mem_singleton.mp z, hp]; exact fun z => by cases z
  cells := fun j b D hb hD => by
    by_cases hj : j < as.length
    · rw [List.getElem?_append_left hj] at hb
      rw [List.getElem?_append_left (by rw [← h.len]; exact hj)] at hD
      exact h.cells j b D hb hD
    · have ej : j = as.length := by
        have := (List.getElem?_eq_some_iff.mp hb).1
        rw [List.length_append, List.length_singleton] at this
        omega
      subst ej
      rw [List.getElem?_append_right (Nat.le_refl _), Nat.sub_self] at hb
      rw [h.len, List.getElem?_append_right (Nat.le_refl _), Nat.sub_self] at hD
      have e1 : p = b := Option.some.inj hb
      have e2 : C = D := Option.some.inj (Option.some.inj hD)
      subst e1 e2
      exact ⟨hG, o, hp, hC⟩
/-- res i: what stands in the list ahead of turn i; bt: which turns give, f: what -/
theorem ev_lcC {vs : List Nat} {tt : TT} {okM : List (Option CP) → Prop} (hsrc : SrcM M Γ wi M1 okM N Pf) (res : Nat → List VP) (bt : Nat → Bool) (f : Nat → VP) (Γt : Nat → List Sl) (hz : ∀ i, i ≤ N → (res i).length ≤ 16777215)
    (h0 : res 0 = []) (h1 : ∀ i, i < N → res (i + 1) = if bt i = true then res i ++ [f i] else res i)
    (hg : ∀ i, i < N → ∃ js, GT g (Pf i) (wipeG Γ vs) (Γt i) js ∧ ∀ j ∈ js, j ∈ vs)
    (ht : ∀ i, i < N → ET M1 (Γt i) tt M1 (bt i)) (he : ∀ i, i < N → bt i = true → EV M1 (Γt i) te M1 (.d (f i))) (hok : okM M1 := by trivial) :
    EV M Γ (tLc wi g tt te vs) (M1 ++ [some (cLs (res N))]) (.c M1.length) := fun fx as G σ H gd Q q => by
  refine hsrc (fx.at G as) as G σ H ⟨gd.hs.re, gd.len, gd.env⟩ _ fun J as1 G1 H1 hs1 W => ?_
  have g1 := gd.lift hs1
  intro p hp
  have hFp : ∀ q u, fx.F q = some u → q ≠ p := fun q u e z => by
    have := (hs1.fr q u e).1
    rw [z, hp] at this; cases this
  refine ⟨fun i m H' => m = N - i ∧ i ≤ N ∧ ∃ as2 G2 acc, Vs G2 (res i) acc ∧ Good ⟨upd fx.F p (.lst acc), G1, as1⟩ M1 Γ as2 G2 σ H', ⟨N, by simp, Nat.zero_le _, as1, G1, [], by rw [h0]; exact .nil, ?_⟩, ?_⟩
  · exact ⟨g1.hs.hold hp, g1.len, g1.env⟩
  rintro i m H' ⟨rfl, hi, as2, G2, acc, hacc, g2⟩
  by_cases hlt : i < N
  · refine .inr ?_
    have E1 : Ex G1 G2 := g2.hs.g0
    obtain ⟨hgo, hy⟩ := W.go i _ _ _ _ _ hlt hok g2.hs.a0 E1 g2.hs
    refine ⟨hgo, fun H3 => ∃ as2 G2 acc, Vs G2 (res (i + 1)) acc ∧ Good ⟨upd fx.F p (.lst acc), G1, as1⟩ M1 Γ as2 G2 σ H3, fun H3 z => ⟨N - (i + 1), by omega, rfl, hlt, z⟩, fun x H3 hx => ?_⟩
    obtain ⟨G3, h3, o3⟩ := hy x H3 hx
    obtain ⟨js, gt, hjs⟩ := hg i hlt
    have g3 := g2.lift h3
    have e23 : Ex G2 G3 := h3.g0
    refine gt.run _ _ as2 G3 _ H3 x (g3.wipe vs) o3 _ fun σ4 g4 w4 => ?_
    have hw : wipe σ4 vs = wipe σ vs := by
      rw [w4 vs hjs]
      have : ∀ (ws : List Nat) (τ : L2.St), (∀ j ∈ ws, j ∈ vs) → wipe (wipe τ ws) vs = wipe τ vs := by
        intro ws
        induction ws with
        | nil => intro τ _; rfl
        | cons w ws ih =>
          intro τ hm
          show wipe ((wipe τ ws).set w none) vs = wipe τ vs
          rw [wipe_set (hm w List.mem_cons_self), ih τ fun j hj => hm j (List.mem_cons_of_mem _ hj)]
      exact this vs σ fun j hj => hj
    refine ⟨hw, ?_⟩
    refine ht i hlt (Fx.mk (upd fx.F p (.lst acc)) G3 as2) as2 G3 σ4 H3 ⟨g4.hs.re, g4.len, g4.env⟩ _ fun as5 G5 H5 hs5 => ?_
    have hrs := h1 i hlt
    have eI : Ex G3 G5 := hs5.g0
    have g5 : Good ⟨upd fx.F p (.lst acc), G1, as1⟩ M1 Γ as5 G5 σ H5 := g3.lift hs5
    cases hb : bt i with
    | false =>
      refine iteF ⟨as5, G5, acc, ?_, g5⟩
      rw [hrs, hb]
      exact iteF2 (hacc.mono (e23.trans eI))
    | true =>
      refine iteT ?_
      refine he i hlt hb (Fx.mk (upd fx.F p (.lst acc)) G5 as5) as5 G5 σ4 H5 ⟨hs5.re, g4.len, fun a s e => (g4.env a s e).imp id fun ⟨v, q1, q2⟩ => ⟨v, q1, q2.mono eI hs5.a0⟩⟩ _ fun y as6 G6 H6 hs6 o6 => ?_
      have e6 : Ex G5 G6 := hs6.g0
      have g6 := g5.lift hs6
      have hpin : H6 p = some (.lst acc) := (g6.hs.fr p _ (by show upd fx.F p (.lst acc) p = some (.lst acc); exact upd_same)).1
      refine ⟨acc, hpin, sz_lt (by rw [hacc.length]; exact Nat.lt_of_le_of_lt (hz i hi) (by decide)), as6, G6, acc ++ [y], ?_, ?_⟩
      · rw [hrs, hb]
        exact iteT2 ((hacc.mono ((e23.trans eI).trans e6)).append (.one o6))
      · have hh := g6.hs.held (o := .lst acc) (o' := .lst (acc ++ [y])) (by show upd fx.F p (.lst acc) p = some (.lst acc); exact upd_same)
        rw [upd_upd] at hh
        exact ⟨hh, g6.len, g6.env⟩
  · have e : i = N := by omega
    subst e
    refine .inl ⟨W.stop i _ _ _ _ _ (Nat.le_refl _) hok g2.hs.a0 g2.hs.g0 g2.hs, ?_⟩
    obtain ⟨u1, u2, u3, u4⟩ := g2.hs.unhold hFp
    have u5 : Hs fx M1 as2 G2 H' := g1.hs.back u1
    have hl : as2.length = M1.length := u5.len
    refine q _ (as2 ++ [p]) G2 H' (u5.back (u5.tocell hFp u2 u3 u4 (C := cLs (res i)) ⟨acc, rfl, hacc⟩)) ⟨p, ?_, rfl⟩
    rw [← hl, List.getElem?_append_right (Nat.le_refl _), Nat.sub_self] <;> rfl
where
  iteT2 {G : Hp} {a b : List VP} {v : List V} (h : Vs G a v) : Vs G (if true = true then a else b) v := by rw [if_pos rfl]; exact h
  iteF2 {G : Hp} {a b : List VP} {v : List V} (h : Vs G b v) : Vs G (if false = true then a else b) v := by rw [if_neg Bool.false_ne_true]; exact h
end
end PL

namespace PL
open PySem L2

/-! ### a promise: for every x with pre x, from cells cin x and arguments args x (cells by their number) to cells cout x (the new ones behind) and what is handed back -/
structure Con where
  ι : Type
  pre : ι → Prop
  cin : ι → List CP
  args : ι → List Sl
  cout : ι → List CP
  ret : ι → Sl
abbrev somes (l : List CP) : List (Option CP) := l.map some
def spC (c : Con) : Sp := fun vs H Q _ => ∃ (x : c.ι) (F : Hp) (as : List Addr) (G : Hp), c.pre x ∧ Hs ⟨F, G, as⟩ (somes (c.cin x)) as G H ∧ Slots as G (c.args x) vs ∧
  Rt ⟨F, G, as⟩ (somes (c.cout x)) (c.ret x) Q

section
variable {K : PySem.W.Frag} {fx fx' : Fx} {M M1 M2 M3 M' : List (Option CP)} {Γ Γ' Γ1 Γ2 : List Sl} {te ta tb tc : TE} {t t1 t2 tt : TT} {s s1 s2 s3 : Sl} {b b1 b2 : Bool} {r : R2} {D : Ends} {tu tw tz : TS} {i j k : Nat}
  {x y : V} {m n : Int} {P Q P1 P2 : VP} {Ps Qs : List VP} {g g1 g2 : TG} {wi : TI} {N : Nat} {Pf : Nat → VP} {js js1 js2 : List Nat}

/-! ### a call: κ says which of the caller's cells are the callee's -/
def Sl.ren (κ : List Nat) : Sl → Sl
  | .d P => .d P
  | .c j => .c (κ.getD j 0)
  | .u => .u
def putM (M : List (Option CP)) : List Nat → List CP → List (Option CP)
  | k :: κ, C :: l => putM (M.set k (some C)) κ l
  | [], l => M ++ somes l
  | _ :: _, [] => M
inductive Subs : List Sl → List Sl → Prop
  | nil : Subs [] []
  | cons {s s' : Sl} {ss ss' : List Sl} : SlLe s s' → Subs ss ss' → Subs (s :: ss) (s' :: ss')
/-- the call where the callee leaves its cells' kinds as they are and makes none -/
structure CallAt (c : Con) (x : c.ι) (κ : List Nat) (M : List (Option CP)) (ss : List Sl) : Prop where
  pre : c.pre x
  nd : κ.Nodup
  len : κ.length = (c.cin x).length
  cells : ∀ (j k : Nat), κ[j]? = some k → ∃ C : CP, (c.cin x)[j]? = some C ∧ M[k]? = some (some C)
  args : Subs ss ((c.args x).map (Sl.ren κ))
  ok : ∀ j, Sl.c j ∈ c.args x → j < κ.length
/-- as seen by the callee -/
def asC (as : List Addr) (κ : List Nat) : List Addr := κ.map fun k => as.getD k 0
def frC (G H : Hp) (as : List Addr) : Hp := fun a => if (G a).isSome then none else if a ∈ as then none else H a
theorem asC_get {as : List Addr} {κ : List Nat} (h : κ[j]? = some k) (hk : k < as.length) : ∃ a, as[k]? = some a ∧ (asC as κ)[j]? = some a := by
  refine ⟨as[k], List.getElem?_eq_getElem hk, ?_⟩
  unfold asC
  rw [List.getElem?_map, h]
  simp [List.getD_eq_getElem?_getD, hk]
theorem asC_inv {as : List Addr} {κ : List Nat} {a : Addr} (h : (asC as κ)[j]? = some a) (hk : ∀ k ∈ κ, k < as.length) : ∃ k, κ[j]? = some k ∧ as[k]? = some a := by
  unfold asC at h
  rw [List.getElem?_map] at h
  cases e : κ[j]? with
  | none => rw [e] at h; cases h
  | some k =>
    rw [e] at h
    have hk' := hk k (List.mem_of_getElem? e)
    refine ⟨k, rfl, ?_⟩
    simp [List.getD_eq_getElem?_getD, hk'] at h
    rw [List.getElem?_eq_getElem hk', h]
theorem callee_in {c : Con} {x : c.ι} {κ : List Nat} {ss : List Sl} {as : List Addr} {G H : Hp} (h : Hs fx M as G H) (C : CallAt c x κ M ss) : Hs ⟨frC G H (asC as κ), G, asC as κ⟩ (somes (c.cin x)) (asC as κ) G H := by
  have hlt : ∀ k ∈ κ, k < as.length := fun k hk => by
    obtain ⟨j, hj⟩ := List.mem_iff_getElem?.mp hk
    obtain ⟨C', _, e⟩ := C.cells j k hj
    rw [h.len]
    exact (List.getElem?_eq_some_iff.mp e).1
  refine ⟨h.ex, Ex.refl _, List.prefix_refl _, fun a o e => ?_, ?_, ?_, fun a ha => ?_, fun j a C' ha hC => ?_⟩
  · have e : (if (G a).isSome then none else if a ∈ asC as κ then none else H a) = some o := e
    cases hg : G a with
    | some u => rw [hg] at e; simp at e
    | none =>
      rw [hg] at e
      by_cases hm : a ∈ asC as κ
      · rw [if_neg (by simp), if_pos hm] at e; cases e
      · rw [if_neg (by simp), if_neg hm] at e
        exact ⟨e, rfl, hm⟩
  · show (κ.map _).length = ((c.cin x).map _).length
    rw [List.length_map, List.length_map, C.len]
  · have : ∀ (l : List Nat), (∀ k ∈ l, k < as.length) → l.Nodup → (asC as l).Nodup := by
      intro l
      induction l with
      | nil => intro _ _; exact List.nodup_nil
      | cons k l ih =>
        intro h1 h2
        rw [List.nodup_cons] at h2
        show (as.getD k 0 :: asC as l).Nodup
        rw [List.nodup_cons]
        refine ⟨fun hm => ?_, ih (fun q hq => h1 q (List.mem_cons_of_mem _ hq)) h2.2⟩
        unfold asC at hm
        obtain ⟨k', hk', e⟩ := List.mem_map.mp hm
        have l1 := h1 k List.mem_cons_self
        have l2 := h1 k' (List.mem_cons_of_mem _ hk')
        have e1 : as[k]? = some (as.getD k 0) := by simp [List.getD_eq_getElem?_getD, l1]
        have e2 : as[k']? = some (as.getD k 0) := by rw [← e]; simp [List.getD_eq_getElem?_getD, l2]
        exact h2.1 (by rw [h.inj e1 e2]; exact hk')
    exact this κ hlt C.nd
  · obtain ⟨j, hj⟩ := List.mem_iff_getElem?.mp ha
    obtain ⟨k, h1, h2⟩ := asC_inv hj hlt
    exact h.al a (List.mem_of_getElem? h2)
  · obtain ⟨k, h1, h2⟩ := asC_inv ha hlt
    obtain ⟨C2, e1, e2⟩ := C.cells j k h1
    have e3 : C2 = C' := by
      show C2 = C'
      rw [show (somes (c.cin x))[j]? = some (some C2) by simp [somes, e1]] at hC
      exact Option.some.inj (Option.some.inj hC)
    subst e3
    exact h.cells k a C2 h2 e2
theorem Subs.slots {as : List Addr} {G : Hp} {κ : List Nat} (hlt : ∀ k ∈ κ, k < as.length) : ∀ {ss as' : List Sl} {vs : List V}, (∀ j, Sl.c j ∈ as' → j < κ.length) → Subs ss (as'.map (Sl.ren κ)) → Slots as G ss vs → Slots (asC as κ) G as' vs
  | _, [], _, _, .nil, .nil => .nil
  | _, s' :: as', _, hok, .cons h1 h2, .cons o1 o2 => by
    refine .cons ?_ (Subs.slots hlt (fun j hj => hok j (List.mem_cons_of_mem _ hj)) h2 o2)
    have o := h1.ok o1
    cases s' with
    | d P => exact o
    | u => trivial
    | c j =>
      obtain ⟨a, e1, e2⟩ := o
      have hj := hok j List.mem_cons_self
      have e3 : κ[j]? = some (κ.getD j 0) := by simp [List.getD_eq_getElem?_getD, hj]
      obtain ⟨a', e4, e5⟩ := asC_get (as := as) e3 (hlt _ (List.mem_of_getElem? e3))
      rw [e1] at e4
      cases e4
      exact ⟨a, e5, e2⟩
theorem putM_length : ∀ (κ : List Nat) (M : List (Option CP)) (l : List CP), κ.length ≤ l.length → (putM M κ l).length = M.length + (l.length - κ.length)
  | [], M, l, _ => by simp [putM, somes]
  | k :: κ, M, [], h => by simp at h
  | k :: κ, M, C :: l, h => by
    show (putM (M.set k (some C)) κ l).length = _
    rw [putM_length κ _ l (by simpa using h), List.length_set]
    simp
theorem putM_get : ∀ (κ : List Nat) (M : List (Option CP)) (l : List CP) (k : Nat) (C : CP), κ.Nodup → κ.length ≤ l.length → (∀ k ∈ κ, k < M.length) → (putM M κ l)[k]? = some (some C) →
    (∃ j : Nat, κ[j]? = some k ∧ l[j]? = some C) ∨ (k ∉ κ ∧ M[k]? = some (some C)) ∨ (M.length ≤ k ∧ l[k - M.length + κ.length]? = some C)
  | [], M, l, k, C, _, _, _, h => by
    have h : (M ++ somes l)[k]? = some (some C) := h
    by_cases hk : k < M.length
    · rw [List.getElem?_append_left hk] at h
      exact .inr (.inl ⟨by simp, h⟩)
    · rw [List.getElem?_append_right (by omega)] at h
      refine .inr (.inr ⟨by omega, ?_⟩)
      simp only [somes, List.getElem?_map] at h
      cases e : l[k - M.length]? with
      | none => rw [e] at h; cases h
      | some C' => rw [e] at h; simp at h; subst h; simpa using e
  | q :: κ, M, [], k, C, _, h2, _, _ => by simp at h2
  | q :: κ, M, C0 :: l, k, C, h1, h2, h3, h => by
    have h : (putM (M.set q (some C0)) κ l)[k]? = some (some C) := h
    rw [List.nodup_cons] at h1
    have hq := h3 q List.mem_cons_self
    rcases putM_get κ _ l k C h1.2 (by simpa using h2) (fun z hz => by rw [List.length_set]; exact h3 z (List.mem_cons_of_mem _ hz)) h with ⟨j, e1, e2⟩ | ⟨e1, e2⟩ | ⟨e1, e2⟩
    · exact .inl ⟨j + 1, by simpa using e1, by simpa using e2⟩
    · by_cases e : q = k
      · subst e
        rw [List.getElem?_set_self hq] at e2
        cases e2
        exact .inl ⟨0, rfl, rfl⟩
      · rw [List.getElem?_set_ne e] at e2
        exact .inr (.inl ⟨fun hm => (List.mem_cons.mp hm).elim (fun z => e z.symm) e1, e2⟩)
    · rw [List.length_set] at e1 e2
      exact .inr (.inr ⟨e1, by rw [List.length_cons, ← Nat.add_assoc, List.getElem?_cons_succ]; exact e2⟩)
theorem asC_pre {as : List Addr} {κ : List Nat} {as' : List Addr} (h : asC as κ <+: as') : as' = asC as κ ++ as'.drop κ.length := by
  obtain ⟨r, e⟩ := h
  subst e
  have : (asC as κ).length = κ.length := by unfold asC; rw [List.length_map]
  rw [← this, List.drop_left]
/-- back in the caller -/
theorem callee_out {c : Con} {x : c.ι} {κ : List Nat} {ss : List Sl} {as as' : List Addr} {G H G' H' : Hp} (h : Hs fx M as G H) (C : CallAt c x κ M ss) (hl : κ.length ≤ (c.cout x).length)
    (h' : Hs ⟨frC G H (asC as κ), G, asC as κ⟩ (somes (c.cout x)) as' G' H') : Hs (fx.at G as) (putM M κ (c.cout x)) (as ++ as'.drop κ.length) G' H' := by
  have hlt : ∀ k ∈ κ, k < as.length := fun k hk => by
    obtain ⟨j, hj⟩ := List.mem_iff_getElem?.mp hk
    obtain ⟨C', _, e⟩ := C.cells j k hj
    rw [h.len]
    exact (List.getElem?_eq_some_iff.mp e).1
  have hca : (asC as κ).length = κ.length := by unfold asC; rw [List.length_map]
  have eas := asC_pre h'.a0
  have hnew : ∀ a ∈ as'.drop κ.length, a ∉ asC as κ := fun a ha hm => by
    have nd := h'.nd
    rw [eas, List.nodup_append] at nd
    exact nd.2.2 a hm a ha rfl
  have hsame : ∀ a, a ∈ as → a ∉ asC as κ → G a = none → ∀ o, H a = some o → H' a = some o ∧ G' a = none ∧ a ∉ as' := fun a ha hm hg o ho => h'.fr a o (by
    show (if (G a).isSome then none else if a ∈ asC as κ then none else H a) = some o
    rw [hg, if_neg (by simp), if_neg hm]; exact ho)
  have hfr : ∀ a o, H a = some o → G a = none → a ∉ asC as κ → H' a = some o ∧ G' a = none ∧ a ∉ as' := fun a o ho hg hm => h'.fr a o (by
    show (if (G a).isSome then none else if a ∈ asC as κ then none else H a) = some o
    rw [hg, if_neg (by simp), if_neg hm]; exact ho)
  have hmem : ∀ a, a ∈ asC as κ → a ∈ as := fun a hm => by
    obtain ⟨j, hj⟩ := List.mem_iff_getElem?.mp hm
    obtain ⟨k, _, h2⟩ := asC_inv hj hlt
    exact List.mem_of_getElem? h2
  have hdrop : ∀ a, a ∈ as'.drop κ.length → a ∈ as' := fun a ha => List.mem_of_mem_drop ha
  -- a new address is none of the caller's
  have hfresh : ∀ a, a ∈ as'.drop κ.length → a ∉ as := fun a ha hm => by
    by_cases hg : G a = none
    · obtain ⟨o, ho⟩ := Option.ne_none_iff_exists'.mp (h.al a hm)
      exact (hsame a hm (hnew a ha) hg o ho).2.2 (hdrop a ha)
    · obtain ⟨u, hu⟩ := Option.ne_none_iff_exists'.mp hg
      -- the callee's own cells are unknown
      obtain ⟨q, hq⟩ := List.mem_iff_getElem?.mp ha
      rw [List.getElem?_drop] at hq
      have hl' := h'.len
      have hq2 : κ.length + q < (c.cout x).length := by
        have z := (List.getElem?_eq_some_iff.mp hq).1
        simp only [somes, List.length_map] at hl'
        omega
      have := (h'.cells _ a _ hq (by simp [somes, List.getElem?_eq_getElem hq2]; rfl)).1
      rw [h'.g0 a u hu] at this
      cases this
  refine ⟨h'.ex, h'.g0, List.prefix_append _ _, fun a o e => ?_, ?_, ?_, fun a ha => ?_, fun k a C' ha hC => ?_⟩
  · obtain ⟨h1, h2, h3⟩ := h.fr a o e
    obtain ⟨k1, k2, k3⟩ := hfr a o h1 h2 fun hm => h3 (hmem a hm)
    refine ⟨k1, k2, fun hm => ?_⟩
    rcases List.mem_append.mp hm with hm | hm
    · exact h3 hm
    · exact k3 (hdrop a hm)
  · have hl' := h'.len
    rw [putM_length κ M _ hl, List.length_append, List.length_drop, h.len]
    simp only [somes, List.length_map] at hl'
    omega
  · rw [List.nodup_append]
    refine ⟨h.nd, h'.nd.sublist (List.drop_sublist _ _), fun a ha b hb e => ?_⟩
    subst e
    exact hfresh a hb ha
  · rcases List.mem_append.mp ha with ha | ha
    · by_cases hm : a ∈ asC as κ
      · exact h'.al a (by rw [eas]; exact List.mem_append_left _ hm)
      · by_cases hg : G a = none
        · obtain ⟨o, ho⟩ := Option.ne_none_iff_exists'.mp (h.al a ha)
          rw [(hsame a ha hm hg o ho).1]; exact fun z => by cases z
        · obtain ⟨u, hu⟩ := Option.ne_none_iff_exists'.mp hg
          rw [h'.ex a u (h'.g0 a u hu)]; exact fun z => by cases z
    · exact h'.al a (hdrop a ha)
  · rcases putM_get κ M _ k C' C.nd hl (fun z hz => by rw [← h.len]; exact hlt z hz) hC with ⟨j, e1, e2⟩ | ⟨e1, e2⟩ | ⟨e1, e2⟩
    · have hk := hlt k (List.mem_of_getElem? e1)
      rw [List.getElem?_append_left hk] at ha
      obtain ⟨a', e3, e4⟩ := asC_get (as := as) e1 hk
      rw [ha] at e3; cases e3
      refine h'.cells j a C' ?_ (by simp [somes, e2])
      rw [eas, List.getElem?_append_left (List.getElem?_eq_some_iff.mp e4).1]; exact e4
    · have hk : k < as.length := by rw [h.len]; exact (List.getElem?_eq_some_iff.mp e2).1
      rw [List.getElem?_append_left hk] at ha
      obtain ⟨g1, o, g2, g3⟩ := h.cells k a C' ha e2
      have hm : a ∉ asC as κ := fun hm => by
        obtain ⟨j, hj⟩ := List.mem_iff_getElem?.mp hm
        obtain ⟨k', h1, h2⟩ := asC_inv hj hlt
        have := h.inj ha h2
        subst this
        exact e1 (List.mem_of_getElem? h1)
      obtain ⟨z1, z2, _⟩ := hfr a o g2 g1 hm
      exact ⟨z2, o, z1, C'.mono h'.g0 g3⟩
    · rw [← h.len] at e1 e2
      rw [List.getElem?_append_right e1, List.getElem?_drop] at ha
      exact h'.cells (κ.length + (k - as.length)) a C' ha (by simp [somes]; rw [Nat.add_comm]; exact e2)
/-- what is handed back, as the caller sees it -/
def Sl.back (κ : List Nat) (n : Nat) : Sl → Sl
  | .d P => .d P
  | .c j => .c (if j < κ.length then κ.getD j 0 else n + (j - κ.length))
  | .u => .u
theorem cb_call {c : Con} {E : XK} {ss : List Sl} (x : c.ι) (κ : List Nat) (C : CallAt c x κ M1 ss) (hl : κ.length ≤ (c.cout x).length) :
    CBV M1 (fun vs H Q => spC c (vs ++ []) H Q E) ss (putM M1 κ (c.cout x)) ((c.ret x).back κ M1.length) := fun fx as1 G1 H1 vs h1 o Q q => by
  have hlt : ∀ k ∈ κ, k < as1.length := fun k hk => by
    obtain ⟨j, hj⟩ := List.mem_iff_getElem?.mp hk
    obtain ⟨C', _, e⟩ := C.cells j k hj
    rw [h1.len]
    exact (List.getElem?_eq_some_iff.mp e).1
  show spC c (vs ++ []) H1 Q E
  rw [List.append_nil]
  refine ⟨x, _, _, G1, C.pre, callee_in h1 C, C.args.slots hlt C.ok o, fun v as2 G2 H2 h2 o2 => ?_⟩
  refine q v (as1 ++ as2.drop κ.length) G2 H2 (h1.back (callee_out h1 C hl h2)) ?_
  have hca : (asC as1 κ).length = κ.length := by unfold asC; rw [List.length_map]
  cases e : c.ret x with
  | d P => rw [e] at o2; exact o2
  | u => trivial
  | c j =>
    rw [e] at o2
    obtain ⟨a, e1, e2⟩ := o2
    have eas := asC_pre h2.a0
    refine ⟨a, ?_, e2⟩
    by_cases hj : j < κ.length
    · rw [if_pos hj]
      have e3 : κ[j]? = some (κ.getD j 0) := by simp [List.getD_eq_getElem?_getD, hj]
      obtain ⟨a', e4, e5⟩ := asC_get (as := as1) e3 (hlt _ (List.mem_of_getElem? e3))
      rw [eas, List.getElem?_append_left (by rw [hca]; exact hj), e5] at e1
      cases e1
      rw [List.getElem?_append_left (hlt _ (List.mem_of_getElem? e3))]
      exact e4
    · rw [if_neg hj]
      rw [eas, List.getElem?_append_right (by rw [hca]; omega), hca] at e1
      rw [← h1.len, List.getElem?_append_right (by omega), Nat.add_sub_cancel_left]
      exact e1
theorem ev_call {c : Con} {E : XK} {tr : TA} {ss : List Sl} (x : c.ι) (κ : List Nat) (ha : EA M Γ tr M1 ss) (C : CallAt c x κ M1 ss) (hl : κ.length ≤ (c.cout x).length) :
    EV M Γ (tCall (spC c) [] E tr) (putM M1 κ (c.cout x)) ((c.ret x).back κ M1.length) := ev_cb (r := fun vs H Q => spC c (vs ++ []) H Q E) ha (cb_call x κ C hl)
theorem Slots.get {as : List Addr} {G : Hp} {ss : List Sl} {vs : List V} (h : Slots as G ss vs) : ∀ {i : Nat} {s' : Sl}, ss[i]? = some s' → ∃ v, vs[i]? = some v ∧ s'.ok as G v := by
  induction h with
  | nil => intro i s' e; simp at e
  | cons a _ ih =>
    intro i s' e
    cases i with
    | zero => simp at e; subst e; exact ⟨_, rfl, a⟩
    | succ i => exact ih (by simpa using e)
theorem Slots.set {as : List Addr} {G : Hp} {ss : List Sl} {vs : List V} {v : V} {s' : Sl} (h : Slots as G ss vs) : ∀ {i : Nat}, vs[i]? = some v → s'.ok as G v → Slots as G (ss.set i s') vs := by
  induction h with
  | nil => intro i e _; exact .nil
  | cons a k ih =>
    intro i e o
    cases i with
    | zero => simp at e; subst e; exact .cons o k
    | succ i => exact .cons a (ih (by simpa using e) o)
/-- an argument is some r -/
theorem cb_ex {rr : List V → Hp → VK → Prop} {ss : List Sl} {ρ : Type} {I : ρ → Prop} {R : ρ → VP} (j : Nat) (hj : ss[j]? = some (.d (vEx I R))) (h : ∀ z, I z → CBV M rr (ss.set j (.d (R z))) M' s) : CBV M rr ss M' s := fun fx as G H xs h0 o Q q => by
  obtain ⟨v, e1, z, hz, e2⟩ := o.get hj
  exact h z hz fx as G H xs h0 (o.set (s' := .d (R z)) e1 e2) Q q

/-! ### a def keeps its promise -/
variable {Pg : Program} {w : World} {mg : Str → Option Value} {base : Heap}
/-- from the body's walk -/
theorem fn_con {xn qual : Str} {st : Stmt} {f : Addr} {fd : FuncData} {Ns ps : List Str} {lv : Nat} {c : Con} (F : Fun K xn qual st f fd) (S : FnScope Ns ps (defScope st)) (len : ∀ x, (c.args x).length = ps.length)
    (hbody : ∀ (cdv : Value) (A : Around) (outer : List Env) (s : Shared) (H : Hp) (E : XK), Room lv (A.deeper (PyProof.Rows.envOfC qual (defScope st) s.heap.objs.size f cdv)) →
      ∃ t, PSs (cxOf CX0 Pg w K mg base Ns qual (defScope st) f cdv A outer s H E).nox (defBody st) t ∧
        ∀ x, c.pre x → ∀ fx Q, Rt fx (somes (c.cout x)) (c.ret x) Q → fx.as0.length = (c.cin x).length → KV fx (somes (c.cin x)) (c.args x ++ List.replicate (Ns.length - ps.length) .u) (t { nx := fun _ H' => Q .non H', rt := Q })) :
    FnOk Pg w K mg base CX0 (lv + 1) f fd ps (spC c) := by
  refine F.ok S (fun vs H Q E h => ?_) fun cdv A outer s H vs Q E hr h => ?_
  · obtain ⟨x, _, as, G, _, _, ha, _⟩ := h
    rw [ha.length, len]
  · obtain ⟨x, F', as, G, hp, hs, ha, hq⟩ := h
    obtain ⟨t, ht, hk⟩ := hbody cdv A outer s H E hr
    refine ⟨t, ht, hk x hp ⟨F', G, as⟩ Q hq (by have := hs.len; simpa [somes] using this) as G _ H ⟨hs, ?_, ?_⟩⟩
    · unfold L2.start
      rw [List.length_append, List.length_append, List.length_map, List.length_replicate, List.length_replicate, ha.length, len]
    · intro i s' e
      have hva := ha.length
      by_cases hi : i < (c.args x).length
      · rw [List.getElem?_append_left hi] at e
        have : ∀ {ss : List Sl} {vs : List V} (i : Nat) (s' : Sl), Slots as G ss vs → ss[i]? = some s' → ∃ v, vs[i]? = some v ∧ s'.ok as G v := by
          intro ss vs i s' h
          induction h generalizing i with
          | nil => intro e; simp at e
          | cons a _ ih =>
            intro e
            cases i with
            | zero => simp at e; subst e; exact ⟨_, rfl, a⟩
            | succ i => exact ih i (by simpa using e)
        obtain ⟨v, e1, e2⟩ := this i s' ha e
        refine .inr ⟨v, ?_, e2⟩
        unfold L2.start
        rw [List.getElem?_append_left (by rw [List.length_map, hva]; exact hi), List.getElem?_map, e1] <;> rfl
      · rw [List.getElem?_append_right (by omega)] at e
        have := List.mem_of_getElem? e
        exact .inl (List.eq_of_mem_replicate this)
end
end PL

namespace L2
open PySem PySem.Spec PyProof.Rows
section
variable {X : Cx}
def rInT (K : PySem.W.Frag) (neg : Bool) : R2 := fun x y H Q => ∃ d ds, Dp K H x d ∧ Dp K H y (.tuple ds) ∧ SeqAt.shaped d = true ∧ SeqAt.shaped (.tuple ds) = true ∧ Q (.bl (if neg = true then !ds.any fun z => PyData.eqv z d else ds.any fun z => PyData.eqv z d)) H
theorem op_inT (room : X.A.units + 65 < cLine) : OpR X (compareOp .In) (rInT X.K false) := by
  intro ps s σ H x y v u Q inv rx ry ⟨d, ds, d1, d2, s1, s2, q⟩
  obtain ⟨l1, z1⟩ := Dp.reads inv d x v d1 rx
  obtain ⟨l2, z2⟩ := Dp.reads inv (.tuple ds) y u d2 ry
  exact SeqAt.in_tuple_reads z2 z1 (SeqAt.canLay_of_shaped s2) (SeqAt.canLay_of_shaped s1) (room_in_shaped s1 room) ⟨.bl _, H, inv, rfl, q⟩
theorem op_niT (room : X.A.units + 65 < cLine) : OpR X (compareOp .NotIn) (rInT X.K true) := by
  intro ps s σ H x y v u Q inv rx ry ⟨d, ds, d1, d2, s1, s2, q⟩
  obtain ⟨l1, z1⟩ := Dp.reads inv d x v d1 rx
  obtain ⟨l2, z2⟩ := Dp.reads inv (.tuple ds) y u d2 ry
  exact SeqAt.notIn_tuple_reads z2 z1 (SeqAt.canLay_of_shaped s2) (SeqAt.canLay_of_shaped s1) (room_in_shaped s1 room) ⟨.bl _, H, inv, rfl, q⟩
end
end L2
namespace PL
open PySem L2
/-! ### operators, any kind of operands -/
def rAdd' (K : PySem.W.Frag) : R2 := fun x y H Q => (rI0 fun i j => .int (i + j)) x y H Q ∨ rCat x y H Q ∨ rCatA K x y H Q
def rEq' (K : PySem.W.Frag) : R2 := fun x y H Q => rEq x y H Q ∨ rEqD K x y H Q
def rNe' (K : PySem.W.Frag) : R2 := fun x y H Q => rNe x y H Q ∨ rNeD K x y H Q
def rIn' (K : PySem.W.Frag) : R2 := fun x y H Q => rIn K false x y H Q ∨ rInD K x y H Q ∨ rInT K false x y H Q
def rNi' (K : PySem.W.Frag) : R2 := fun x y H Q => rIn K true x y H Q ∨ rNotInD K x y H Q ∨ rInT K true x y H Q
def rSl' (K : PySem.W.Frag) : V → Option Int → Option Int → Hp → VK → Prop := fun x lo hi H Q => rSlL K x lo hi H Q ∨ rSlA K x lo hi H Q
def rLen' (K : PySem.W.Frag) : List V → Hp → VK → Prop := fun xs H Q => ∃ p ys, xs = [.ref p] ∧ (SqL K H p ys ∨ SqT K H p ys) ∧ Q (.int ys.length) H
def rList' (K : PySem.W.Frag) : List V → Hp → VK → Prop := fun xs H Q => ∃ p ys, xs = [.ref p] ∧ (SqL K H p ys ∨ SqT K H p ys) ∧ ∀ l, H l = none → Q (.ref l) (upd H l (.lst ys))
def rTuple' (K : PySem.W.Frag) : List V → Hp → VK → Prop := fun xs H Q => ∃ p ys, xs = [.ref p] ∧ ((SqL K H p ys ∧ ∀ l, H l = none → Q (.ref l) (upd H l (.tup ys))) ∨ (SqT K H p ys ∧ Q (.ref p) H))
def rInt' : List V → Hp → VK → Prop := fun xs H Q => (∃ i, xs = [.int i] ∧ Q (.int i) H) ∨ ∃ k, xs = [.bl k] ∧ Q (.int (if k then 1 else 0)) H
def rMax2' : List V → Hp → VK → Prop := fun xs H Q => ∃ i j, xs = [.int i, .int j] ∧ Q (.int (if j > i then j else i)) H
def rMin2' : List V → Hp → VK → Prop := fun xs H Q => ∃ i j, xs = [.int i, .int j] ∧ Q (.int (if j < i then j else i)) H
def tTru' (K : PySem.W.Frag) (ta : TE) : TT := fun σ H Q => ta σ H fun x H' => ∃ k, TruV K x H' k ∧ Q k H'
section
variable {X : Cx} {k : Nat} (K : PySem.W.Frag)
theorem un65 (hr : Room k X.A) : X.A.units + 65 < cLine := by have := hr.un; omega
theorem op_add' (hK : X.K = K := by rfl) : OpR X (binaryOp .Add) (rAdd' K) := by subst hK; exact OpR.or op_add (OpR.or op_cat op_catA)
theorem op_eq' (hr : Room k X.A) (hK : X.K = K := by rfl) : OpR X (compareOp .Eq) (rEq' K) := by subst hK; exact OpR.or op_eq (op_eqD hr.units)
theorem op_ne' (hr : Room k X.A) (hK : X.K = K := by rfl) : OpR X (compareOp .NotEq) (rNe' K) := by subst hK; exact OpR.or op_ne (op_neD hr.units)
theorem op_in' (hr : Room k X.A) (hK : X.K = K := by rfl) : OpR X (compareOp .In) (rIn' K) := by subst hK; exact OpR.or op_in_seq (OpR.or (op_inD (un65 hr)) (op_inT (un65 hr)))
theorem op_ni' (hr : Room k X.A) (hK : X.K = K := by rfl) : OpR X (compareOp .NotIn) (rNi' K) := by subst hK; exact OpR.or op_notIn_seq (OpR.or (op_notInD (un65 hr)) (op_niT (un65 hr)))
theorem sl_any' (hK : X.K = K := by rfl) : SlR X (rSl' K) := by subst hK; exact SlR.or sl_list sl_tupA
theorem ix' (hK : X.K = K := by rfl) : IxR X (rIx K) := by subst hK; exact ix_seq
theorem call_len' (hK : X.K = K := by rfl) : CallR X (.builtin "len") (rLen' K) := by subst hK; exact call_len_seq
theorem call_list' (hK : X.K = K := by rfl) : CallR X (.type "list") (rList' K) := by subst hK; exact call_list_of
theorem call_tuple' (hK : X.K = K := by rfl) : CallR X (.type "tuple") (rTuple' K) := by subst hK; exact call_tuple_of
theorem call_sorted' (hK : X.K = K := by rfl) : CallR X (.builtin "sorted") (rSortedI K) := by subst hK; exact cr_sortedI
theorem call_all' (hc : X.calm = true := by rfl) (hK : X.K = K := by rfl) : CallR X (.builtin "all") (rAll K) := by subst hK; exact cr_all hc
theorem call_any' (hc : X.calm = true := by rfl) (hK : X.K = K := by rfl) : CallR X (.builtin "any") (rAny K) := by subst hK; exact cr_any hc
theorem call_sum' (hc : X.calm = true := by rfl) (hK : X.K = K := by rfl) : CallR X (.builtin "sum") (rSum K) := by subst hK; exact cr_sum hc
theorem call_isi' (hK : X.K = K := by rfl) : CallR X (.builtin "isinstance") (rIsi K) := by subst hK; exact call_isi
theorem pi_seq' {tg l : Expr} {tl : TE} (hl : PE X l tl) (hK : X.K = K := by rfl) : PI X tg l (PL.iSeq K tl) := by subst hK; exact pi_seq hl
theorem pe_fld' {e : Expr} {ta : TE} {f : Str} {pos : Pos} (he : PE X e ta) (hb : attributeBase e f X.env (eval e X.env) = eval e X.env) (hK : X.K = K := by rfl) : PE X (.Attribute e f pos) (tFld K ta f) := by subst hK; exact pe_fld he hb
theorem ps_fld' {o value : Expr} {ta tv : TE} {f : Str} {pos pos' : Pos} (ha : PE X o ta) (hv : PE X value tv) (hs : swapsWith value (some (.Attribute o f pos')) pos.line X.env = pure false) (hK : X.K = K := by rfl) : PS X (.Assign [.Attribute o f pos'] value pos) (sFld K ta tv f) := by
  subst hK; exact ps_fld ha hv hs
theorem pt_tru' {a : Expr} {ta : TE} (ha : PE X a ta) (he : ∀ whole, isTrue a X.env whole = (do let v ← whole; standAt a.pos; holding [v] (truthy v)) := by intro _; rfl) (hK : X.K = K := by rfl) : PT X a (tTru' K ta) := by subst hK; exact pt_truth ha he
theorem pi_zip' {e e2 : Expr} {ta : TA} {p pos tpos : Pos} {elts : List Expr} {kk : Nat} (hg : Gl X "zip") (hm : X.mg "zip" = none) (ha : PA X [e, e2] ta)
    (hs : starEach [e, e2] X.env = (false, eval e X.env) :: starEach [e2] X.env := by rfl) (hpl : (backTo pos (starEach [e2] X.env)).any (·.1) = false := by rfl) (hK : X.K = K := by rfl) :
    PI X (.Tuple elts kk tpos) (.Call (.Name "zip" p) [e, e2] [] pos) (RZ.iZipA K ta) := by subst hK; exact RZ.pi_zipA hg hm ha hs hpl
theorem pg_tup' {es : List Expr} {k : Nat} {t : TGs} {n : Nat} {pos : Pos} (hc : X.calm = true) (h : PGs X es t)
    (hn : (assignEach es X.env).length = n := by rfl) (hst : (assignEach es X.env).findIdx? (·.1) = none := by rfl) (hK : X.K = K := by rfl) : PG X (.Tuple es k pos) (gTup K n t) := by subst hK; exact pg_tup hc h hn hst
theorem pe_app' {o e : Expr} {to te : TE} {apos cpos : Pos} (ho : PE X o to) (he : PE X e te) (hs : starEach [e] X.env = (false, eval e X.env) :: starEach [] X.env := by rfl)
    (hbase : attributeBase o "append" X.env (eval o X.env) = eval o X.env := by rfl)
    (hfew : ((backTo cpos (starEach [e] X.env)).all (fun x => !x.1) && (backToKw cpos (keywordEach [] X.env)).all (fun x => x.1.isSome)
      && decide ([e].length + ([] : List Keyword).length + (if ([] : List Keyword).isEmpty then 0 else 1) < 30)) = true := by rfl)
    (hline : (apos.endLine == cpos.line) = true := by rfl) (hplain : (backTo cpos (starEach [] X.env)).any (·.1) = false := by rfl) (hK : X.K = K := by rfl) :
    PE X (.Call (.Attribute o "append" apos) [e] [] cpos) (tBM K "list" rAppend to (tCons te tNil)) := by
  subst hK; exact pe_bm PySem.F.plainAttrs_list PySem.F.slot_list_append PySem.F.type_list_append mt_append ho (pa_cons he pa_nil hs) hbase hfew hline hs hplain
theorem pa_star' {e : Expr} {es : List Expr} {te : TE} {t : TA} {p : Pos} (he : PE X e te) (hr : PA X es t) (hs : starEach (.Starred e p :: es) X.env = (true, eval e X.env) :: starEach es X.env := by rfl) (hK : X.K = K := by rfl) : PA X (.Starred e p :: es) (StX.tStar K te t) := by
  subst hK; exact StX.pa_star he hr hs
end
section
variable {X : Cx}
theorem call_int' : CallR X (.type "int") rInt' := call_int1
theorem call_max2' (hc : X.calm = true) : CallR X (.builtin "max") rMax2' := call_max2 hc
theorem call_min2' (hc : X.calm = true) : CallR X (.builtin "min") rMin2' := call_min2 hc
end
/-! ### a def that the text knows, with its promise -/
def Has (P : Program) (w : World) (K : PySem.W.Frag) (mg : Str → Option Value) (base : Heap) (x : Str) (ps : List Str) (lv : Nat) (c : Con) : Prop :=
  ∃ (f : Addr) (fd : FuncData), FnOk P w K mg base CX0 lv f fd ps (spC c) ∧ mg x = some (.ref f) ∧ PySem.W.keepIn K (.ref f) = true ∧ Binds K fd ps []
theorem Has.mono {P : Program} {w : World} {K : PySem.W.Frag} {mg : Str → Option Value} {base : Heap} {x : Str} {ps : List Str} {lv lv' : Nat} {c : Con} (h : Has P w K mg base x ps lv c) (hl : lv ≤ lv') : Has P w K mg base x ps lv' c := by
  obtain ⟨f, fd, h1, h2, h3, h4⟩ := h
  exact ⟨f, fd, h1.mono hl, h2, h3, h4⟩
section
variable {X : Cx} {x : Str} {ps : List Str} {lv k : Nat} {c : Con} {e : Expr} {es : List Expr} {t : TA} {p pos : Pos}
theorem pe_has (h : Has X.prog X.w X.K X.mg X.base x ps lv c) (hr : Room k X.A) (hl : lv ≤ k) (hg : Gl X x) (ha : PA X (e :: es) t) (hdb : (x == ("__debug__" : Str)) = false := by decide)
    (he : starEach (e :: es) X.env = (false, eval e X.env) :: starEach es X.env := by rfl) (hpl : (backTo pos (starEach es X.env)).any (·.1) = false := by rfl) : PE X (.Call (.Name x p) (e :: es) [] pos) (tCall (spC c) [] E0 t) := by
  obtain ⟨f, fd, h1, h2, h3, h4⟩ := h
  exact pe_call h1 (hr.mono hl) hg h2 h3 h4 .nil pass0 ha hdb he hpl
end
/-- the built-in names that the text uses are the built-ins -/
structure Bl (mg : Str → Option Value) : Prop where
  len : mg "len" = none
  range : mg "range" = none
  max : mg "max" = none
  min : mg "min" = none
  int : mg "int" = none
  list : mg "list" = none
  tuple : mg "tuple" = none
  sorted : mg "sorted" = none
  all : mg "all" = none
  any : mg "any" = none
  isinstance : mg "isinstance" = none
  bool : mg "bool" = none
  zip : mg "zip" = none
  enumerate : mg "enumerate" = none
  set : mg "set" = none
  sum : mg "sum" = none

/-! ### the rules for these -/
section
variable {K : PySem.W.Frag} {fx fx' : Fx} {M M1 M2 M3 M' : List (Option CP)} {Γ Γ' Γ1 Γ2 : List Sl} {te ta tb tc : TE} {t t1 t2 tt : TT} {s s1 s2 s3 : Sl} {b b1 b2 : Bool} {r r' : R2} {D : Ends} {tu tw tz : TS} {i j k : Nat}
  {x y : V} {m n : Int} {P Q P1 P2 : VP} {Ps Qs : List VP}
theorem opv_l (h : OPV M r s1 s2 M' s) : OPV M (fun x y H Q => r x y H Q ∨ r' x y H Q) s1 s2 M' s := fun fx as G H x y h0 h1 h2 Q q => .inl (h fx as G H x y h0 h1 h2 Q q)
theorem opv_r (h : OPV M r' s1 s2 M' s) : OPV M (fun x y H Q => r x y H Q ∨ r' x y H Q) s1 s2 M' s := fun fx as G H x y h0 h1 h2 Q q => .inr (h fx as G H x y h0 h1 h2 Q q)
theorem oa_int : OPV M (rAdd' K) (.d (vV (.int m))) (.d (vV (.int n))) M (.d (vV (.int (m + n)))) := opv_l (r' := fun x y H Q => _ ∨ _) opv_I0
theorem oa_L (hl : Ps.length + Qs.length ≤ 16777216) : OPV M (rAdd' K) (.d (vLs Ps)) (.d (vLs Qs)) M (.d (vLs (Ps ++ Qs))) := opv_r (opv_l (opv_cat hl))
theorem oa_T (hl : Ps.length + Qs.length ≤ 16777216) : OPV M (rAdd' K) (.d (vTs Ps)) (.d (vTs Qs)) M (.d (vTs (Ps ++ Qs))) := opv_r (opv_r (opv_catT hl))
theorem oq_int : OPV M (rEq' K) (.d (vV (.int m))) (.d (vV (.int n))) M (.d (vV (.bl (decide (m = n))))) := opv_l opv_eqI
theorem oq_s (hs : scal x y = true) : OPV M (rEq' K) (.d (vV x)) (.d (vV y)) M (.d (vV (.bl (decide (x = y))))) := opv_l (opv_eq hs)
theorem on_int : OPV M (rNe' K) (.d (vV (.int m))) (.d (vV (.int n))) M (.d (vV (.bl (!decide (m = n))))) := opv_l opv_neI
theorem on_s (hs : scal x y = true) : OPV M (rNe' K) (.d (vV x)) (.d (vV y)) M (.d (vV (.bl (!decide (x = y))))) := opv_l (opv_ne hs)
theorem sl_L {lo hi : Option Int} : SLV M (rSl' K) (.d (vLs Ps)) lo hi M (.d (vLs (cutP Ps lo hi))) := fun fx as G H x h o Q q => .inl (slv_L fx as G H x h o Q q)
theorem sl_T {lo hi : Option Int} : SLV M (rSl' K) (.d (vTs Ps)) lo hi M (.d (vTs (cutP Ps lo hi))) := fun fx as G H x h o Q q => .inr (slv_T fx as G H x h o Q q)
theorem cb_subs {rr : List V → Hp → VK → Prop} {ss ss' : List Sl} (h : CBV M rr ss' M' s) (hs : Subs ss ss') : CBV M rr ss M' s := fun fx as G H xs h0 o Q q => by
  refine h fx as G H xs h0 ?_ Q q
  clear q h h0
  induction hs generalizing xs with
  | nil => exact o
  | cons a _ ih => cases o with
    | cons o1 o2 => exact .cons (a.ok o1) (ih _ o2)
theorem ln_Q : CBV M (rLen' K) [.d (vQs Ps)] M (.d (vV (.int (Ps.length : Nat)))) := cb_len
theorem ln_L : CBV M (rLen' K) [.d (vLs Ps)] M (.d (vV (.int (Ps.length : Nat)))) := cb_subs cb_len (.cons (sle_s sub_lq) .nil)
theorem ln_T : CBV M (rLen' K) [.d (vTs Ps)] M (.d (vV (.int (Ps.length : Nat)))) := cb_subs cb_len (.cons (sle_s sub_tq) .nil)
theorem ln_K {ns : List Int} : CBV M (rLen' K) [.d (vK K ns)] M (.d (vV (.int (ns.length : Nat)))) := cb_lenK
theorem ln_C (hM : M[k]? = some (some (cLs Ps))) : CBV M (rLen' K) [.c k] M (.d (vV (.int (Ps.length : Nat)))) := cb_lenC hM
theorem li_Q : CBV M (rList' K) [.d (vQs Ps)] M (.d (vLs Ps)) := cb_list
theorem li_L : CBV M (rList' K) [.d (vLs Ps)] M (.d (vLs Ps)) := cb_subs cb_list (.cons (sle_s sub_lq) .nil)
theorem li_T : CBV M (rList' K) [.d (vTs Ps)] M (.d (vLs Ps)) := cb_subs cb_list (.cons (sle_s sub_tq) .nil)
theorem lc_Q : CBV M (rList' K) [.d (vQs Ps)] (M ++ [some (cLs Ps)]) (.c M.length) := cb_listC
theorem tu_Q : CBV M (rTuple' K) [.d (vQs Ps)] M (.d (vTs Ps)) := cb_tuple
theorem tu_L : CBV M (rTuple' K) [.d (vLs Ps)] M (.d (vTs Ps)) := cb_subs cb_tuple (.cons (sle_s sub_lq) .nil)
theorem tu_T : CBV M (rTuple' K) [.d (vTs Ps)] M (.d (vTs Ps)) := cb_subs cb_tuple (.cons (sle_s sub_tq) .nil)
theorem in_i : CBV M rInt' [.d (vV (.int n))] M (.d (vV (.int n))) := cb_int
theorem in_b : CBV M rInt' [.d (vV (.bl b))] M (.d (vV (.int (if b then 1 else 0)))) := cb_intB
theorem mx_2 : CBV M rMax2' [.d (vV (.int m)), .d (vV (.int n))] M (.d (vV (.int (if n > m then n else m)))) := cb_max2
theorem mn_2 : CBV M rMin2' [.d (vV (.int m)), .d (vV (.int n))] M (.d (vV (.int (if n < m then n else m)))) := cb_min2
theorem tr_Q (h : EV M Γ te M' (.d (vQs Ps))) : ET M Γ (tTru' K te) M' (!Ps.isEmpty) := et_truL (a := vN) h
theorem tr_L (h : EV M Γ te M' (.d (vLs Ps))) : ET M Γ (tTru' K te) M' (!Ps.isEmpty) := tr_Q (ev_sub h sub_lq)
theorem tr_T (h : EV M Γ te M' (.d (vTs Ps))) : ET M Γ (tTru' K te) M' (!Ps.isEmpty) := tr_Q (ev_sub h sub_tq)
theorem tr_B (h : EV M Γ te M' (.d (vV (.bl b)))) : ET M Γ (tTru' K te) M' b := fun fx as G σ H g Q q => h fx as G σ H g _ fun v as' G' H' h1 e => ⟨b, by rw [show v = V.bl b from e]; rfl, q as' G' H' h1⟩
theorem tr_I (h : EV M Γ te M' (.d (vV (.int n)))) : ET M Γ (tTru' K te) M' (n != 0) := fun fx as G σ H g Q q => h fx as G σ H g _ fun v as' G' H' h1 e => ⟨_, by rw [show v = V.int n from e]; rfl, q as' G' H' h1⟩
end
end PL

namespace PL
open PySem L2
section
variable {K : PySem.W.Frag} {fx fx' : Fx} {M M1 M2 M3 M' Mo : List (Option CP)} {Γ Γ' Γ1 Γ2 : List Sl} {te ta tb tc : TE} {t t1 t2 tt : TT} {s s1 s2 s3 so : Sl} {b b1 b2 : Bool} {r r' : R2} {D : Ends} {tu tw tz : TS} {i j k : Nat}
  {x y : V} {m n : Int} {P Q P1 P2 : VP} {Ps Qs : List VP} {C C' : CP}
/-! ### cells told otherwise, the last ones forgotten -/
def CSub (C C' : CP) : Prop := ∀ G o, C.p G o → C'.p G o
inductive CLe : List (Option CP) → List (Option CP) → Prop
  | nil {M : List (Option CP)} : CLe M []
  | same {c : Option CP} {M M' : List (Option CP)} : CLe M M' → CLe (c :: M) (c :: M')
  | drop {c : Option CP} {M M' : List (Option CP)} : CLe M M' → CLe (c :: M) (none :: M')
  | sub {C C' : CP} {M M' : List (Option CP)} : CSub C C' → CLe M M' → CLe (some C :: M) (some C' :: M')
theorem CLe.rfl : ∀ {M : List (Option CP)}, CLe M M
  | [] => .nil
  | _ :: _ => .same CLe.rfl
theorem CLe.len (h : CLe M M') : M'.length ≤ M.length := by
  induction h with
  | nil => exact Nat.zero_le _
  | same _ ih => exact Nat.succ_le_succ ih
  | drop _ ih => exact Nat.succ_le_succ ih
  | sub _ _ ih => exact Nat.succ_le_succ ih
theorem CLe.get (h : CLe M M') : ∀ (k : Nat) (C' : CP), M'[k]? = some (some C') → ∃ C, M[k]? = some (some C) ∧ ∀ G o, C.p G o → C'.p G o := by
  induction h with
  | nil => intro k C' e; simp at e
  | same _ ih =>
    intro k C' e
    cases k with
    | zero => simp at e; subst e; exact ⟨C', by simp, fun _ _ h => h⟩
    | succ k => exact ih k C' (by simpa using e)
  | drop _ ih =>
    intro k C' e
    cases k with
    | zero => simp at e
    | succ k => exact ih k C' (by simpa using e)
  | sub h _ ih =>
    intro k C' e
    cases k with
    | zero => simp at e; subst e; exact ⟨_, by simp, h⟩
    | succ k => exact ih k C' (by simpa using e)
theorem Hs.cle {as : List Addr} {G H : Hp} (h : Hs fx M as G H) (c : CLe M M') (h0 : fx.as0.length ≤ M'.length) : Hs fx M' (as.take M'.length) G H := by
  have hl := c.len
  have e : M = M.take M'.length ++ M.drop M'.length := (List.take_append_drop _ _).symm
  have hlt : (M.take M'.length).length = M'.length := by rw [List.length_take]; omega
  rw [e] at h
  have h1 := h.cut (by rw [hlt]; exact h0)
  rw [hlt] at h1
  refine h1.cells_to hlt.symm fun k C' hk => ?_
  obtain ⟨C, e1, e2⟩ := c.get k C' hk
  have hkl := (List.getElem?_eq_some_iff.mp hk).1
  exact ⟨C, by rw [List.getElem?_take_of_lt hkl]; exact e1, e2⟩
def Sl.low (n : Nat) : Sl → Prop
  | .c k => k < n
  | _ => True
theorem Sl.ok.take {as : List Addr} {G : Hp} {v : V} {n : Nat} (hl : s.low n) (h : s.ok as G v) : s.ok (as.take n) G v := by
  cases s with
  | d P => exact h
  | u => trivial
  | c k =>
    obtain ⟨a, h1, h2⟩ := h
    exact ⟨a, by rw [List.getElem?_take_of_lt hl]; exact h1, h2⟩
theorem Good.cle {as : List Addr} {G H : Hp} {σ : L2.St} (g : Good fx M Γ as G σ H) (c : CLe M M') (h0 : fx.as0.length ≤ M'.length) (hΓ : ∀ s ∈ Γ, Sl.low M'.length s) : Good fx M' Γ (as.take M'.length) G σ H :=
  ⟨g.hs.cle c h0, g.len, fun i s e => (g.env i s e).imp id fun ⟨v, h1, h2⟩ => ⟨v, h1, h2.take (hΓ s (List.mem_of_getElem? e))⟩⟩
theorem kv_cells {kk : L2.St → Hp → Prop} (c : CLe M M') (h0 : fx.as0.length ≤ M'.length) (hΓ : ∀ s ∈ Γ, Sl.low M'.length s) (h : KV fx M' Γ kk) : KV fx M Γ kk := fun as G σ H g => h _ G σ H (g.cle c h0 hΓ)
/-- what is wanted of a return, wherever in the body -/
def Rx (fx : Fx) (Mo : List (Option CP)) (so : Sl) (Q : VK) : Prop := ∀ v as G H M s, Hs fx M as G H → CLe M Mo → SlLe s so → s.ok as G v → Q v H
theorem Rx.of {Q : VK} (q : Rt fx Mo so Q) (h0 : fx.as0.length ≤ Mo.length) (hl : so.low Mo.length) : Rx fx Mo so Q := fun v as G H M s h1 c hs o => q v _ G H (h1.cle c h0) ((hs.ok o).take hl)
theorem Rx.fle {Q : VK} (h : Rx fx Mo so Q) (e : fx.le fx') : Rx fx' Mo so Q := fun v as G H M s h1 c hs o => h v as G H M s (h1.le e) c hs o
theorem k_retW (q : Rx fx Mo so D.rt) (h : EV M Γ te M' s) (c : CLe M' Mo) (hs : SlLe s so) : KV fx M Γ (tRet te D) := fun as G σ H g => h fx as G σ H g _ fun v as' G' H' h1 o => q v as' G' H' M' s h1 c hs o
theorem k_retE {ρ : Type} {I : ρ → Prop} {R : ρ → VP} (q : Rx fx Mo so D.rt) (h : EV M Γ te M' (.d (vEx I R))) (c : CLe M' Mo) (hs : ∀ r, I r → SlLe (.d (R r)) so) : KV fx M Γ (tRet te D) := fun as G σ H g => h fx as G σ H g _ fun v as' G' H' h1 ⟨r, hr, o⟩ => q v as' G' H' M' _ h1 c (hs r hr) o
theorem k_retNW (q : Rx fx Mo (.d (vV .non)) D.rt) (c : CLe M Mo) : KV fx M Γ (tRetN D) := fun as G σ H g => q _ as G H M (.d (vV .non)) g.hs c sle_d rfl
theorem k_end {Q : VK} (q : Rx fx Mo (.d (vV .non)) Q) (c : CLe M Mo) : KV fx M Γ (fun _ H => Q .non H) := fun as G σ H g => q _ as G H M (.d (vV .non)) g.hs c sle_d rfl
variable {Pg : Program} {w : World} {mg : Str → Option Value} {base : Heap}
theorem fn_con' {xn qual : Str} {st : Stmt} {f : Addr} {fd : FuncData} {Ns ps : List Str} {lv : Nat} {c : Con} (F : Fun K xn qual st f fd) (S : FnScope Ns ps (defScope st)) (len : ∀ x, (c.args x).length = ps.length := by intro _; rfl)
    (hbody : ∀ (cdv : Value) (A : Around) (outer : List Env) (s : Shared) (H : Hp) (E : XK), Room lv (A.deeper (PyProof.Rows.envOfC qual (defScope st) s.heap.objs.size f cdv)) →
      ∃ t, PSs (cxOf CX0 Pg w K mg base Ns qual (defScope st) f cdv A outer s H E).nox (defBody st) t ∧
        ∀ x, c.pre x → ∀ fx Q, Rx fx (somes (c.cout x)) (c.ret x) Q → fx.as0.length = (c.cin x).length → KV fx (somes (c.cin x)) (c.args x ++ List.replicate (Ns.length - ps.length) .u) (t { nx := fun _ H' => Q .non H', rt := Q }))
    (low : ∀ x, (c.ret x).low (c.cout x).length := by first | (intro _; trivial) | (intro _; exact Nat.zero_lt_one) | (intro _; decide))
    (cl : ∀ x, (c.cin x).length ≤ (c.cout x).length := by first | (intro _; exact Nat.le_refl _) | (intro _; exact Nat.le_of_ble_eq_true rfl)) :
    FnOk Pg w K mg base CX0 (lv + 1) f fd ps (spC c) := by
  refine fn_con F S len fun cdv A outer s H E hr => ?_
  obtain ⟨t, h1, h2⟩ := hbody cdv A outer s H E hr
  refine ⟨t, h1, fun x hx fx Q hq hl => h2 x hx fx Q (Rx.of hq ?_ ?_) hl⟩
  · rw [hl, somes, List.length_map]; exact cl x
  · rw [somes, List.length_map]; exact low x
/-- the end of a turn, the cells told otherwise -/
theorem k_next' {δ : Type} {Inv : Nat → δ → Prop} {Mi : δ → List (Option CP)} {Γi : δ → List Sl} (d : δ) (hI : Inv i d) (c : CLe M (Mi d)) (h0 : fx.as0.length ≤ (Mi d).length) (hΓ : GLe Γ (Γi d)) (hl : ∀ s ∈ Γi d, Sl.low (Mi d).length s) : KV fx M Γ (NX fx Inv Mi Γi i) := fun as G σ H g =>
  ⟨d, _, G, hI, (g.le hΓ).cle c h0 hl⟩
/-! ### sources: three ints that draws change -/
theorem kv_src {kk : L2.St → Hp → Prop} (k : Nat) (hM : M[k]? = some (some cSrc)) (h : ∀ x y z : Int, KV fx (M.set k (some (cLs [vV (.int x), vV (.int y), vV (.int z)]))) Γ kk) : KV fx M Γ kk := fun as G σ H g => by
  have hk : k < as.length := by rw [g.hs.len]; exact (List.getElem?_eq_some_iff.mp hM).1
  obtain ⟨h1, o, h2, x, y, z, e⟩ := g.hs.cells k as[k] cSrc (List.getElem?_eq_getElem hk) hM
  refine h x y z as G σ H ⟨⟨g.hs.ex, g.hs.g0, g.hs.a0, g.hs.fr, by rw [List.length_set]; exact g.hs.len, g.hs.nd, g.hs.al, fun j a C ha hC => ?_⟩, g.len, g.env⟩
  by_cases hj : k = j
  · subst hj
    rw [List.getElem?_set_self (List.getElem?_eq_some_iff.mp hM).1] at hC
    have e1 := Option.some.inj (Option.some.inj hC)
    rw [List.getElem?_eq_getElem hk] at ha
    have e2 := Option.some.inj ha
    subst e1 e2
    exact ⟨h1, o, h2, _, e, .cons rfl (.cons rfl (.cons rfl .nil))⟩
  · rw [List.getElem?_set_ne hj] at hC
    exact g.hs.cells j a C ha hC
theorem csub_src {x y z : Int} : CSub (cLs [vV (.int x), vV (.int y), vV (.int z)]) cSrc := fun G o ⟨vs, e, h⟩ => by
  cases h with
  | cons a h => cases h with
    | cons b h => cases h with
      | cons c h =>
        cases h
        obtain rfl : _ = V.int x := a
        obtain rfl : _ = V.int y := b
        obtain rfl : _ = V.int z := c
        exact ⟨x, y, z, e⟩
end
/-! ### what a draw is -/
def vR (n : Int) : VP := vEx (fun r : Int => 0 ≤ r ∧ r < n) fun r => vV (.int r)
def cDraw : Con where
  ι := Int
  pre n := 0 < n ∧ n < 1073741824
  cin _ := [cSrc]
  args n := [.c 0, .d (vV (.int n))]
  cout _ := [cSrc]
  ret n := .d (vR n)
def cSource : Con where
  ι := Int
  pre _ := True
  cin _ := []
  args n := [.d (vV (.int n))]
  cout _ := [cSrc]
  ret _ := .c 0
def cCell (K : PySem.W.Frag) : Con where
  ι := List Int × Int
  pre x := 0 ≤ x.2
  cin _ := []
  args x := [.d (vK K x.1), .d (vV (.int x.2))]
  cout _ := []
  ret _ := .d (vEx (fun _ : Int => True) fun r => vV (.int r))
theorem fmod_r {a n : Int} (h : 0 < n) : 0 ≤ a.fmod n ∧ a.fmod n < n := ⟨Int.fmod_nonneg_of_pos a h, Int.fmod_lt_of_pos a h⟩
end PL
namespace PL
open PySem L2
section
variable {K : PySem.W.Frag} {M M' : List (Option CP)} {Γ : List Sl} {P : VP} {i k : Nat} {m n : Int} {Ps : List VP}
theorem ev_varD (h : Γ[i]? = some (.d P)) : EV M Γ (tVar i) M (.d P) := ev_var h (by intro q; cases q)
theorem ev_varC (h : Γ[i]? = some (.c k)) : EV M Γ (tVar i) M (.c k) := ev_var h (by intro q; cases q)
theorem opv_ixC' (hM : M[k]? = some (some (cLs Ps))) (ha : atI Ps n = some P) : OPV M (rIx K) (.c k) (.d (vV (.int n))) M (.d P) := opv_ixC (C := cSrc) hM ha
end
end PL
namespace PL
open PySem L2
/-! ### the same with something behind -/
section
variable {K : PySem.W.Frag} {fx fx' : Fx} {M M1 M2 M3 M' Mo : List (Option CP)} {Γ Γ' Γ1 Γ2 : List Sl} {te ta tb tc : TE} {t t1 t2 tt : TT} {s s1 s2 s3 so : Sl} {b b1 b2 : Bool} {r r' : R2} {D : Ends} {tu tw tz : TS} {i j k : Nat}
  {x y : V} {m n : Int} {P Q P1 P2 : VP} {Ps Qs : List VP} {C C' : CP} {wi : TI} {g : TG} {N : Nat} {Pf : Nat → VP}
theorem q_asg (h : EV M Γ te M' s) (k : KV fx M' (Γ.set i s) (tz D)) : KV fx M Γ (tSeq (tAsg te (gName i)) tz D) := k_asg (D := { D with nx := tz D }) h k
theorem q_asgE {ρ : Type} {I : ρ → Prop} {R : ρ → VP} (h : EV M Γ te M' (.d (vEx I R))) (k : ∀ r, I r → KV fx M' (Γ.set i (.d (R r))) (tz D)) : KV fx M Γ (tSeq (tAsg te (gName i)) tz D) := k_asgE (D := { D with nx := tz D }) h k
theorem q_drop (h : EV M Γ te M' s) (k : KV fx M' Γ (tz D)) : KV fx M Γ (tSeq (tDrop te) tz D) := k_drop (D := { D with nx := tz D }) h k
theorem q_if (h : ET M Γ t M' b) (h1 : b = true → KV fx M' Γ (tu { D with nx := tz D })) (h2 : b = false → KV fx M' Γ (tw { D with nx := tz D })) : KV fx M Γ (tSeq (tIfS t tu tw) tz D) := k_if (D := { D with nx := tz D }) h h1 h2
/-- an if without else -/
theorem q_when (h : ET M Γ t M' b) (h1 : b = true → KV fx M' Γ (tu { D with nx := tz D })) (h2 : b = false → KV fx M' Γ (tz D)) : KV fx M Γ (tSeq (tIfS t tu tNext) tz D) := k_if (D := { D with nx := tz D }) h h1 h2
theorem k_when (h : ET M Γ t M' b) (h1 : b = true → KV fx M' Γ (tu D)) (h2 : b = false → KV fx M' Γ D.nx) : KV fx M Γ (tIfS t tu tNext D) := k_if h h1 h2
theorem q_append (ha : EV M Γ ta M (.c k)) (hM : M[k]? = some (some (cLs Ps))) (he : EV M Γ te M (.d P)) (hl : Ps.length < 16777216) (q : KV fx (M.set k (some (cLs (Ps ++ [P])))) Γ (tz D)) :
    KV fx M Γ (tSeq (tDrop (tBM K "list" rAppend ta (tCons te tNil))) tz D) := k_append (D := { D with nx := tz D }) ha hM he hl q
theorem q_setitem (he : EV M Γ te M1 (.d P)) (ho : EV M1 Γ ta M1 (.c k)) (hi : EV M1 Γ tb M1 (.d (vV (.int n)))) (hM : M1[k]? = some (some (cLs Ps))) (hj : ixN Ps.length n = some j) (q : KV fx (M1.set k (some (cLs (Ps.set j P)))) Γ (tz D)) :
    KV fx M Γ (tSeq (tAsg te (gSub ta tb rSetL)) tz D) := k_setitem (D := { D with nx := tz D }) he ho hi hM hj q
theorem q_for {δ : Type} {okM : List (Option CP) → Prop} (hsrc : SrcM M Γ wi M1 okM N Pf) (Inv : Nat → δ → Prop) (Mi : δ → List (Option CP)) (Γi : δ → List Sl) (Γt : Nat → δ → List Sl) (d0 : δ) (h0 : Inv 0 d0) (hM : M1 = Mi d0) (hΓ : GLe Γ (Γi d0))
    (ht : ∀ i d, i < N → Inv i d → ∃ js, GT g (Pf i) (Γi d) (Γt i d) js)
    (hs : ∀ fx', fx.le fx' → fx'.as0.length = M1.length → ∀ i d, i < N → Inv i d → KV fx' (Mi d) (Γt i d) (tu { D with nx := NX fx' Inv Mi Γi (i + 1), ct := NX fx' Inv Mi Γi (i + 1), bk := tz D }))
    (hd : ∀ d, Inv N d → KV fx (Mi d) (Γi d) (tz D)) (hok : ∀ d, okM (Mi d) := by intro _; trivial) : KV fx M Γ (tSeq (tFor wi g tu) tz D) := k_for (D := { D with nx := tz D }) hsrc Inv Mi Γi Γt d0 h0 hM hΓ ht hs hd hok
/-! ### the same where the cells stay -/
theorem q_asgM (h : EV M Γ te M s) (k : KV fx M (Γ.set i s) (tz D)) : KV fx M Γ (tSeq (tAsg te (gName i)) tz D) := q_asg h k
theorem k_asgM (h : EV M Γ te M s) (k : KV fx M (Γ.set i s) D.nx) : KV fx M Γ (tAsg te (gName i) D) := k_asg h k
theorem q_asgI {I : Int → Prop} (h : EV M Γ te M (.d (vEx I fun r => vV (.int r)))) (k : ∀ r, I r → KV fx M (Γ.set i (.d (vV (.int r)))) (tz D)) : KV fx M Γ (tSeq (tAsg te (gName i)) tz D) := q_asgE h k
theorem q_asgEM {ρ : Type} {I : ρ → Prop} {R : ρ → VP} (h : EV M Γ te M (.d (vEx I R))) (k : ∀ r, I r → KV fx M (Γ.set i (.d (R r))) (tz D)) : KV fx M Γ (tSeq (tAsg te (gName i)) tz D) := q_asgE h k
theorem q_dropM (h : EV M Γ te M s) (k : KV fx M Γ (tz D)) : KV fx M Γ (tSeq (tDrop te) tz D) := q_drop h k
theorem q_ifM (h : ET M Γ t M b) (h1 : b = true → KV fx M Γ (tu { D with nx := tz D })) (h2 : b = false → KV fx M Γ (tw { D with nx := tz D })) : KV fx M Γ (tSeq (tIfS t tu tw) tz D) := q_if h h1 h2
theorem k_ifM (h : ET M Γ t M b) (h1 : b = true → KV fx M Γ (tu D)) (h2 : b = false → KV fx M Γ (tw D)) : KV fx M Γ (tIfS t tu tw D) := k_if h h1 h2
theorem q_whenM (h : ET M Γ t M b) (h1 : b = true → KV fx M Γ (tu { D with nx := tz D })) (h2 : b = false → KV fx M Γ (tz D)) : KV fx M Γ (tSeq (tIfS t tu tNext) tz D) := q_when h h1 h2
theorem k_whenM (h : ET M Γ t M b) (h1 : b = true → KV fx M Γ (tu D)) (h2 : b = false → KV fx M Γ D.nx) : KV fx M Γ (tIfS t tu tNext D) := k_when h h1 h2
theorem k_retM (q : Rx fx Mo so D.rt) (h : EV M Γ te M s) (c : CLe M Mo) (hs : SlLe s so) : KV fx M Γ (tRet te D) := k_retW q h c hs
end
end PL

namespace PL
open PySem L2
section
variable {K : PySem.W.Frag} {fx fx' : Fx} {M M1 M2 M3 M' Mo : List (Option CP)} {Γ Γ' Γ1 Γ2 : List Sl} {te ta tb tc tl : TE} {t t1 t2 tt : TT} {s s1 s2 s3 so : Sl} {b b1 b2 : Bool} {r r' : R2} {D : Ends} {tu tw tz : TS} {i j k : Nat}
  {x y : V} {m n : Int} {P Q P1 P2 : VP} {Ps Qs : List VP} {C C' : CP} {wi : TI} {g : TG} {N : Nat} {Pf : Nat → VP} {E : XK}
/-! ### calls that leave the cells' kinds as they are -/
theorem set_same {α : Type} : ∀ {M : List α} {k : Nat} {c : α}, M[k]? = some c → M.set k c = M
  | [], _, _, h => by simp at h
  | a :: M, 0, c, h => by simp at h; subst h; rfl
  | a :: M, k + 1, c, h => by
    show a :: M.set k c = a :: M
    rw [set_same (by simpa using h)]
theorem putM_same : ∀ {κ : List Nat} {M : List (Option CP)} {l : List CP}, κ.length = l.length → (∀ (j k : Nat), κ[j]? = some k → ∃ C : CP, l[j]? = some C ∧ M[k]? = some (some C)) → putM M κ l = M
  | [], M, [], _, _ => List.append_nil _
  | [], _, _ :: _, h, _ => by simp at h
  | _ :: _, _, [], h, _ => by simp at h
  | k :: κ, M, C :: l, h, hc => by
    obtain ⟨C', e1, e2⟩ := hc 0 k rfl
    have e1 : C = C' := by simpa using e1
    subst e1
    show putM (M.set k (some C)) κ l = M
    rw [set_same e2]
    exact putM_same (by simpa using h) fun j k' e => hc (j + 1) k' (by simpa using e)
/-- one that neither makes nor changes cells -/
theorem cb_call0 {c : Con} {ss : List Sl} (x : c.ι) (κ : List Nat) (C : CallAt c x κ M1 ss) (hc : c.cout x = c.cin x) {P : VP} (hr : c.ret x = .d P) : CBV M1 (fun vs H Q => spC c (vs ++ []) H Q E) ss M1 (.d P) := by
  have h := cb_call (E := E) x κ C (by rw [hc, C.len]; exact Nat.le_refl _)
  rw [hr, hc, putM_same C.len C.cells] at h
  exact h
/-- no cells at all -/
theorem callAt_nil {c : Con} {x : c.ι} {ss : List Sl} (hp : c.pre x) (hc : c.cin x = []) (ha : Subs ss (c.args x)) (hd : ∀ s ∈ c.args x, ∃ P, s = Sl.d P) : CallAt c x [] M ss where
  pre := hp
  nd := List.nodup_nil
  len := by rw [hc]; rfl
  cells := fun j k e => by simp at e
  args := by
    have : ∀ {l : List Sl}, (∀ s ∈ l, ∃ P, s = Sl.d P) → l.map (Sl.ren []) = l := by
      intro l
      induction l with
      | nil => intro _; rfl
      | cons a l ih =>
        intro h
        obtain ⟨P, e⟩ := h a List.mem_cons_self
        subst e
        rw [List.map_cons, ih fun s hs => h s (List.mem_cons_of_mem _ hs)]
        rfl
    rw [this hd]; exact ha
  ok := fun j hj => by
    obtain ⟨P, e⟩ := hd _ hj
    cases e
inductive AllDs : List Sl → Prop
  | nil : AllDs []
  | cons {P : VP} {l : List Sl} : AllDs l → AllDs (.d P :: l)
theorem AllDs.all {l : List Sl} (h : AllDs l) : ∀ s ∈ l, ∃ P, s = Sl.d P := by
  induction h with
  | nil => intro s hs; simp at hs
  | cons _ ih =>
    intro s hs
    rcases List.mem_cons.mp hs with rfl | hs
    · exact ⟨_, rfl⟩
    · exact ih s hs
theorem cb_pure {c : Con} {ss : List Sl} (x : c.ι) (hp : c.pre x) (hs : Subs ss (c.args x)) {P : VP} (hr : c.ret x = .d P := by rfl) (hc : c.cin x = [] := by rfl) (ho : c.cout x = [] := by rfl) (hd : AllDs (c.args x) := by repeat constructor) :
    CBV M (fun vs H Q => spC c (vs ++ []) H Q E) ss M (.d P) := cb_call0 x [] (callAt_nil hp hc hs hd.all) (by rw [hc, ho]) hr
theorem ev_cl {sp : Sp} {tr : TA} {ss : List Sl} (ha : EA M Γ tr M1 ss) (ho : CBV M1 (fun vs H Q => sp (vs ++ []) H Q E) ss M2 s) : EV M Γ (tCall sp [] E tr) M2 s := ev_cb (r := fun vs H Q => sp (vs ++ []) H Q E) ha ho
/-! ### draws -/
theorem cb_draw (hM : M[k]? = some (some cSrc)) (hn : 0 < n ∧ n < 1073741824) : CBV M (fun vs H Q => spC cDraw (vs ++ []) H Q E) [.c k, .d (vV (.int n))] M (.d (vR n)) := by
  refine cb_call0 (c := cDraw) n [k] ⟨hn, by simp, rfl, fun j q e => ?_, ?_, fun j hj => ?_⟩ rfl rfl
  · cases j with
    | zero => simp at e; subst e; exact ⟨cSrc, rfl, hM⟩
    | succ j => simp at e
  · exact .cons sle_c (.cons sle_d .nil)
  · have : Sl.c j ∈ [Sl.c 0, Sl.d (vV (.int n))] := hj
    simp at this; subst this; exact Nat.zero_lt_one
theorem cb_sub {rr : List V → Hp → VK → Prop} {ss : List Sl} (h : CBV M rr ss M' (.d P)) (hs : Sub P Q) : CBV M rr ss M' (.d Q) := fun fx as G H xs h0 o R q => h fx as G H xs h0 o R fun v as' G' H' h1 h2 => q v as' G' H' h1 (hs _ _ h2)
theorem sub_R {m n : Int} (h : m ≤ n) : Sub (vR m) (vR n) := sub_ex fun r hr => sub_in r ⟨hr.1, by omega⟩ Sub.rfl
theorem cb_drawE {I : Int → Prop} (B : Int) (hM : M[k]? = some (some cSrc)) (hI : ∀ r, I r → 0 < r ∧ r ≤ B) (hB : B < 1073741824) :
    CBV M (fun vs H Q => spC cDraw (vs ++ []) H Q E) [.c k, .d (vEx I fun r => vV (.int r))] M (.d (vR B)) := cb_ex 1 rfl fun r hr => by
  obtain ⟨b1, b2⟩ := hI r hr
  exact cb_sub (cb_draw hM ⟨b1, by omega⟩) (sub_R b2)
theorem at_of' {α : Type} {xs : List α} {z : Int} {j : Nat} {v : α} (e : z = (j : Int)) (h : xs[j]? = some v) : atI xs z = some v := by rw [e]; exact atI_nat h
theorem opv_pick {ns : List Int} {I : Int → Prop} (hI : ∀ r, I r → 0 ≤ r ∧ r < ns.length) : OPV M (rIx K) (.d (vLs (vIs ns))) (.d (vEx I fun r => vV (.int r))) M (.d (vEx (fun z => z ∈ ns) fun z => vV (.int z))) := opv_ex2 fun r hr => by
  obtain ⟨h0, h1⟩ := hI r hr
  have hl : r.toNat < ns.length := by omega
  refine opv_sub (opv_ixL (P := vV (.int ns[r.toNat])) ?_) (sub_in _ (List.getElem_mem hl) Sub.rfl)
  have e : r = ((r.toNat : Nat) : Int) := by omega
  exact at_of' e (by rw [List.getElem?_map, List.getElem?_eq_getElem hl] <;> rfl)
/-! ### a new list that is never written again -/
theorem ev_frz (h : EV M Γ te (M' ++ [some (cLs Ps)]) (.c M'.length)) (hz : Ps.length ≤ 16777216) (hM : M.length ≤ M'.length := by exact Nat.le_refl _) : EV M Γ te M' (.d (vLs Ps)) := fun fx as G σ H g Q q => by
  refine h fx as G σ H g Q fun v as1 G1 H1 h1 ⟨a, e1, e2⟩ => ?_
  have hk : (M' ++ [some (cLs Ps)])[M'.length]? = some (some (cLs Ps)) := by rw [List.getElem?_append_right (Nat.le_refl _), Nat.sub_self] <;> rfl
  obtain ⟨g1, o, g2, vs, e3, g3⟩ := h1.cells _ a _ e1 hk
  subst e3
  have h2 := h1.back (h1.freeze e1 hk g2)
  have e4 : (M' ++ [some (cLs Ps)]).set M'.length none = M' ++ [none] := by rw [List.set_append_right _ _ (Nat.le_refl _), Nat.sub_self] <;> rfl
  rw [e4] at h2
  have h0 : fx.as0.length ≤ M'.length := by
    have := g.hs.a0.length_le
    have := g.hs.len
    omega
  exact q v _ _ H1 (h2.cut h0) ⟨a, vs, e2, upd_same, hz, g3.mono (Ex.new g1)⟩
/-! ### comprehensions over a list of xs -/
theorem pat_map {α : Type} {xs : List α} {R : α → VP} {i : Nat} (h : i < xs.length) : Pat (xs.map R) i = R xs[i] := by
  unfold Pat
  rw [List.getD_eq_getElem?_getD, List.getElem?_map, List.getElem?_eq_getElem h] <;> rfl
theorem take_snoc {α : Type} {xs : List α} {i : Nat} (h : i < xs.length) : xs.take (i + 1) = xs.take i ++ [xs[i]] := by
  rw [List.take_succ_eq_append_getElem h]
theorem ev_lcXC {α : Type} {xs : List α} {R F : α → VP} {bt : α → Bool} {vs : List Nat} {okM : List (Option CP) → Prop} (Γt : α → List Sl) (hsrc : SrcM M Γ wi M1 okM xs.length (Pat (xs.map R))) (hz : xs.length ≤ 16777215)
    (hg : ∀ x ∈ xs, ∃ js, GT g (R x) (wipeG Γ vs) (Γt x) js ∧ ∀ j ∈ js, j ∈ vs) (ht : ∀ x ∈ xs, ET M1 (Γt x) tt M1 (bt x)) (he : ∀ x ∈ xs, bt x = true → EV M1 (Γt x) te M1 (.d (F x))) (hok : okM M1 := by trivial) :
    EV M Γ (tLc wi g tt te vs) (M1 ++ [some (cLs ((xs.filter bt).map F))]) (.c M1.length) := by
  by_cases hn : xs = []
  · subst hn
    exact ev_lcC hsrc (fun _ => []) (fun _ => false) (fun _ => vN) (fun _ => Γ) (fun _ _ => Nat.zero_le _) rfl (fun i h => absurd h (Nat.not_lt_zero _)) (fun i h => absurd h (Nat.not_lt_zero _)) (fun i h => absurd h (Nat.not_lt_zero _)) (fun i h => absurd h (Nat.not_lt_zero _)) hok
  · obtain ⟨x0, hx0⟩ : ∃ x0, x0 ∈ xs := List.exists_mem_of_ne_nil xs hn
    have key := ev_lcC (M := M) (Γ := Γ) (g := g) (tt := tt) (te := te) (vs := vs) hsrc (fun i => ((xs.take i).filter bt).map F) (fun i => bt (xs.getD i x0)) (fun i => F (xs.getD i x0)) (fun i => Γt (xs.getD i x0))
      (fun i hi => ?_) rfl (fun i hi => ?_) (fun i hi => ?_) (fun i hi => ?_) (fun i hi hb => ?_) hok
    · rw [List.take_length] at key; exact key
    · rw [List.length_map]
      have := List.length_filter_le bt (xs.take i)
      rw [List.length_take] at this
      omega
    · have ei : xs.getD i x0 = xs[i] := by rw [List.getD_eq_getElem?_getD, List.getElem?_eq_getElem hi] <;> rfl
      rw [ei, take_snoc hi, List.filter_append, List.map_append]
      by_cases hb : bt xs[i] = true
      · rw [if_pos hb, List.filter_cons_of_pos hb] <;> rfl
      · rw [if_neg hb, List.filter_cons_of_neg hb]
        show _ ++ [] = _
        rw [List.append_nil]
    · have ei : xs.getD i x0 = xs[i] := by rw [List.getD_eq_getElem?_getD, List.getElem?_eq_getElem hi] <;> rfl
      rw [ei, pat_map hi]
      exact hg _ (List.getElem_mem hi)
    · have ei : xs.getD i x0 = xs[i] := by rw [List.getD_eq_getElem?_getD, List.getElem?_eq_getElem hi] <;> rfl
      rw [ei]
      exact ht _ (List.getElem_mem hi)
    · have ei : xs.getD i x0 = xs[i] := by rw [List.getD_eq_getElem?_getD, List.getElem?_eq_getElem hi] <;> rfl
      rw [ei] at hb ⊢
      exact he _ (List.getElem_mem hi) hb
theorem ev_lcX {α : Type} {xs : List α} {R F : α → VP} {bt : α → Bool} {vs : List Nat} {okM : List (Option CP) → Prop} (Γt : α → List Sl) (hsrc : SrcM M Γ wi M1 okM xs.length (Pat (xs.map R))) (hz : xs.length ≤ 16777215)
    (hg : ∀ x ∈ xs, ∃ js, GT g (R x) (wipeG Γ vs) (Γt x) js ∧ ∀ j ∈ js, j ∈ vs) (ht : ∀ x ∈ xs, ET M1 (Γt x) tt M1 (bt x)) (he : ∀ x ∈ xs, bt x = true → EV M1 (Γt x) te M1 (.d (F x))) (hM : M.length ≤ M1.length := by exact Nat.le_refl _) (hok : okM M1 := by trivial) :
    EV M Γ (tLc wi g tt te vs) M1 (.d (vLs ((xs.filter bt).map F))) := ev_frz (ev_lcXC Γt hsrc hz hg ht he hok) (by rw [List.length_map]; exact Nat.le_trans (List.length_filter_le _ _) (Nat.le_trans hz (by decide))) hM
/-- without a test, the target a name -/
theorem ev_lcN {α : Type} {xs : List α} {R F : α → VP} {okM : List (Option CP) → Prop} (hsrc : SrcM M Γ wi M1 okM xs.length (Pat (xs.map R))) (hz : xs.length ≤ 16777215) (he : ∀ x ∈ xs, EV M1 (((Γ.set j .u)).set j (.d (R x))) te M1 (.d (F x))) (hM : M.length ≤ M1.length := by exact Nat.le_refl _) (hok : okM M1 := by trivial) :
    EV M Γ (tLc wi (gName j) tYes te [j]) M1 (.d (vLs (xs.map F))) := by
  have h := ev_lcX (bt := fun _ => true) (te := te) (tt := tYes) (vs := [j]) (g := gName j) (F := F) (fun x => (Γ.set j .u).set j (.d (R x))) hsrc hz (fun x _ => ⟨[j], gt_name, fun _ h => h⟩) (fun x _ => et_yes) (fun x hx _ => he x hx) hM hok
  rw [List.filter_eq_self.mpr fun _ _ => rfl] at h
  exact h
/-- with a test -/
theorem ev_lcT {α : Type} {xs : List α} {R F : α → VP} {bt : α → Bool} {okM : List (Option CP) → Prop} (hsrc : SrcM M Γ wi M1 okM xs.length (Pat (xs.map R))) (hz : xs.length ≤ 16777215) (ht : ∀ x ∈ xs, ET M1 (((Γ.set j .u)).set j (.d (R x))) tt M1 (bt x))
    (he : ∀ x ∈ xs, bt x = true → EV M1 (((Γ.set j .u)).set j (.d (R x))) te M1 (.d (F x))) (hM : M.length ≤ M1.length := by exact Nat.le_refl _) (hok : okM M1 := by trivial) :
    EV M Γ (tLc wi (gName j) tt te [j]) M1 (.d (vLs ((xs.filter bt).map F))) :=
  ev_lcX (te := te) (tt := tt) (vs := [j]) (g := gName j) (fun x => (Γ.set j .u).set j (.d (R x))) hsrc hz (fun x _ => ⟨[j], gt_name, fun _ h => h⟩) ht he hM hok
/-- over range(n), each item of one kind -/
theorem pat_range {n : Nat} {f : Nat → VP} : ∀ i, i < n → Pat ((List.range n).map f) i = f i := fun i hi => by
  rw [pat_map (by rw [List.length_range]; exact hi), List.getElem_range]
theorem src_to {N : Nat} {Pf Pg : Nat → VP} {okM : List (Option CP) → Prop} (h : SrcM M Γ wi M1 okM N Pf) (e : ∀ i, i < N → Pf i = Pg i) : SrcM M Γ wi M1 okM N Pg := fun fx as G σ H g R q => h fx as G σ H g R fun J as1 G1 H1 h1 W => q J as1 G1 H1 h1
  ⟨fun i fx' M' as' G' H' hi hm ha e1 h2 => by
    obtain ⟨a, b⟩ := W.go i fx' M' as' G' H' hi hm ha e1 h2
    rw [← e i hi]
    exact ⟨a, b⟩, W.stop⟩
theorem src_range {tr : TA} {n : Nat} (h : EA M Γ tr M1 [.d (vV (.int (n : Nat)))]) (hn : n < 1000000000) : Src M Γ (iRng1 tr) M1 (List.range n).length (Pat ((List.range n).map fun i => vV (.int (i : Nat)))) := by
  have h2 := src_R1 h (by omega)
  rw [Int.toNat_natCast] at h2
  rw [List.length_range]
  exact src_to h2 fun i hi => (pat_range (f := fun i : Nat => vV (.int (i : Nat))) i hi).symm
theorem src_Lm {α : Type} {xs : List α} {R : α → VP} (h : EV M Γ te M1 (.d (vLs (xs.map R)))) : Src M Γ (iSeq K te) M1 xs.length (Pat (xs.map R)) := by
  have := src_Q (K := K) (ev_sub h sub_lq)
  rw [List.length_map] at this; exact this
theorem src_Tm {α : Type} {xs : List α} {R : α → VP} (h : EV M Γ te M1 (.d (vTs (xs.map R)))) : Src M Γ (iSeq K te) M1 xs.length (Pat (xs.map R)) := by
  have := src_Q (K := K) (ev_sub h sub_tq)
  rw [List.length_map] at this; exact this
theorem src_Qm {α : Type} {xs : List α} {R : α → VP} (h : EV M Γ te M1 (.d (vQs (xs.map R)))) : Src M Γ (iSeq K te) M1 xs.length (Pat (xs.map R)) := by
  have := src_Q (K := K) h
  rw [List.length_map] at this; exact this
/-- n draws -/
theorem ev_draws {tr : TA} {n : Int} {m : Int} (h : EA M Γ tr M [.d (vV (.int n))]) (hn : 0 ≤ n ∧ n ≤ 16777215) (he : ∀ i : Nat, EV M ((Γ.set j .u).set j (.d (vV (.int (i : Nat))))) te M (.d (vR m))) :
    EV M Γ (tLc (iRng1 tr) (gName j) tYes te [j]) M (.d (vEx (fun rs : List Int => (rs.length : Int) = n ∧ ∀ r ∈ rs, 0 ≤ r ∧ r < m) fun rs => vLs (vIs rs))) := by
  have e : n = ((n.toNat : Nat) : Int) := by omega
  have hs : Src M Γ (iRng1 tr) M (List.range n.toNat).length (Pat ((List.range n.toNat).map fun i => vV (.int (i : Nat)))) := src_range (by rw [← e]; exact h) (by omega)
  have h2 := ev_lcN (j := j) (te := te) (F := fun _ => vR m) hs (by rw [List.length_range]; omega) fun i _ => he i
  refine ev_sub h2 ?_
  have e2 : (List.range n.toNat).map (fun _ => vR m) = List.replicate n.toNat (vR m) := by rw [List.map_const', List.length_range]
  rw [e2]
  refine Sub.trans sub_lex (sub_ex fun rs hr => sub_in rs ⟨by rw [hr.1]; omega, hr.2⟩ Sub.rfl)
/-- if t: x = e, both ints -/
theorem k_whenI (h : ET M Γ t M b) (he : b = true → EV M Γ te M (.d (vV (.int m)))) (hx : Γ[i]? = some (.d (vV (.int n)))) (q : KV fx M (Γ.set i (.d (vV (.int (if b = true then m else n))))) D.nx) : KV fx M Γ (tIfS t (tAsg te (gName i)) tNext D) := by
  refine k_when h (fun hb => ?_) (fun hb => ?_)
  · refine k_asg (he hb) ?_
    rw [if_pos hb] at q; exact q
  · rw [hb, if_neg Bool.false_ne_true, set_same hx] at q; exact q
theorem q_whenI (h : ET M Γ t M b) (he : b = true → EV M Γ te M (.d (vV (.int m)))) (hx : Γ[i]? = some (.d (vV (.int n)))) (q : KV fx M (Γ.set i (.d (vV (.int (if b = true then m else n))))) (tz D)) : KV fx M Γ (tSeq (tIfS t (tAsg te (gName i)) tNext) tz D) :=
  k_whenI (D := { D with nx := tz D }) h he hx q
theorem k_appendE {ρ : Type} {I : ρ → Prop} {R : ρ → VP} (ha : EV M Γ ta M (.c k)) (hM : M[k]? = some (some (cLs Ps))) (he : EV M Γ te M (.d (vEx I R))) (hl : Ps.length < 16777216) (q : ∀ r, I r → KV fx (M.set k (some (cLs (Ps ++ [R r])))) Γ D.nx) :
    KV fx M Γ (tDrop (tBM K "list" rAppend ta (tCons te tNil)) D) := fun as G σ H g => by
  refine ha (fx.at G as) as G σ H ⟨g.hs.re, g.len, g.env⟩ _ fun x as1 G1 H1 h1 o1 => ?_
  have g1 := g.lift h1
  obtain ⟨a, e1, rfl⟩ := o1
  obtain ⟨c1, o, c2, vs, rfl, c3⟩ := h1.cells k a _ e1 hM
  refine ⟨.inl ⟨rfl, vs, SqL.of c2⟩, ?_⟩
  refine he (fx.at G1 as1) as1 G1 σ H1 ⟨g1.hs.re, g1.len, g1.env⟩ _ fun y as2 G2 H2 h2 ⟨r, hr, o2⟩ => ?_
  have e2 := pre_get h2.a0 e1
  obtain ⟨d1, o', d2, ws, rfl, d3⟩ := h2.cells k a _ e2 hM
  have g2 := g1.lift h2
  refine ⟨a, ws, y, rfl, rfl, d2, sz_lt (by rw [d3.length]; exact hl), ?_⟩
  exact q r hr as2 G2 σ _ (g2.lift (g2.hs.put e2 hM (C' := cLs (Ps ++ [R r])) ⟨_, rfl, d3.append (.one o2)⟩))
theorem q_appendE {ρ : Type} {I : ρ → Prop} {R : ρ → VP} (ha : EV M Γ ta M (.c k)) (hM : M[k]? = some (some (cLs Ps))) (he : EV M Γ te M (.d (vEx I R))) (hl : Ps.length < 16777216) (q : ∀ r, I r → KV fx (M.set k (some (cLs (Ps ++ [R r])))) Γ (tz D)) :
    KV fx M Γ (tSeq (tDrop (tBM K "list" rAppend ta (tCons te tNil))) tz D) := k_appendE (D := { D with nx := tz D }) ha hM he hl q
theorem ex_name {d : List Sl} : ∃ js, GT (gName j) P Γ (Γ.set j (.d P)) js := ⟨_, gt_name⟩
end
/-! ### sides as they are drawn -/
def prodP : List (List Int) → Nat
  | [] => 1
  | s :: r => Nat.max 1 s.length * prodP r
theorem prodP_snoc : ∀ (l : List (List Int)) (s : List Int), prodP (l ++ [s]) = prodP l * Nat.max 1 s.length
  | [], s => by simp [prodP]
  | a :: l, s => by
    show Nat.max 1 a.length * prodP (l ++ [s]) = Nat.max 1 a.length * prodP l * Nat.max 1 s.length
    rw [prodP_snoc l s, Nat.mul_assoc]
def SidesOk (many span : Int) (room : Nat) (sides : List (List Int)) : Prop := (sides.length : Int) = many ∧ prodP sides ≤ room ∧ ∀ s ∈ sides, s.length ≤ 39 ∧ ∀ x ∈ s, 0 ≤ x ∧ x < span
abbrev vSides (sides : List (List Int)) : VP := vLs (sides.map fun s => vLs (vIs s))
def cDrawSides : Con where
  ι := Int × Int
  pre x := 0 ≤ x.1 ∧ x.1 ≤ 1000 ∧ 0 < x.2 ∧ x.2 < 1073741824
  cin _ := [cSrc, cSrc]
  args x := [.c 0, .c 1, .d (vV (.int x.1)), .d (vV (.int x.2))]
  cout _ := [cSrc, cSrc]
  ret x := .d (vEx (SidesOk x.1 x.2 96) vSides)
theorem room_step {p : Nat} {room size : Int} (h1 : 1 ≤ room) (h2 : (p : Int) * room ≤ 96) (h3 : 0 ≤ size) (h4 : size ≤ room ∨ size = 1) : 1 ≤ room.fdiv (if size > 1 then size else 1) ∧ ((p * Nat.max 1 size.toNat : Nat) : Int) * room.fdiv (if size > 1 then size else 1) ≤ 96 := by
  have hs : ((Nat.max 1 size.toNat : Nat) : Int) = if size > 1 then size else 1 := by
    show ((max 1 size.toNat : Nat) : Int) = _
    split <;> omega
  rw [Int.natCast_mul, hs]
  generalize hg : (if size > 1 then size else 1 : Int) = g at *
  have hgp : 0 < g := by subst hg; split <;> omega
  have hgr : g ≤ room := by subst hg; split <;> omega
  rw [Int.fdiv_eq_ediv_of_nonneg _ (by omega)]
  have k1 : 1 ≤ room / g := by
    rw [Int.le_ediv_iff_mul_le hgp]; omega
  refine ⟨k1, ?_⟩
  have k2 : g * (room / g) ≤ room := Int.mul_ediv_self_le (by omega)
  have k3 : (p : Int) * (g * (room / g)) ≤ (p : Int) * room := Int.mul_le_mul_of_nonneg_left k2 (by omega)
  rw [Int.mul_assoc]
  omega
end PL

namespace PL
open PySem L2
/-! ### data: what may be compared as a whole -/
def Dt (P : VP) (d : PyData) : Prop := ∀ (K : PySem.W.Frag) (G H : Hp) (v : V), Ex G H → P.p G v → Dp K H v d
inductive Dts : List VP → List PyData → Prop
  | nil : Dts [] []
  | cons {P : VP} {d : PyData} {Ps : List VP} {ds : List PyData} : Dt P d → Dts Ps ds → Dts (P :: Ps) (d :: ds)
theorem Dts.all {K : PySem.W.Frag} {G H : Hp} {Ps : List VP} {ds : List PyData} {vs : List V} (e : Ex G H) (h : Dts Ps ds) (k : Vs G Ps vs) : DpAll K H vs ds := by
  induction h generalizing vs with
  | nil => cases k; exact .nil
  | cons a _ ih => cases k with
    | cons b c => exact .cons (a K G H _ e b) (ih c)
theorem Dts.map {α : Type} {R : α → VP} {f : α → PyData} (h : ∀ x, Dt (R x) (f x)) : ∀ xs : List α, Dts (xs.map R) (xs.map f)
  | [] => .nil
  | x :: xs => .cons (h x) (Dts.map h xs)
theorem dt_int {i : Int} : Dt (vV (.int i)) (.int i) := fun K G H v _ h => by
  obtain rfl : v = .int i := h
  exact .int i
theorem dt_bool {b : Bool} : Dt (vV (.bl b)) (.bool b) := fun K G H v _ h => by
  obtain rfl : v = .bl b := h
  exact .bl b
theorem dt_none : Dt (vV .non) .none := fun K G H v _ h => by
  obtain rfl : v = .non := h
  exact .non
theorem dt_L {Ps : List VP} {ds : List PyData} (h : Dts Ps ds) : Dt (vLs Ps) (.list ds) := fun K G H v e ⟨a, vs, e1, e2, e3, e4⟩ => by
  subst e1
  exact .lst (SqL.of (e _ _ e2)) (h.all e e4)
theorem dt_T {Ps : List VP} {ds : List PyData} (h : Dts Ps ds) : Dt (vTs Ps) (.tuple ds) := fun K G H v e ⟨a, vs, e1, e2, e3, e4⟩ => by
  subst e1
  exact .tup (SqT.of (e _ _ e2)) (h.all e e4)
/-- a kind of data -/
structure DK (α : Type) [DecidableEq α] where
  R : α → VP
  f : α → PyData
  n : Nat
  dt : ∀ x, Dt (R x) (f x)
  lay : ∀ x, (f x).canLay0 = true
  dep : ∀ x, (f x).depth ≤ n
  eq : ∀ x y, PyData.eqv (f x) (f y) = decide (x = y)
def dkI : DK Int := ⟨fun i => vV (.int i), .int, 0, fun _ => dt_int, fun _ => rfl, fun _ => Nat.le_refl _, fun x y => by
  rw [PyData.eqv]
  by_cases h : x = y
  · subst h; simp
  · rw [decide_eq_false h]; exact beq_eq_false_iff_ne.mpr h⟩
section
variable {α : Type} [DecidableEq α] (k : DK α)
theorem dk_lays : ∀ xs : List α, PyData.canLayAll0 (xs.map k.f) = true
  | [] => rfl
  | x :: xs => by rw [List.map_cons, PyData.canLayAll0, k.lay, dk_lays xs] <;> rfl
theorem dk_deps : ∀ xs : List α, PyData.depthAll (xs.map k.f) ≤ k.n
  | [] => by rw [List.map_nil, PyData.depthAll]; exact Nat.zero_le _
  | x :: xs => by
    rw [List.map_cons, PyData.depthAll]
    exact Nat.max_le.mpr ⟨k.dep x, dk_deps xs⟩
theorem dk_eqs : ∀ xs ys : List α, PyData.eqvAll (xs.map k.f) (ys.map k.f) = decide (xs = ys)
  | [], [] => by rw [List.map_nil, PyData.eqvAll] <;> simp
  | [], _ :: _ => by rw [List.map_nil, List.map_cons, PyData.eqvAll] <;> simp
  | _ :: _, [] => by rw [List.map_nil, List.map_cons, PyData.eqvAll] <;> simp
  | x :: xs, y :: ys => by
    rw [List.map_cons, List.map_cons, PyData.eqvAll, k.eq, dk_eqs xs ys]
    by_cases h : x = y <;> by_cases h2 : xs = ys <;> simp [h, h2]
def dkL : DK (List α) := ⟨fun xs => vLs (xs.map k.R), fun xs => .list (xs.map k.f), k.n + 1, fun xs => dt_L (Dts.map k.dt xs), fun xs => by rw [PyData.canLay0]; exact dk_lays k xs,
  fun xs => by rw [PyData.depth]; exact Nat.succ_le_succ (dk_deps k xs), fun xs ys => by rw [PyData.eqv]; exact dk_eqs k xs ys⟩
def dkT : DK (List α) := ⟨fun xs => vTs (xs.map k.R), fun xs => .tuple (xs.map k.f), k.n + 1, fun xs => dt_T (Dts.map k.dt xs), fun xs => by rw [PyData.canLay0]; exact dk_lays k xs,
  fun xs => by rw [PyData.depth]; exact Nat.succ_le_succ (dk_deps k xs), fun xs ys => by rw [PyData.eqv]; exact dk_eqs k xs ys⟩
theorem DK.shaped (hn : k.n ≤ 64) (x : α) : SeqAt.shaped (k.f x) = true := by
  unfold SeqAt.shaped
  rw [k.lay, decide_eq_true (Nat.le_trans (k.dep x) hn)] <;> rfl
theorem dk_any (xs : List α) (x : α) : ((xs.map k.f).any fun z => PyData.eqv z (k.f x)) = decide (x ∈ xs) := by
  induction xs with
  | nil => simp
  | cons y ys ih =>
    rw [List.map_cons, List.any_cons, ih, k.eq]
    by_cases h : y = x
    · subst h; simp
    · rw [decide_eq_false h, Bool.false_or]
      have : (x ∈ y :: ys) ↔ x ∈ ys := by simp [Ne.symm h]
      simp [this]
end
section
variable {K : PySem.W.Frag} {M M' : List (Option CP)} {α : Type} [DecidableEq α] {x y : α} {xs ys : List α} {j : Nat} {r r' : R2} {s s1 s2 : Sl}
theorem oq_K (k : DK α) (hn : k.n ≤ 64 := by decide) : OPV M (rEq' K) (.d (k.R x)) (.d (k.R y)) M (.d (vV (.bl (decide (x = y))))) := opv_r fun fx as G H u v h h1 h2 Q q =>
  ⟨k.f x, k.f y, k.dt x K G H u h.ex h1, k.dt y K G H v h.ex h2, k.shaped hn x, k.shaped hn y, by rw [k.eq]; exact q _ as G H h rfl⟩
theorem on_K (k : DK α) (hn : k.n ≤ 64 := by decide) : OPV M (rNe' K) (.d (k.R x)) (.d (k.R y)) M (.d (vV (.bl (!decide (x = y))))) := opv_r fun fx as G H u v h h1 h2 Q q =>
  ⟨k.f x, k.f y, k.dt x K G H u h.ex h1, k.dt y K G H v h.ex h2, k.shaped hn x, k.shaped hn y, by rw [k.eq]; exact q _ as G H h rfl⟩
/-- a list that is a cell, against a list -/
theorem oq_KC (k : DK α) (hM : M[j]? = some (some (cLs (xs.map k.R)))) (hn : k.n ≤ 63 := by decide) : OPV M (rEq' K) (.c j) (.d (vLs (ys.map k.R))) M (.d (vV (.bl (decide (xs = ys))))) := opv_r fun fx as G H u v h h1 h2 Q q => by
  obtain ⟨a, e1, rfl⟩ := h1
  obtain ⟨g1, o, g2, vs, rfl, g3⟩ := h.cells j a _ e1 hM
  refine ⟨.list (xs.map k.f), .list (ys.map k.f), .lst (SqL.of g2) ((Dts.map k.dt xs).all h.ex g3), (dkL k).dt ys K G H v h.ex h2, (dkL k).shaped (Nat.succ_le_succ hn) xs, (dkL k).shaped (Nat.succ_le_succ hn) ys, ?_⟩
  rw [PyData.eqv, dk_eqs]
  exact q _ as G H h rfl
theorem oi_L (k : DK α) (hn : k.n ≤ 63 := by decide) : OPV M (rIn' K) (.d (k.R x)) (.d (vLs (xs.map k.R))) M (.d (vV (.bl (decide (x ∈ xs))))) := opv_r (opv_l fun fx as G H u v h h1 h2 Q q =>
  ⟨k.f x, xs.map k.f, k.dt x K G H u h.ex h1, (dkL k).dt xs K G H v h.ex h2, k.shaped (Nat.le_succ_of_le hn) x, (dkL k).shaped (Nat.succ_le_succ hn) xs, by rw [dk_any]; exact q _ as G H h rfl⟩)
theorem oi_T (k : DK α) (hn : k.n ≤ 63 := by decide) : OPV M (rIn' K) (.d (k.R x)) (.d (vTs (xs.map k.R))) M (.d (vV (.bl (decide (x ∈ xs))))) := opv_r (opv_r fun fx as G H u v h h1 h2 Q q =>
  ⟨k.f x, xs.map k.f, k.dt x K G H u h.ex h1, (dkT k).dt xs K G H v h.ex h2, k.shaped (Nat.le_succ_of_le hn) x, (dkT k).shaped (Nat.succ_le_succ hn) xs, by rw [if_neg Bool.false_ne_true, dk_any]; exact q _ as G H h rfl⟩)
theorem ni_L (k : DK α) (hn : k.n ≤ 63 := by decide) : OPV M (rNi' K) (.d (k.R x)) (.d (vLs (xs.map k.R))) M (.d (vV (.bl (!decide (x ∈ xs))))) := opv_r (opv_l fun fx as G H u v h h1 h2 Q q =>
  ⟨k.f x, xs.map k.f, k.dt x K G H u h.ex h1, (dkL k).dt xs K G H v h.ex h2, k.shaped (Nat.le_succ_of_le hn) x, (dkL k).shaped (Nat.succ_le_succ hn) xs, by rw [dk_any]; exact q _ as G H h rfl⟩)
theorem ni_T (k : DK α) (hn : k.n ≤ 63 := by decide) : OPV M (rNi' K) (.d (k.R x)) (.d (vTs (xs.map k.R))) M (.d (vV (.bl (!decide (x ∈ xs))))) := opv_r (opv_r fun fx as G H u v h h1 h2 Q q =>
  ⟨k.f x, xs.map k.f, k.dt x K G H u h.ex h1, (dkT k).dt xs K G H v h.ex h2, k.shaped (Nat.le_succ_of_le hn) x, (dkT k).shaped (Nat.succ_le_succ hn) xs, by rw [if_pos rfl, dk_any]; exact q _ as G H h rfl⟩)
end
/-! ### slices of lists -/
theorem cut_from {α : Type} (xs : List α) (k : Nat) : cut xs (some (k : Int)) none = xs.drop k := by
  unfold cut
  rw [HT.sIx_nat, HT.sIx_none]
  by_cases h : k ≤ xs.length
  · rw [Nat.min_eq_left h, List.take_of_length_le (by rw [List.length_drop]; exact Nat.le_refl _)]
  · rw [Nat.min_eq_right (by omega), List.drop_of_length_le (Nat.le_refl _), List.drop_of_length_le (by omega)] <;> simp
theorem cut_to {α : Type} (xs : List α) (k : Nat) : cut xs none (some (k : Int)) = xs.take k := by
  unfold cut
  rw [HT.sIx_nat, HT.sIx_none, List.drop_zero, Nat.sub_zero]
  by_cases h : k ≤ xs.length
  · rw [Nat.min_eq_left h]
  · rw [Nat.min_eq_right (by omega), List.take_of_length_le (Nat.le_refl _), List.take_of_length_le (by omega)]
theorem cutP_from {α : Type} (xs : List α) (R : α → VP) (k : Nat) : cutP (xs.map R) (some (k : Int)) none = (xs.drop k).map R := by rw [cutP_map, cut_from]
theorem cutP_to {α : Type} (xs : List α) (R : α → VP) (k : Nat) : cutP (xs.map R) none (some (k : Int)) = (xs.take k).map R := by rw [cutP_map, cut_to]
/-! ### a for over a list of xs, its target a name -/
section
variable {K : PySem.W.Frag} {fx fx' : Fx} {M M1 : List (Option CP)} {Γ : List Sl} {D : Ends} {tu tz : TS} {j : Nat} {wi : TI} {α : Type} {xs : List α} {R : α → VP}
theorem k_forX {δ : Type} {okM : List (Option CP) → Prop} (hsrc : SrcM M Γ wi M1 okM xs.length (Pat (xs.map R))) (Inv : Nat → δ → Prop) (Mi : δ → List (Option CP)) (Γi : δ → List Sl) (d0 : δ) (h0 : Inv 0 d0) (hM : M1 = Mi d0) (hΓ : GLe Γ (Γi d0))
    (hs : ∀ fx', fx.le fx' → fx'.as0.length = M1.length → ∀ i d x, xs[i]? = some x → Inv i d → KV fx' (Mi d) ((Γi d).set j (.d (R x))) (tu { D with nx := NX fx' Inv Mi Γi (i + 1), ct := NX fx' Inv Mi Γi (i + 1), bk := D.nx }))
    (hd : ∀ d, Inv xs.length d → KV fx (Mi d) (Γi d) D.nx) (hok : ∀ d, okM (Mi d) := by intro _; trivial) : KV fx M Γ (tFor wi (gName j) tu D) :=
  k_for hsrc Inv Mi Γi (fun i d => (Γi d).set j (.d (Pat (xs.map R) i))) d0 h0 hM hΓ (fun i d _ _ => ⟨_, gt_name⟩) (fun fx' le hl i d hi hI => by
    rw [pat_map hi]
    exact hs fx' le hl i d xs[i] (List.getElem?_eq_getElem hi) hI) hd hok
theorem q_forX {δ : Type} {okM : List (Option CP) → Prop} (hsrc : SrcM M Γ wi M1 okM xs.length (Pat (xs.map R))) (Inv : Nat → δ → Prop) (Mi : δ → List (Option CP)) (Γi : δ → List Sl) (d0 : δ) (h0 : Inv 0 d0) (hM : M1 = Mi d0) (hΓ : GLe Γ (Γi d0))
    (hs : ∀ fx', fx.le fx' → fx'.as0.length = M1.length → ∀ i d x, xs[i]? = some x → Inv i d → KV fx' (Mi d) ((Γi d).set j (.d (R x))) (tu { D with nx := NX fx' Inv Mi Γi (i + 1), ct := NX fx' Inv Mi Γi (i + 1), bk := tz D }))
    (hd : ∀ d, Inv xs.length d → KV fx (Mi d) (Γi d) (tz D)) (hok : ∀ d, okM (Mi d) := by intro _; trivial) : KV fx M Γ (tSeq (tFor wi (gName j) tu) tz D) := k_forX (D := { D with nx := tz D }) hsrc Inv Mi Γi d0 h0 hM hΓ hs hd hok
theorem low_all {n : Nat} {l : List Sl} (h : (l.all fun s => match s with | .c k => decide (k < n) | _ => true) = true) : ∀ s ∈ l, Sl.low n s := fun s hs => by
  have := List.all_eq_true.mp h s hs
  cases s with
  | d P => trivial
  | u => trivial
  | c k =>
    show k < n
    exact of_decide_eq_true this
end
/-! ### combinations, told by the law -/
abbrev vRow (r : List Int) : VP := vTs (vIs r)
abbrev vRows (l : List (List Int)) : VP := vLs (l.map vRow)
def combos : List (List Int) → List (List Int)
  | [] => [[]]
  | s :: r => s.flatMap fun x => (combos r).map (x :: ·)
theorem combos_len : ∀ l : List (List Int), (combos l).length ≤ prodP l
  | [] => Nat.le_refl _
  | s :: r => by
    have ih := combos_len r
    show (s.flatMap fun x => (combos r).map (x :: ·)).length ≤ Nat.max 1 s.length * prodP r
    have : (s.flatMap fun x => (combos r).map (x :: ·)).length = s.length * (combos r).length := by
      induction s with
      | nil => simp
      | cons a s ih2 => rw [List.flatMap_cons, List.length_append, ih2, List.length_map, List.length_cons, Nat.succ_mul, Nat.add_comm]
    rw [this]
    exact Nat.mul_le_mul (Nat.le_max_right _ _) ih
theorem combos_cons_len (s : List Int) (r : List (List Int)) : (combos (s :: r)).length = s.length * (combos r).length := by
  show (s.flatMap fun x => (combos r).map (x :: ·)).length = _
  induction s with
  | nil => simp
  | cons a s ih2 => rw [List.flatMap_cons, List.length_append, ih2, List.length_map, List.length_cons, Nat.succ_mul, Nat.add_comm]
theorem combos_row : ∀ {l : List (List Int)} {r : List Int}, r ∈ combos l → r.length = l.length
  | [], r, h => by
    rw [combos, List.mem_singleton] at h
    subst h; rfl
  | s :: l, r, h => by
    rw [combos, List.mem_flatMap] at h
    obtain ⟨x, _, h⟩ := h
    obtain ⟨q, hq, e⟩ := List.mem_map.mp h
    subst e
    rw [List.length_cons, List.length_cons, combos_row hq]
theorem flat_len {α : Type} (B : List (List Int)) (f : α → List Int → List Int) : ∀ l : List α, (l.flatMap fun x => B.map (f x)).length = l.length * B.length
  | [] => by simp
  | a :: l => by rw [List.flatMap_cons, List.length_append, flat_len B f l, List.length_map, List.length_cons, Nat.succ_mul, Nat.add_comm]
theorem prodP_pos : ∀ l : List (List Int), 1 ≤ prodP l
  | [] => Nat.le_refl _
  | s :: r => Nat.mul_le_mul (Nat.le_max_left 1 s.length) (prodP_pos r)
theorem prodP_tail (s : List Int) (r : List (List Int)) : prodP r ≤ prodP (s :: r) := by
  have := Nat.mul_le_mul (Nat.le_max_left 1 s.length) (Nat.le_refl (prodP r))
  rw [Nat.one_mul] at this; exact this
def cCombos (n : Nat) : Con where
  ι := List (List Int)
  pre x := x.length < n ∧ x.length ≤ 1000 ∧ prodP x ≤ 1000000
  cin _ := []
  args x := [.d (vSides x)]
  cout _ := []
  ret x := .d (vRows (combos x))
/-- ascending, each once -/
def stepC (acc : List Int) (x : Int) : List Int := if acc = [] ∨ acc.getLast? ≠ some x then acc ++ [x] else acc
def clean (s : List Int) : List Int := (srt s).foldl stepC []
theorem stepC_len (acc : List Int) (x : Int) : (stepC acc x).length ≤ acc.length + 1 := by
  unfold stepC
  split
  · rw [List.length_append] <;> exact Nat.le_refl _
  · exact Nat.le_succ _
theorem foldC_len : ∀ (l acc : List Int), (l.foldl stepC acc).length ≤ acc.length + l.length
  | [], acc => Nat.le_refl _
  | x :: l, acc => by
    have := foldC_len l (stepC acc x)
    have := stepC_len acc x
    rw [List.foldl_cons, List.length_cons]; omega
theorem clean_len (s : List Int) : (clean s).length ≤ s.length := by
  have := foldC_len (srt s) []
  rw [(srt_perm s).length_eq] at this
  simpa [clean] using this
theorem stepC_ok {acc : List Int} {x : Int} (h1 : acc.Pairwise (· < ·)) (h2 : ∀ y ∈ acc, y ≤ x) : (stepC acc x).Pairwise (· < ·) ∧ (∀ y, y ∈ stepC acc x ↔ y ∈ acc ∨ y = x) ∧ ∀ y ∈ stepC acc x, y ≤ x := by
  unfold stepC
  split
  · rename_i h
    refine ⟨?_, fun y => by simp, fun y hy => ?_⟩
    · rw [List.pairwise_append]
      refine ⟨h1, by simp, fun a ha b hb => ?_⟩
      rw [List.mem_singleton] at hb
      subst hb
      have hne : a ≠ b := fun e => by
        subst e
        rcases h with h | h
        · subst h; simp at ha
        · -- the last is not b, all are at most b
          obtain ⟨l, z, e⟩ : ∃ l z, acc = l ++ [z] := ⟨acc.dropLast, acc.getLast (List.ne_nil_of_mem ha), (List.dropLast_concat_getLast _).symm⟩
          subst e
          rw [List.getLast?_append] at h
          have hz : z ≠ a := fun e => h (by simp [e])
          have hza : z ≤ a := h2 z (by simp)
          rw [List.mem_append, List.mem_singleton] at ha
          rcases ha with ha | ha
          · have := (List.pairwise_append.mp h1).2.2 a ha z (by simp)
            omega
          · exact hz ha.symm
      have := h2 a ha
      omega
    · rcases List.mem_append.mp hy with hy | hy
      · exact h2 y hy
      · rw [List.mem_singleton.mp hy]; exact Int.le_refl _
  · rename_i h
    rw [not_or, Decidable.not_not] at h
    refine ⟨h1, fun y => ⟨.inl, fun q => q.elim id fun e => ?_⟩, h2⟩
    subst e
    exact List.mem_of_getLast? h.2
theorem foldC_ok : ∀ (l acc : List Int), acc.Pairwise (· < ·) → l.Pairwise (· ≤ ·) → (∀ y ∈ acc, ∀ x ∈ l, y ≤ x) → (l.foldl stepC acc).Pairwise (· < ·) ∧ ∀ y, y ∈ l.foldl stepC acc ↔ y ∈ acc ∨ y ∈ l
  | [], acc, h1, _, _ => ⟨h1, fun y => by simp⟩
  | x :: l, acc, h1, h2, h3 => by
    rw [List.pairwise_cons] at h2
    obtain ⟨k1, k2, k3⟩ := stepC_ok (x := x) h1 fun y hy => h3 y hy x List.mem_cons_self
    obtain ⟨m1, m2⟩ := foldC_ok l (stepC acc x) k1 h2.2 fun y hy z hz => by
      have := k3 y hy
      have := h2.1 z hz
      omega
    refine ⟨m1, fun y => ?_⟩
    rw [List.foldl_cons, m2, k2, List.mem_cons, or_assoc]
theorem clean_ok (s : List Int) : (clean s).Pairwise (· < ·) ∧ ∀ y, y ∈ clean s ↔ y ∈ s := by
  obtain ⟨h1, h2⟩ := foldC_ok (srt s) [] .nil (srt_pw s) fun y hy => by simp at hy
  exact ⟨h1, fun y => by rw [clean, h2]; simp [(srt_perm s).mem_iff]⟩
/-- an ascending list is told by its members -/
theorem asc_eq {as bs : List Int} (ha : as.Pairwise (· < ·)) (hb : bs.Pairwise (· < ·)) (h : ∀ x, x ∈ as ↔ x ∈ bs) : as = bs := by
  have na : as.Nodup := ha.imp fun h => by omega
  have nb : bs.Nodup := hb.imp fun h => by omega
  have hp : as.Perm bs := (List.perm_ext_iff_of_nodup na nb).mpr h
  exact perm_sorted hp (ha.imp fun h => by omega) (hb.imp fun h => by omega)
def cClean : Con where
  ι := List Int
  pre x := x.length ≤ 10000
  cin _ := []
  args x := [.d (vLs (vIs x))]
  cout _ := []
  ret x := .d (vLs (vIs (clean x)))
theorem stepC_snoc (l : List Int) (z n : Int) : stepC (l ++ [z]) n = if z = n then l ++ [z] else l ++ [z] ++ [n] := by
  unfold stepC
  rw [List.getLast?_append]
  by_cases h : z = n
  · subst h; simp
  · simp [h]
theorem at_last {α : Type} {xs : List α} {v : α} {i : Int} (e : i = -1) (h : xs.getLast? = some v) : atI xs i = some v := by
  subst e
  obtain ⟨l, rfl⟩ : ∃ l, xs = l ++ [v] := ⟨xs.dropLast, by
    have hn : xs ≠ [] := fun q => by subst q; simp at h
    rw [List.getLast?_eq_some_getLast hn] at h
    have := Option.some.inj h
    rw [← this, List.dropLast_concat_getLast]⟩
  have hl : (l ++ [v]).length = l.length + 1 := by simp
  unfold atI ixN
  rw [hl, if_neg (by decide), if_pos (by omega)]
  show (l ++ [v])[(-1 + ((l.length + 1 : Nat) : Int)).toNat]? = some v
  rw [show (-1 + ((l.length + 1 : Nat) : Int)).toNat = l.length by omega]
  simp
theorem map_snoc {α : Type} (R : α → VP) (xs : List α) (x : α) : (xs ++ [x]).map R = xs.map R ++ [R x] := List.map_append
section
variable {K : PySem.W.Frag} {fx fx' : Fx} {M M1 : List (Option CP)} {Γ Γj : List Sl} {D : Ends} {tu tz : TS} {te : TE} {t : TT} {b : Bool} {s : Sl} {i : Nat}
/-- if t: x = e, both ways told alike -/
theorem q_whenJ (Γj : List Sl) (h : ET M Γ t M b) (he : b = true → EV M Γ te M s) (h1 : b = true → GLe (Γ.set i s) Γj) (h2 : b = false → GLe Γ Γj) (q : KV fx M Γj (tz D)) : KV fx M Γ (tSeq (tIfS t (tAsg te (gName i)) tNext) tz D) :=
  q_whenM h (fun hb => k_asgM (he hb) (kv_le (h1 hb) q)) fun hb => kv_le (h2 hb) q
theorem sle_i {ρ : Type} {I : ρ → Prop} {P : ρ → VP} (r : ρ) (h : I r) : SlLe (.d (P r)) (.d (vEx I P)) := sle_s (sub_in r h Sub.rfl)
end
/-- sides near others -/
def NearOk (n : Nat) (sides : List (List Int)) : Prop := sides.length = n ∧ prodP sides ≤ 128 ∧ ∀ s ∈ sides, s.length ≤ 40 ∧ ∀ x ∈ s, 0 ≤ x
def cNear : Con where
  ι := List (List Int) × Int
  pre x := x.1.length ≤ 1000 ∧ (∀ s ∈ x.1, s.length ≤ 39 ∧ ∀ y ∈ s, 0 ≤ y) ∧ 0 < x.2 ∧ x.2 < 1073741824
  cin _ := [cSrc, cSrc]
  args x := [.d (vSides x.1), .c 0, .c 1, .d (vV (.int x.2))]
  cout _ := [cSrc, cSrc]
  ret x := .d (vEx (NearOk x.1.length) vSides)
def cWithin : Con where
  ι := List (List Int) × List (List Int)
  pre x := x.1.length ≤ 8 ∧ prodP x.1 ≤ 1000 ∧ x.2.length ≤ 1000
  cin _ := []
  args x := [.d (vSides x.1), .d (vRows x.2)]
  cout _ := []
  ret x := .d (vV (.bl (decide (∀ r ∈ combos x.1, r ∈ x.2))))
theorem room_step' {p lim : Nat} {room : Int} {len : Nat} (h1 : 1 ≤ room) (h2 : (p : Int) * room ≤ lim) (h4 : (len : Int) ≤ room ∨ len ≤ 1) : 1 ≤ room.fdiv (if (len : Int) > 1 then (len : Int) else 1) ∧ ((p * Nat.max 1 len : Nat) : Int) * room.fdiv (if (len : Int) > 1 then (len : Int) else 1) ≤ lim := by
  have hs : ((Nat.max 1 len : Nat) : Int) = if (len : Int) > 1 then (len : Int) else 1 := by
    show ((max 1 len : Nat) : Int) = _
    split <;> omega
  rw [Int.natCast_mul, hs]
  generalize hg : (if (len : Int) > 1 then (len : Int) else 1 : Int) = g at *
  have hgp : 0 < g := by subst hg; split <;> omega
  have hgr : g ≤ room := by subst hg; split <;> omega
  rw [Int.fdiv_eq_ediv_of_nonneg _ (by omega)]
  have k1 : 1 ≤ room / g := by
    rw [Int.le_ediv_iff_mul_le hgp]; omega
  refine ⟨k1, ?_⟩
  have k2 : g * (room / g) ≤ room := Int.mul_ediv_self_le (by omega)
  have k3 : (p : Int) * (g * (room / g)) ≤ (p : Int) * room := Int.mul_le_mul_of_nonneg_left k2 (by omega)
  rw [Int.mul_assoc]
  omega
section
variable {K : PySem.W.Frag} {M M' : List (Option CP)} {Γ : List Sl} {te : TE} {tt : TT} {s : Sl} {g : TG} {vs : List Nat} {tr : TA} {j : Nat}
/-- over range(n), n some int -/
theorem ev_lcRE {I : Int → Prop} (h : EA M Γ tr M [.d (vEx I fun r => vV (.int r))]) (hr : ∀ r, I r → EV M Γ (tLc (iRng1 fun _ H Q => Q [.int r] H) g tt te vs) M' s) : EV M Γ (tLc (iRng1 tr) g tt te vs) M' s := fun fx as G σ H gd Q q => by
  refine h (fx.at G as) as G σ H ⟨gd.hs.re, gd.len, gd.env⟩ _ fun us as1 G1 H1 h1 o => ?_
  cases o with
  | cons o1 o2 =>
    cases o2
    obtain ⟨r, hI, e⟩ := o1
    obtain rfl : _ = V.int r := e
    exact hr r hI fx as1 G1 σ H1 (gd.lift h1) Q q
theorem ea_int {r : Int} : EA M Γ (fun _ H Q => Q [.int r] H) M [.d (vV (.int r))] := fun fx as G σ H g Q q => q _ as G H g.hs (.cons rfl .nil)
theorem ev_drawsE {I : Int → Prop} {m : Int} (B : Nat) (h : EA M Γ tr M [.d (vEx I fun r => vV (.int r))]) (hI : ∀ r, I r → 0 ≤ r ∧ r ≤ B) (hB : B ≤ 16777215) (he : ∀ i : Nat, EV M ((Γ.set j .u).set j (.d (vV (.int (i : Nat))))) te M (.d (vR m))) :
    EV M Γ (tLc (iRng1 tr) (gName j) tYes te [j]) M (.d (vEx (fun rs : List Int => rs.length ≤ B ∧ ∀ r ∈ rs, 0 ≤ r ∧ r < m) fun rs => vLs (vIs rs))) :=
  ev_lcRE h fun r hr => by
    obtain ⟨h0, h1⟩ := hI r hr
    exact ev_sub (ev_draws ea_int ⟨h0, by omega⟩ he) (sub_ex fun rs h => sub_in rs ⟨by have := h.1; omega, h.2⟩ Sub.rfl)
end
theorem Vs.snoc_inv {G : Hp} {P : VP} : ∀ {Ps : List VP} {vs : List V}, Vs G (Ps ++ [P]) vs → ∃ ws v, vs = ws ++ [v] ∧ Vs G Ps ws ∧ P.p G v
  | [], _, .cons h .nil => ⟨[], _, rfl, .nil, h⟩
  | _ :: Ps, _, .cons h t => by
    obtain ⟨ws, v, e, h1, h2⟩ := Vs.snoc_inv (Ps := Ps) t
    exact ⟨_ :: ws, v, by rw [e] <;> rfl, .cons h h1, h2⟩
theorem sub_snocR {xs : List Int} {n : Int} : Sub (vLs (vIs xs ++ [vR n])) (vEx (fun rs : List Int => ∃ r, 0 ≤ r ∧ r < n ∧ rs = xs ++ [r]) fun rs => vLs (vIs rs)) := fun G v ⟨a, vs, h1, h2, h3, h4⟩ => by
  obtain ⟨ws, u, e, k1, r, ⟨r0, r1⟩, k2⟩ := h4.snoc_inv
  refine ⟨xs ++ [r], ⟨r, r0, r1, rfl⟩, a, vs, h1, h2, by rw [List.length_map, List.length_append]; simpa using h3, ?_⟩
  rw [e, vIs, List.map_append]
  exact k1.append (.one k2)
end PL

namespace L2
open PySem PySem.Spec PyProof.Rows
section
variable {X : Cx}
/-- set(xs), xs ints -/
def rSetI (K : PySem.W.Frag) : List V → Hp → VK → Prop := fun xs H Q => ∃ (p : Addr) (ns : List Int), xs = [V.ref p] ∧ (SqL K H p (ns.map V.int) ∨ SqT K H p (ns.map V.int)) ∧ ns.length + 1 < 4096 ∧
  ∀ (q : Addr) (n : Nat), H q = none → Q (.ref q) (upd H q (.set (fun k => decide (k ∈ ns)) n))
theorem call_setI (hc : X.calm = true) : CallR X (.type "set") (rSetI X.K) := by
  intro pins s σ H xs us Q inv rxs ⟨p, ns, e, hsq, hlen, q⟩
  subst e
  obtain ⟨u, rfl, ru⟩ := rxs.one
  cases (show u = Value.ref p from ru)
  rcases hsq with hsq | hsq
  · obtain ⟨its, rv, pl, _⟩ := inv.list hsq
    have hi := rv.ints
    have hsz : its.length = ns.length := by have := rv.length; rw [List.length_map] at this; exact this.symm
    refine call_set_list (inv.ok.hd hc) pl.isList (by simpa using hi) (by show its.toArray.size + 1 < scanBound; rw [show its.toArray.size = ns.length by simpa using hsz]; exact hlen) fun h' tk hS hk => ?_
    have eS : (fun k' => (firstMet (fun i => ns.getD i 0) its.toArray.size).any (· == k')) = fun k => decide (k ∈ ns) := by
      funext k
      rw [firstMet_any]
      have : (List.range its.toArray.size).map (fun i => ns.getD i 0) = ns := by
        apply List.ext_getElem
        · simp [hsz]
        · intro i h1 h2
          simp [List.getD_eq_getElem?_getD, h2]
      rw [this]
      by_cases h : k ∈ ns
      · rw [decide_eq_true h]; exact List.any_eq_true.mpr ⟨k, h, by simp⟩
      · rw [decide_eq_false h, Bool.eq_false_iff]
        intro z
        obtain ⟨y, hy, e⟩ := List.any_eq_true.mp z
        exact h (by rw [← eq_of_beq e]; exact hy)
    rw [eS] at hS
    exact ⟨.ref s.heap.objs.size, upd H s.heap.objs.size (.set (fun k => decide (k ∈ ns)) _), inv.laid (t' := tk) (fun b o ho => hk b o (Heap.lt_size ho) ho) (Nat.le_refl _) (show ObjOk X.prog X.w _ h' s.heap.objs.size (.set (fun k => decide (k ∈ ns)) _) from hS), rfl, q _ _ (inv.hok.fresh (Nat.le_refl _))⟩
  · obtain ⟨its, rv, pl, _⟩ := inv.tuple hsq
    have hi := rv.ints
    refine call_set_tupI ns (inv.ok.hd hc) (show s.heap.IsTuple p its.toArray from pl) (by simpa using hi) hlen fun h' tk c hS _ hk => ?_
    exact ⟨.ref s.heap.objs.size, upd H s.heap.objs.size (.set (fun k => decide (k ∈ ns)) c), inv.laid (t' := tk) hk (Nat.le_refl _) (show ObjOk X.prog X.w _ h' s.heap.objs.size (.set (fun k => decide (k ∈ ns)) c) from hS.setOf), rfl, q _ _ (inv.hok.fresh (Nat.le_refl _))⟩
def rInSet (neg : Bool) : R2 := fun x y H Q => ∃ k a S n, x = V.int k ∧ y = V.ref a ∧ H a = some (.set S n) ∧ Q (.bl (if neg = true then !S k else S k)) H
theorem op_inSet : OpR X (compareOp .In) (rInSet false) := by
  intro pins s σ H x y v u Q inv rx ry ⟨k, a, S, n, ex, ey, ha, q⟩
  subst ex ey
  obtain ⟨tk, e⟩ := rx
  subst e
  cases ry
  exact wpAny_inSet_of (intKind_is _ _ _ _) rfl (show s.heap.SetOf (intKind X.prog X.w) a S n from inv.hok a _ ha) ⟨.bl (S k), H, inv.tok _, rfl, q⟩
theorem op_niSet : OpR X (compareOp .NotIn) (rInSet true) := by
  intro pins s σ H x y v u Q inv rx ry ⟨k, a, S, n, ex, ey, ha, q⟩
  subst ex ey
  obtain ⟨tk, e⟩ := rx
  subst e
  cases ry
  exact wpAny_notInSet_of (intKind_is _ _ _ _) rfl (show s.heap.SetOf (intKind X.prog X.w) a S n from inv.hok a _ ha) ⟨.bl (!S k), H, inv.tok _, rfl, q⟩
end
end L2
namespace L2
open PySem PySem.Spec PyProof.Rows
/-! ### operators of an own class -/
theorem back_of {Pp : Value → Shared → Prop} {z : V} {v : Value} {s' : Shared} (r : RelV z v) (h : Pp v s') : PySem.W.CmpBack Pp v s' := by
  cases z with
  | non => cases (show v = Value.none from r); exact h
  | bl b => cases (show v = Value.bool b from r); exact h
  | int i => obtain ⟨t, rfl⟩ := (show ∃ t, v = Value.int i t from r); exact h
  | str x => obtain ⟨t, rfl⟩ := (show ∃ t, v = Value.str x t from r); exact h
  | byt x => obtain ⟨t, rfl⟩ := (show ∃ t, v = Value.bytes x t from r); exact h
  | flt x => obtain ⟨t, rfl⟩ := (show ∃ t, v = Value.float x t from r); exact h
  | ref a => cases (show v = Value.ref a from r); exact h
  | ty n => cases (show v = Value.type n from r); exact h
def rOwnC (C : Addr) (sp : Sp) : R2 := fun x y H Q => ∃ a dx fs b dy gs, x = .ref a ∧ y = .ref b ∧ H a = some (.ins C dx fs) ∧ H b = some (.ins C dy gs) ∧ sp ([x, y] ++ []) H Q E0
section
variable {X : Cx} {C g : Addr} {k : Nat} {fd : FuncData} {ps : List Str} {sp : Sp}
theorem op_ownC {op : CmpOp} (hop : ∀ a b, compareOp op a b = richCompare op a b) (hs : PySem.W.findIn X.K (.ref C) (cmpInfo op).2.1 = some (some (.ref g))) (hf : PySem.W.isFn X.K (.ref g) = true) (hn : PySem.W.notFirst X.K C (.ref C) = true)
    (F : FnOk X.prog X.w X.K X.mg X.base CX0 k g fd ps sp) (hr : Room k X.A) (hb : Binds X.K fd ps []) : OpR X (compareOp op) (rOwnC C sp) := by
  intro pins s σ H x y v u Q inv rx ry ⟨a, dx, fs, b, dy, gs, ex, ey, ha, hbb, q⟩
  subst ex ey
  cases (show v = Value.ref a from rx)
  cases (show u = Value.ref b from ry)
  obtain ⟨m1, O1, _⟩ := ins_get inv.hok ha
  obtain ⟨od1, J1, _⟩ := O1.look
  obtain ⟨m2, O2, _⟩ := ins_get inv.hok hbb
  obtain ⟨od2, J2, _⟩ := O2.look
  obtain ⟨m, hF⟩ := inv.fr
  rw [hop]
  refine PySem.W.cmp_K (op := op) (tb := .ref C) hr.units0 hF inv.ok.mod.kin J1 J2.type hn hs hf ?_
  refine wpAny_mono (run_fn (us := [.ref a, .ref b]) (vs := [.ref a, .ref b]) F hr hb .nil pass0 inv (.cons rfl (.cons rfl .nil)) q) (fun w s' z => ?_) fun _ _ x => x
  obtain ⟨z', H', inv', rz, qz⟩ := z
  exact back_of rz ⟨z', H', inv', rz, qz⟩
theorem op_ownB {op : Operator} (hs : PySem.W.findIn X.K (.ref C) (PySem.dunder op.info.2) = some (some (.ref g))) (hf : PySem.W.isFn X.K (.ref g) = true) (hc : PySem.W.selfFirst X.K C = true)
    (F : FnOk X.prog X.w X.K X.mg X.base CX0 k g fd ps sp) (hr : Room k X.A) (hb : Binds X.K fd ps []) : OpR X (binaryOp op) (rOwnC C sp) := by
  intro pins s σ H x y v u Q inv rx ry ⟨a, dx, fs, b, dy, gs, ex, ey, ha, hbb, q⟩
  subst ex ey
  cases (show v = Value.ref a from rx)
  cases (show u = Value.ref b from ry)
  obtain ⟨m1, O1, _⟩ := ins_get inv.hok ha
  obtain ⟨od1, J1, _⟩ := O1.look
  obtain ⟨m2, O2, _⟩ := ins_get inv.hok hbb
  obtain ⟨od2, J2, _⟩ := O2.look
  obtain ⟨m, hF⟩ := inv.fr
  refine PySem.W.binop_K hF inv.ok.mod.kin J1 J2.type hc hs hf ?_
  refine wpAny_mono (run_fn (us := [.ref a, .ref b]) (vs := [.ref a, .ref b]) F hr hb .nil pass0 inv (.cons rfl (.cons rfl .nil)) q) (fun w s' z => ?_) fun _ _ x => x
  obtain ⟨z', H', inv', rz, qz⟩ := z
  exact back_of rz ⟨z', H', inv', rz, qz⟩
/-- x in o, o of an own class -/
def rOwnIn (C : Addr) (sp : Sp) (neg : Bool) : R2 := fun x y H Q => ∃ b dy gs, y = .ref b ∧ H b = some (.ins C dy gs) ∧ sp ([y, x] ++ []) H (fun z H' => ∃ r, z = .bl r ∧ Q (.bl (if neg = true then !r else r)) H') E0
theorem op_ownIn (hs : PySem.W.findIn X.K (.ref C) "__contains__" = some (some (.ref g))) (hf : PySem.W.isFn X.K (.ref g) = true)
    (F : FnOk X.prog X.w X.K X.mg X.base CX0 k g fd ps sp) (hr : Room k X.A) (hb : Binds X.K fd ps []) : OpR X (compareOp .In) (rOwnIn C sp false) := by
  intro pins s σ H x y v u Q inv rx ry ⟨b, dy, gs, ey, hbb, q⟩
  subst ey
  cases (show u = Value.ref b from ry)
  obtain ⟨m2, O2, _⟩ := ins_get inv.hok hbb
  obtain ⟨od2, J2, _⟩ := O2.look
  obtain ⟨m, hF⟩ := inv.fr
  refine PySem.W.in_K hF inv.ok.mod.kin J2 hs hf ?_
  refine wpAny_mono (run_fn (us := [.ref b, v]) (vs := [.ref b, x]) F hr hb .nil pass0 inv (.cons rfl (.cons rx .nil)) q) (fun w s' z => ?_) fun _ _ x => x
  obtain ⟨z', H', inv', rz, r, e, qz⟩ := z
  subst e
  cases (show w = Value.bool r from rz)
  exact wpAny_truthy_bool ⟨.bl r, H', inv', rfl, qz⟩
theorem op_ownNi (hs : PySem.W.findIn X.K (.ref C) "__contains__" = some (some (.ref g))) (hf : PySem.W.isFn X.K (.ref g) = true)
    (F : FnOk X.prog X.w X.K X.mg X.base CX0 k g fd ps sp) (hr : Room k X.A) (hb : Binds X.K fd ps []) : OpR X (compareOp .NotIn) (rOwnIn C sp true) := by
  intro pins s σ H x y v u Q inv rx ry ⟨b, dy, gs, ey, hbb, q⟩
  subst ey
  cases (show u = Value.ref b from ry)
  obtain ⟨m2, O2, _⟩ := ins_get inv.hok hbb
  obtain ⟨od2, J2, _⟩ := O2.look
  obtain ⟨m, hF⟩ := inv.fr
  refine PySem.W.notIn_K hF inv.ok.mod.kin J2 hs hf ?_
  refine wpAny_mono (run_fn (us := [.ref b, v]) (vs := [.ref b, x]) F hr hb .nil pass0 inv (.cons rfl (.cons rx .nil)) q) (fun w s' z => ?_) fun _ _ x => x
  obtain ⟨z', H', inv', rz, r, e, qz⟩ := z
  subst e
  cases (show w = Value.bool r from rz)
  exact wpAny_truthy_bool ⟨.bl (!r), H', inv', rfl, qz⟩
end
end L2
namespace PL
open PySem L2
/-! ### sets of ints -/
def vSet (ns : List Int) : VP := ⟨fun G v => ∃ a n, v = .ref a ∧ G a = some (.set (fun k => decide (k ∈ ns)) n), fun e ⟨a, n, h1, h2⟩ => ⟨a, n, h1, e _ _ h2⟩⟩
section
variable {X : Cx} (K : PySem.W.Frag)
theorem call_set' (hc : X.calm = true := by rfl) (hK : X.K = K := by rfl) : CallR X (.type "set") (rSetI K) := by subst hK; exact call_setI hc
end
section
variable {K : PySem.W.Frag} {fx fx' : Fx} {M M1 M2 M' : List (Option CP)} {Γ Γj : List Sl} {D : Ends} {tu tz : TS} {te ta tb tk tv td : TE} {t : TT} {b : Bool} {s s1 s2 : Sl} {i j k : Nat} {P Q P1 P2 : VP} {Ps : List VP} {ns : List Int} {m : Int} {C : Addr} {E : XK}
theorem cb_setQ (hl : ns.length < 4095) : CBV M (rSetI K) [.d (vQs (vIs ns))] M (.d (vSet ns)) := fun fx as G H xs h o Q q => by
  cases o with
  | cons o1 o2 =>
    cases o2
    obtain ⟨a, vs, rfl, e2, e3, e4⟩ := o1
    have e := vs_ints e4
    subst e
    refine ⟨a, ns, rfl, e2.imp (fun e => SqL.of (h.ex _ _ e)) fun e => SqT.of (h.ex _ _ e), by omega, fun p n hp => ?_⟩
    exact q _ as _ _ (h.back (h.data hp)) ⟨p, n, rfl, upd_same⟩
theorem cb_setL (hl : ns.length < 4095) : CBV M (rSetI K) [.d (vLs (vIs ns))] M (.d (vSet ns)) := cb_subs (cb_setQ hl) (.cons (sle_s sub_lq) .nil)
theorem cb_setT (hl : ns.length < 4095) : CBV M (rSetI K) [.d (vTs (vIs ns))] M (.d (vSet ns)) := cb_subs (cb_setQ hl) (.cons (sle_s sub_tq) .nil)
theorem opv_inSet : OPV M (rInSet false) (.d (vV (.int m))) (.d (vSet ns)) M (.d (vV (.bl (decide (m ∈ ns))))) := fun fx as G H x y h h1 ⟨a, n, e1, e2⟩ Q q =>
  ⟨m, a, _, n, h1, e1, h.ex _ _ e2, by rw [if_neg Bool.false_ne_true]; exact q _ as G H h rfl⟩
theorem opv_niSet : OPV M (rInSet true) (.d (vV (.int m))) (.d (vSet ns)) M (.d (vV (.bl (!decide (m ∈ ns))))) := fun fx as G H x y h h1 ⟨a, n, e1, e2⟩ Q q =>
  ⟨m, a, _, n, h1, e1, h.ex _ _ e2, by rw [if_pos rfl]; exact q _ as G H h rfl⟩
/-! ### isinstance -/
theorem cb_isi {n : String} {ty : String} (hP : ∀ G H, Ex G H → ∀ x, P.p G x → TyX K H x (.type ty)) (hk : kitB ty n = some b) : CBV M (rIsi K) [.d P, .d (vV (.ty n))] M (.d (vV (.bl b))) := fun fx as G H xs h o Q q => by
  cases o with
  | cons o1 o2 => cases o2 with
    | cons o2 o3 =>
      cases o3
      obtain rfl : _ = V.ty n := o2
      exact ⟨_, _, _, _, b, rfl, .ty n, hP G H h.ex _ o1, kit_ty hk, q _ as G H h rfl⟩
theorem ty_int {i : Int} : ∀ G H, Ex G H → ∀ x, (vV (.int i)).p G x → TyX K H x (.type "int") := fun G H e x h => by
  obtain rfl : x = .int i := h
  exact .base (.int i)
theorem ty_bool {i : Bool} : ∀ G H, Ex G H → ∀ x, (vV (.bl i)).p G x → TyX K H x (.type "bool") := fun G H e x h => by
  obtain rfl : x = .bl i := h
  exact .base (.bl i)
theorem ty_T : ∀ G H, Ex G H → ∀ x, (vTs Ps).p G x → TyX K H x (.type "tuple") := fun G H e x ⟨a, vs, h1, h2, _⟩ => by
  subst h1
  exact .base (.tup (e _ _ h2))
theorem ty_L : ∀ G H, Ex G H → ∀ x, (vLs Ps).p G x → TyX K H x (.type "list") := fun G H e x ⟨a, vs, h1, h2, _⟩ => by
  subst h1
  exact .base (.lst (e _ _ h2))
/-! ### instances -/
inductive FVs (G : Hp) : List (Str × VP) → List (Str × V) → Prop
  | nil : FVs G [] []
  | cons {f : Str} {P : VP} {v : V} {fs : List (Str × VP)} {ws : List (Str × V)} : P.p G v → FVs G fs ws → FVs G ((f, P) :: fs) ((f, v) :: ws)
theorem FVs.mono {G G' : Hp} {fs : List (Str × VP)} {ws : List (Str × V)} (e : Ex G G') (h : FVs G fs ws) : FVs G' fs ws := by
  induction h with
  | nil => exact .nil
  | cons h _ ih => exact .cons (VP.mono _ e h) ih
theorem FVs.length {G : Hp} {fs : List (Str × VP)} {ws : List (Str × V)} (h : FVs G fs ws) : ws.length = fs.length := by
  induction h with
  | nil => rfl
  | cons _ _ ih => simp [ih]
theorem FVs.look {G : Hp} {fs : List (Str × VP)} {ws : List (Str × V)} (h : FVs G fs ws) : ∀ {f : Str} {P : VP}, fs.lookup f = some P → ∃ v, ws.lookup f = some v ∧ P.p G v := by
  induction h with
  | nil => intro f P e; simp at e
  | @cons g P' v fs' ws' h _ ih =>
    intro f P e
    rw [List.lookup_cons] at e ⊢
    cases hb : f == g with
    | true => rw [hb] at e; cases e; exact ⟨v, rfl, h⟩
    | false => rw [hb] at e; exact ih e
theorem FVs.nolook {G : Hp} {fs : List (Str × VP)} {ws : List (Str × V)} (h : FVs G fs ws) : ∀ {f : Str}, fs.lookup f = none → ws.lookup f = none := by
  induction h with
  | nil => intro f e; rfl
  | @cons g P' v fs' ws' h _ ih =>
    intro f e
    rw [List.lookup_cons] at e ⊢
    cases hb : f == g with
    | true => rw [hb] at e; cases e
    | false => rw [hb] at e; exact ih e
def putP (f : Str) (P : VP) : List (Str × VP) → List (Str × VP)
  | [] => [(f, P)]
  | (g, R) :: r => if g = f then (g, P) :: r else (g, R) :: putP f P r
theorem FVs.put {G : Hp} {fs : List (Str × VP)} {ws : List (Str × V)} {f : Str} {v : V} (h : FVs G fs ws) (hv : P.p G v) : FVs G (putP f P fs) (putF f v ws) := by
  induction h with
  | nil => exact .cons hv .nil
  | @cons g P' u fs' ws' h k ih =>
    show FVs G (if g = f then (g, P) :: fs' else (g, P') :: putP f P fs') (if g = f then (g, v) :: ws' else (g, u) :: putF f v ws')
    by_cases e : g = f
    · rw [if_pos e, if_pos e]; exact .cons hv k
    · rw [if_neg e, if_neg e]; exact .cons h ih
def vIns (C : Addr) (fs : List (Str × VP)) : VP := ⟨fun G v => ∃ a dx ws, v = .ref a ∧ G a = some (.ins C dx ws) ∧ FVs G fs ws, fun e ⟨a, dx, ws, h1, h2, h3⟩ => ⟨a, dx, ws, h1, e _ _ h2, h3.mono e⟩⟩
def cIns (C : Addr) (fs : List (Str × VP)) : CP := ⟨fun G o => ∃ dx ws, o = .ins C dx ws ∧ FVs G fs ws, fun e ⟨dx, ws, h1, h2⟩ => ⟨dx, ws, h1, h2.mono e⟩⟩
theorem ev_fld {f : Str} {fs : List (Str × VP)} (c : Cls K C) (n : NoAttr K C f) (h : EV M Γ te M' (.d (vIns C fs))) (hl : fs.lookup f = some P) : EV M Γ (tFld K te f) M' (.d P) := fun fx as G σ H g Q q =>
  h fx as G σ H g _ fun v as1 G1 H1 h1 ⟨a, dx, ws, e1, e2, e3⟩ => by
    obtain ⟨u, k1, k2⟩ := e3.look hl
    exact ⟨a, C, dx, ws, u, e1, h1.ex _ _ e2, c, n, k1, q u as1 G1 H1 h1 k2⟩
theorem ev_fldC {f : Str} {fs : List (Str × VP)} (c : Cls K C) (n : NoAttr K C f) (h : EV M Γ te M' (.c k)) (hM : M'[k]? = some (some (cIns C fs))) (hl : fs.lookup f = some P) : EV M Γ (tFld K te f) M' (.d P) := fun fx as G σ H g Q q =>
  h fx as G σ H g _ fun v as1 G1 H1 h1 ⟨a, e1, e2⟩ => by
    obtain ⟨_, o, g2, dx, ws, e3, e4⟩ := h1.cells k a _ e1 hM
    subst e3
    obtain ⟨u, k1, k2⟩ := e4.look hl
    exact ⟨a, C, dx, ws, u, e2, g2, c, n, k1, q u as1 G1 H1 h1 k2⟩
theorem k_fld {f : Str} {fs : List (Str × VP)} (c : Cls K C) (n : NoAttr K C f) (hv : EV M Γ tv M1 (.d P)) (ha : EV M1 Γ ta M1 (.c k)) (hM : M1[k]? = some (some (cIns C fs))) (hz : fs.length < 1000) (q : KV fx (M1.set k (some (cIns C (putP f P fs)))) Γ D.nx) :
    KV fx M Γ (sFld K ta tv f D) := fun as G σ H g => by
  refine hv (fx.at G as) as G σ H ⟨g.hs.re, g.len, g.env⟩ _ fun y as1 G1 H1 h1 o1 => ?_
  have g1 := g.lift h1
  refine ha (fx.at G1 as1) as1 G1 σ H1 ⟨g1.hs.re, g1.len, g1.env⟩ _ fun x as2 G2 H2 h2 ⟨a, e1, e2⟩ => ?_
  have g2 := g1.lift h2
  obtain ⟨_, o, k2, dx, ws, e3, e4⟩ := h2.cells k a _ e1 hM
  subst e3
  have o1' : P.p G2 y := P.mono h2.g0 o1
  refine ⟨a, C, dx, ws, e2, k2, c, n, by rw [e4.length]; exact hz, ?_⟩
  exact q as2 G2 σ _ (g2.lift (g2.hs.put e1 hM (C' := cIns C (putP f P fs)) ⟨dx, _, rfl, e4.put o1'⟩))
theorem q_fld {f : Str} {fs : List (Str × VP)} (c : Cls K C) (n : NoAttr K C f) (hv : EV M Γ tv M1 (.d P)) (ha : EV M1 Γ ta M1 (.c k)) (hM : M1[k]? = some (some (cIns C fs))) (hz : fs.length < 1000) (q : KV fx (M1.set k (some (cIns C (putP f P fs)))) Γ (tz D)) :
    KV fx M Γ (tSeq (sFld K ta tv f) tz D) := k_fld (D := { D with nx := tz D }) c n hv ha hM hz q
/-- C(..): what __init__ promises of the new instance -/
theorem cb_make {c : Con} {ss : List Sl} {ds : List VP} {fs : List (Str × VP)} (x : c.ι) (hp : c.pre x) (hin : c.cin x = [cIns C []]) (hargs : c.args x = .c 0 :: ds.map Sl.d) (hout : c.cout x = [cIns C fs]) (hret : c.ret x = .d (vV .non)) (hss : Subs ss (ds.map Sl.d)) :
    CBV M (fun vs H Q => ∀ x dx, H x = none → H dx = none → dx ≠ x → spC c (.ref x :: (vs ++ [])) (upd (upd H dx (.own x)) x (.ins C dx [])) (fun v H2 => v = .non ∧ Q (.ref x) H2) E) ss M (.d (vIns C fs)) := fun fx as G H vs h o Q q => by
  intro a dx ha hdx hne
  have h1 := h.junk (o := .own a) hdx
  have ha1 : upd H dx (.own a) a = none := by rw [upd_ne (Ne.symm hne)]; exact ha
  have h2 := h1.cell (o := .ins C dx []) (C := cIns C []) ha1 ⟨dx, [], rfl, .nil⟩
  have h3 : Hs (fx.at G as) (M ++ [some (cIns C [])]) (as ++ [a]) G (upd (upd H dx (.own a)) a (.ins C dx [])) := h1.back h2
  have hk : (M ++ [some (cIns C [])])[M.length]? = some (some (cIns C [])) := by rw [List.getElem?_append_right (Nat.le_refl _), Nat.sub_self] <;> rfl
  have hka : (as ++ [a])[M.length]? = some a := by rw [← h.len, List.getElem?_append_right (Nat.le_refl _), Nat.sub_self] <;> rfl
  have hmap : ∀ l : List VP, (l.map Sl.d).map (Sl.ren [M.length]) = l.map Sl.d := fun l => by rw [List.map_map] <;> rfl
  have CA : CallAt c x [M.length] (M ++ [some (cIns C [])]) (.c M.length :: ss) := {
    pre := hp
    nd := by simp
    len := by rw [hin] <;> rfl
    cells := fun j q e => by
      cases j with
      | zero => simp at e; subst e; exact ⟨cIns C [], by rw [hin] <;> rfl, hk⟩
      | succ j => simp at e
    args := by
      rw [hargs, List.map_cons, hmap]
      exact .cons sle_c hss
    ok := fun j hj => by
      rw [hargs] at hj
      rcases List.mem_cons.mp hj with hj | hj
      · cases hj; exact Nat.zero_lt_one
      · obtain ⟨P, _, e⟩ := List.mem_map.mp hj
        cases e }
  have hcall := cb_call (E := E) x [M.length] CA (by rw [hout]; exact Nat.le_refl _)
  rw [hout, hret] at hcall
  have o3 : Slots (as ++ [a]) G (.c M.length :: ss) (.ref a :: vs) := .cons ⟨a, hka, rfl⟩ (o.mono (Ex.refl _) (List.prefix_append _ _))
  refine hcall ⟨fx.F, G, as ++ [a]⟩ (as ++ [a]) G _ _ h3.re o3 _ fun v as' G' H' h4 hv => ⟨hv, ?_⟩
  have epm : putM (M ++ [some (cIns C [])]) [M.length] [cIns C fs] = M ++ [some (cIns C fs)] := by
    show (M ++ [some (cIns C [])]).set M.length (some (cIns C fs)) ++ [] = _
    rw [List.append_nil, List.set_append_right _ _ (Nat.le_refl _), Nat.sub_self] <;> rfl
  rw [epm] at h4
  have hga : as'[M.length]? = some a := pre_get h4.a0 hka
  have hkk : (M ++ [some (cIns C fs)])[M.length]? = some (some (cIns C fs)) := by rw [List.getElem?_append_right (Nat.le_refl _), Nat.sub_self] <;> rfl
  obtain ⟨g1, o', g2, dx', ws, e3, e4⟩ := h4.cells _ a _ hga hkk
  subst e3
  have h6 := h4.back (h4.freeze hga hkk g2)
  have e5 : (M ++ [some (cIns C fs)]).set M.length none = M ++ [none] := by rw [List.set_append_right _ _ (Nat.le_refl _), Nat.sub_self] <;> rfl
  rw [e5] at h6
  have h7 : Hs (fx.at G as) (M ++ [none]) as' _ H' := h6.le ⟨rfl, Ex.refl _, List.prefix_append _ _⟩
  have h8 := h.back (h7.cut (by rw [show (fx.at G as).as0 = as from rfl, h.len]; exact Nat.le_refl _))
  exact q _ _ _ H' h8 ⟨a, dx', ws, rfl, upd_same, e4.mono (Ex.new g1)⟩
/-! ### operators of an own class -/
def IsIns (C : Addr) (P : VP) : Prop := ∀ G v, P.p G v → ∃ a dx fs, v = .ref a ∧ G a = some (.ins C dx fs)
theorem isIns {fs : List (Str × VP)} : IsIns C (vIns C fs) := fun G v ⟨a, dx, ws, h1, h2, _⟩ => ⟨a, dx, ws, h1, h2⟩
theorem opv_own {sp : Sp} (h1 : IsIns C P1) (h2 : IsIns C P2) (hc : CBV M (fun vs H Q => sp (vs ++ []) H Q E0) [.d P1, .d P2] M' s) : OPV M (rOwnC C sp) (.d P1) (.d P2) M' s := fun fx as G H x y h o1 o2 Q q => by
  obtain ⟨a, dx, fs, e1, e2⟩ := h1 G x o1
  obtain ⟨b, dy, gs, e3, e4⟩ := h2 G y o2
  exact ⟨a, dx, fs, b, dy, gs, e1, e3, h.ex _ _ e2, h.ex _ _ e4, hc fx as G H [x, y] h (.cons o1 (.cons o2 .nil)) Q q⟩
theorem opv_ownIn {sp : Sp} (h2 : IsIns C P2) (hc : CBV M (fun vs H Q => sp (vs ++ []) H Q E0) [.d P2, .d P1] M' (.d (vV (.bl b)))) : OPV M (rOwnIn C sp false) (.d P1) (.d P2) M' (.d (vV (.bl b))) := fun fx as G H x y h o1 o2 Q q => by
  obtain ⟨a, dy, gs, e3, e4⟩ := h2 G y o2
  exact ⟨a, dy, gs, e3, h.ex _ _ e4, hc fx as G H [y, x] h (.cons o2 (.cons o1 .nil)) _ fun v as' G' H' h1 e => ⟨b, e, by rw [if_neg Bool.false_ne_true]; exact q _ as' G' H' h1 rfl⟩⟩
theorem opv_ownNi {sp : Sp} (h2 : IsIns C P2) (hc : CBV M (fun vs H Q => sp (vs ++ []) H Q E0) [.d P2, .d P1] M' (.d (vV (.bl b)))) : OPV M (rOwnIn C sp true) (.d P1) (.d P2) M' (.d (vV (.bl (!b)))) := fun fx as G H x y h o1 o2 Q q => by
  obtain ⟨a, dy, gs, e3, e4⟩ := h2 G y o2
  exact ⟨a, dy, gs, e3, h.ex _ _ e4, hc fx as G H [y, x] h (.cons o2 (.cons o1 .nil)) _ fun v as' G' H' h1 e => ⟨b, e, by rw [if_pos rfl]; exact q _ as' G' H' h1 rfl⟩⟩
end
end PL

namespace PL
open PySem L2
/-! ### dicts whose keys are ints and texts, cells -/
inductive KVs (G : Hp) : List (Key × VP) → List (Key × V) → Prop
  | nil : KVs G [] []
  | cons {k : Key} {P : VP} {v : V} {ks : List (Key × VP)} {ws : List (Key × V)} : P.p G v → KVs G ks ws → KVs G ((k, P) :: ks) ((k, v) :: ws)
theorem KVs.mono {G G' : Hp} {ks : List (Key × VP)} {ws : List (Key × V)} (e : Ex G G') (h : KVs G ks ws) : KVs G' ks ws := by
  induction h with
  | nil => exact .nil
  | cons h _ ih => exact .cons (VP.mono _ e h) ih
theorem KVs.length {G : Hp} {ks : List (Key × VP)} {ws : List (Key × V)} (h : KVs G ks ws) : ws.length = ks.length := by
  induction h with
  | nil => rfl
  | cons _ _ ih => simp [ih]
theorem KVs.get {G : Hp} {ks : List (Key × VP)} {ws : List (Key × V)} (h : KVs G ks ws) : ∀ {i : Nat} {k : Key} {v : V}, ws[i]? = some (k, v) → ∃ P, ks[i]? = some (k, P) ∧ P.p G v := by
  induction h with
  | nil => intro i k v e; simp at e
  | cons h _ ih =>
    intro i k v e
    cases i with
    | zero => simp at e; obtain ⟨rfl, rfl⟩ := e; exact ⟨_, rfl, h⟩
    | succ i => exact ih (by simpa using e)
def putKP (ks : List (Key × VP)) (k : Key) (P : VP) : List (Key × VP) :=
  if (ks.any fun kv => decide (kv.1 = k)) = true then ks.map (fun kv => if kv.1 = k then (kv.1, P) else kv) else ks ++ [(k, P)]
theorem KVs.any {G : Hp} {ks : List (Key × VP)} {ws : List (Key × V)} (h : KVs G ks ws) (k : Key) : (ws.any fun kv => decide (kv.1 = k)) = ks.any fun kv => decide (kv.1 = k) := by
  induction h with
  | nil => rfl
  | cons _ _ ih => rw [List.any_cons, List.any_cons, ih]
theorem KVs.put {G : Hp} {ks : List (Key × VP)} {ws : List (Key × V)} {k : Key} {P : VP} {v : V} (h : KVs G ks ws) (hv : P.p G v) : KVs G (putKP ks k P) (putK ws k v) := by
  unfold putKP putK
  rw [h.any k]
  by_cases ha : (ks.any fun kv => decide (kv.1 = k)) = true
  · rw [if_pos ha, if_pos ha]
    clear ha
    induction h with
    | nil => exact .nil
    | @cons k' P' v' ks' ws' h t ih =>
      rw [List.map_cons, List.map_cons]
      by_cases e : k' = k
      · rw [if_pos e, if_pos e]; exact .cons hv ih
      · rw [if_neg e, if_neg e]; exact .cons h ih
  · rw [if_neg ha, if_neg ha]
    clear ha
    induction h with
    | nil => exact .cons hv .nil
    | cons h _ ih => exact .cons h ih
theorem putKP_len (ks : List (Key × VP)) (k : Key) (P : VP) : (putKP ks k P).length ≤ ks.length + 1 := by
  unfold putKP
  split
  · rw [List.length_map]; exact Nat.le_succ _
  · rw [List.length_append] <;> exact Nat.le_refl _
def cDk (ks : List (Key × VP)) : CP := ⟨fun G o => ∃ ws, o = .dK ws ∧ KVs G ks ws, fun e ⟨ws, h1, h2⟩ => ⟨ws, h1, h2.mono e⟩⟩
/-- while it is walked -/
def cFz (od : Obj) (ws : List (Key × V)) (ks : List (Key × VP)) : CP := ⟨fun G o => o = .frz od (.dK ws) ∧ KVs G ks ws, fun e ⟨h1, h2⟩ => ⟨h1, h2.mono e⟩⟩
section
variable {K : PySem.W.Frag} {fx fx' : Fx} {M M1 M2 M' : List (Option CP)} {Γ Γj : List Sl} {D : Ends} {tu tz : TS} {te ta tb tk tv td : TE} {tt : TT} {b : Bool} {s s1 s2 : Sl} {i j k : Nat} {P Q P1 P2 : VP} {Ps : List VP} {m : Int} {C : Addr} {E : XK} {g g1 : TG} {wi wi1 : TI}
  {ks : List (Key × VP)}
def putsKP {α : Type} (kf : α → Key) (F : α → VP) (xs : List α) : List (Key × VP) := xs.foldl (fun acc x => putKP acc (kf x) (F x)) []
theorem putsKP_snoc {α : Type} (kf : α → Key) (F : α → VP) (xs : List α) (x : α) : putsKP kf F (xs ++ [x]) = putKP (putsKP kf F xs) (kf x) (F x) := by unfold putsKP; rw [List.foldl_append] <;> rfl
theorem putsKP_len {α : Type} (kf : α → Key) (F : α → VP) : ∀ xs : List α, (putsKP kf F xs).length ≤ xs.length := by
  have : ∀ (xs : List α) (acc : List (Key × VP)), (xs.foldl (fun acc x => putKP acc (kf x) (F x)) acc).length ≤ acc.length + xs.length := by
    intro xs
    induction xs with
    | nil => intro acc; exact Nat.le_refl _
    | cons x xs ih =>
      intro acc
      have h1 := ih (putKP acc (kf x) (F x))
      have h2 := putKP_len acc (kf x) (F x)
      rw [List.foldl_cons, List.length_cons]; omega
  intro xs
  have := this xs []
  simpa [putsKP] using this
theorem yes_run {σ : L2.St} {H : Hp} {A B : Hp → Prop} (h : A H) : tYes σ H (fun b H3 => if b = true then A H3 else B H3) := by
  show (if true = true then A H else B H)
  rw [if_pos rfl]; exact h
theorem ev_dcC {α : Type} {xs : List α} {R F : α → VP} {kf : α → Key} {vs : List Nat} {okM : List (Option CP) → Prop} (Γt : α → List Sl) (hsrc : SrcM M Γ wi M1 okM xs.length (Pat (xs.map R))) (hz : xs.length ≤ 16777215)
    (hg : ∀ x ∈ xs, ∃ js, GT g (R x) (wipeG Γ vs) (Γt x) js ∧ ∀ j ∈ js, j ∈ vs) (hk : ∀ x ∈ xs, EV M1 (Γt x) tk M1 (.d (vV (kV (kf x))))) (hv : ∀ x ∈ xs, EV M1 (Γt x) tv M1 (.d (F x))) (hok : okM M1 := by trivial) :
    EV M Γ (tDc wi g tYes tk tv vs) (M1 ++ [some (cDk (putsKP kf F xs))]) (.c M1.length) := fun fx as G σ H gd Q q => by
  refine hsrc (fx.at G as) as G σ H ⟨gd.hs.re, gd.len, gd.env⟩ _ fun J as1 G1 H1 hs1 W => ?_
  have g1 := gd.lift hs1
  intro p hp
  have hFp : ∀ q u, fx.F q = some u → q ≠ p := fun q u e z => by
    have := (hs1.fr q u e).1
    rw [z, hp] at this; cases this
  refine ⟨fun i m H' => m = xs.length - i ∧ i ≤ xs.length ∧ ∃ as2 G2 acc, KVs G2 (putsKP kf F (xs.take i)) acc ∧ Good ⟨upd fx.F p (.dK acc), G1, as1⟩ M1 Γ as2 G2 σ H', ⟨xs.length, by simp, Nat.zero_le _, as1, G1, [], .nil, ?_⟩, ?_⟩
  · exact ⟨g1.hs.hold hp, g1.len, g1.env⟩
  rintro i m H' ⟨rfl, hi, as2, G2, acc, hacc, g2⟩
  by_cases hlt : i < xs.length
  · refine .inr ?_
    have hx := List.getElem_mem hlt
    have E1 : Ex G1 G2 := g2.hs.g0
    obtain ⟨hgo, hy⟩ := W.go i _ _ _ _ _ hlt hok g2.hs.a0 E1 g2.hs
    refine ⟨hgo, fun H3 => ∃ as2 G2 acc, KVs G2 (putsKP kf F (xs.take (i + 1))) acc ∧ Good ⟨upd fx.F p (.dK acc), G1, as1⟩ M1 Γ as2 G2 σ H3, fun H3 z => ⟨xs.length - (i + 1), by omega, rfl, hlt, z⟩, fun x H3 hx3 => ?_⟩
    obtain ⟨G3, h3, o3⟩ := hy x H3 hx3
    rw [pat_map hlt] at o3
    obtain ⟨js, gt, hjs⟩ := hg _ hx
    have g3 := g2.lift h3
    have e23 : Ex G2 G3 := h3.g0
    refine gt.run _ _ as2 G3 _ H3 x (g3.wipe vs) o3 _ fun σ4 g4 w4 => ?_
    have hw : L2.wipe σ4 vs = L2.wipe σ vs := by
      rw [w4 vs hjs]
      have : ∀ (ws : List Nat) (τ : L2.St), (∀ j ∈ ws, j ∈ vs) → L2.wipe (L2.wipe τ ws) vs = L2.wipe τ vs := by
        intro ws
        induction ws with
        | nil => intro τ _; rfl
        | cons w ws ih =>
          intro τ hm
          show L2.wipe ((L2.wipe τ ws).set w none) vs = L2.wipe τ vs
          rw [wipe_set (hm w List.mem_cons_self), ih τ fun j hj => hm j (List.mem_cons_of_mem _ hj)]
      exact this vs σ fun j hj => hj
    refine ⟨hw, yes_run ?_⟩
    refine hk _ hx (Fx.mk (upd fx.F p (.dK acc)) G3 as2) as2 G3 σ4 H3 ⟨g4.hs.re, g4.len, g4.env⟩ _ fun y as5 G5 H5 hs5 o5 => ?_
    have eI : Ex G3 G5 := hs5.g0
    have g5 : Good ⟨upd fx.F p (.dK acc), G1, as1⟩ M1 Γ as5 G5 σ H5 := g3.lift hs5
    refine hv _ hx (Fx.mk (upd fx.F p (.dK acc)) G5 as5) as5 G5 σ4 H5 ⟨hs5.re, g4.len, fun a s e => (g4.env a s e).imp id fun ⟨v, q1, q2⟩ => ⟨v, q1, q2.mono eI hs5.a0⟩⟩ _ fun z as6 G6 H6 hs6 o6 => ?_
    have e6 : Ex G5 G6 := hs6.g0
    have g6 := g5.lift hs6
    have hpin : H6 p = some (.dK acc) := (g6.hs.fr p _ (by show upd fx.F p (.dK acc) p = some (.dK acc); exact upd_same)).1
    have hal : acc.length ≤ i := by
      have h1 := putsKP_len kf F (xs.take i)
      rw [List.length_take] at h1
      rw [hacc.length]; omega
    refine ⟨acc, kf xs[i], o5, hpin, sz_lt (by omega), as6, G6, putK acc (kf xs[i]) z, ?_, ?_⟩
    · rw [take_snoc hlt, putsKP_snoc]
      exact (hacc.mono ((e23.trans eI).trans e6)).put o6
    · have hh := g6.hs.held (o := .dK acc) (o' := .dK (putK acc (kf xs[i]) z)) (by show upd fx.F p (.dK acc) p = some (.dK acc); exact upd_same)
      rw [upd_upd] at hh
      exact ⟨hh, g6.len, g6.env⟩
  · have e : i = xs.length := by omega
    subst e
    refine .inl ⟨W.stop _ _ _ _ _ _ (Nat.le_refl _) hok g2.hs.a0 g2.hs.g0 g2.hs, ?_⟩
    rw [List.take_length] at hacc
    obtain ⟨u1, u2, u3, u4⟩ := g2.hs.unhold hFp
    have u5 : Hs fx M1 as2 G2 H' := g1.hs.back u1
    have hl : as2.length = M1.length := u5.len
    refine q _ (as2 ++ [p]) G2 H' (u5.back (u5.tocell hFp u2 u3 u4 (C := cDk (putsKP kf F xs)) ⟨acc, rfl, hacc⟩)) ⟨p, ?_, rfl⟩
    rw [← hl, List.getElem?_append_right (Nat.le_refl _), Nat.sub_self] <;> rfl
/-- the target a name -/
theorem ev_dcN {α : Type} {xs : List α} {R F : α → VP} (kf : α → Key) {okM : List (Option CP) → Prop} (hsrc : SrcM M Γ wi M1 okM xs.length (Pat (xs.map R))) (hz : xs.length ≤ 16777215)
    (hk : ∀ x ∈ xs, EV M1 ((Γ.set j .u).set j (.d (R x))) tk M1 (.d (vV (kV (kf x))))) (hv : ∀ x ∈ xs, EV M1 ((Γ.set j .u).set j (.d (R x))) tv M1 (.d (F x))) (hok : okM M1 := by trivial) :
    EV M Γ (tDc wi (gName j) tYes tk tv [j]) (M1 ++ [some (cDk (putsKP kf F xs))]) (.c M1.length) :=
  ev_dcC (vs := [j]) (fun x => (Γ.set j .u).set j (.d (R x))) hsrc hz (fun x _ => ⟨[j], gt_name, fun _ h => h⟩) hk hv hok
/-! ### a dict walked: it is locked meanwhile -/
theorem ev_lock (hM : M[k]? = some (some (cDk ks))) (h : ∀ od ws, EV (M.set k (some (cFz od ws ks))) Γ te (M.set k (some (cFz od ws ks))) (.d P)) : EV M Γ (tLockE te) M (.d P) := fun fx as G σ H g Q q => by
  have hk : k < as.length := by rw [g.hs.len]; exact (List.getElem?_eq_some_iff.mp hM).1
  obtain ⟨h1, o, h2, ws, e, h3⟩ := g.hs.cells k as[k] (cDk ks) (List.getElem?_eq_getElem hk) hM
  subst e
  refine ⟨as[k], .dK ws, h2, trivial, fun od => ?_⟩
  have hp := g.hs.put (C' := cFz od ws ks) (o' := .frz od (.dK ws)) (List.getElem?_eq_getElem hk) hM ⟨rfl, h3⟩
  have g2 := g.lift hp
  have hM2 : (M.set k (some (cFz od ws ks)))[k]? = some (some (cFz od ws ks)) := List.getElem?_set_self (List.getElem?_eq_some_iff.mp hM).1
  refine h od ws (fx.at G as) as G σ _ ⟨hp, g.len, g.env⟩ _ fun v as' G' H' h4 o4 => ?_
  have hka : as'[k]? = some as[k] := pre_get h4.a0 (List.getElem?_eq_getElem hk)
  obtain ⟨h5, o5, h6, e6, h7⟩ := h4.cells k as[k] (cFz od ws ks) hka hM2
  subst e6
  refine ⟨h6, ?_⟩
  have hb := h4.put (C' := cDk ks) (o' := .dK ws) hka hM2 ⟨ws, rfl, h7⟩
  have e1 : (M.set k (some (cFz od ws ks))).set k (some (cDk ks)) = M := by rw [List.set_set, set_same hM]
  rw [e1] at hb
  exact q v as' G' _ (g.hs.back (h4.back hb)) (P.mono hb.g0 o4)
theorem src_keys {od : Obj} {ws : List (Key × V)} (h : EV M Γ td M (.c k)) (hM : M[k]? = some (some (cFz od ws ks))) : SrcM M Γ (iKeys td) M (fun M' => M'[k]? = some (some (cFz od ws ks))) ks.length (Pat (ks.map fun p => vV (kV p.1))) := fun fx as G σ H g R q =>
  h fx as G σ H g _ fun v as1 G1 H1 h1 ⟨a, e1, e2⟩ => by
    obtain ⟨g1, o, g2, e3, e4⟩ := h1.cells k a _ e1 hM
    subst e3
    refine ⟨a, od, e2, .inl ⟨ws, g2, q _ as1 G1 H1 h1 ⟨fun i fx' M' as' G' H' hi hm ha e h2 => ?_, fun i fx' M' as' G' H' hi hm ha e h2 => ?_⟩⟩⟩
    · obtain ⟨k1, o', k2, k3, k4⟩ := h2.cells k a _ (pre_get ha e1) hm
      subst k3
      refine ⟨⟨k2, by rw [e4.length]; exact hi⟩, fun x H3 ⟨e5, key, u, e6, e7⟩ => ?_⟩
      subst e5 e7
      obtain ⟨P', e8, _⟩ := e4.get e6
      refine ⟨G', h2.re, ?_⟩
      rw [pat_map hi]
      obtain ⟨hi', e9⟩ := List.getElem?_eq_some_iff.mp e8
      rw [e9] <;> rfl
    · obtain ⟨k1, o', k2, k3, k4⟩ := h2.cells k a _ (pre_get ha e1) hm
      subst k3
      exact ⟨k2, by rw [e4.length]; exact hi⟩
end
/-- the keys of {x: .. for x in xs}: each once -/
theorem putKP_keys_in {ks : List (Key × VP)} {k : Key} {P : VP} (hm : k ∈ ks.map (·.1)) : (putKP ks k P).map (·.1) = ks.map (·.1) := by
  have h : (ks.any fun kv => decide (kv.1 = k)) = true := by
    obtain ⟨p, hp, e⟩ := List.mem_map.mp hm
    exact List.any_eq_true.mpr ⟨p, hp, decide_eq_true e⟩
  unfold putKP
  rw [if_pos h, List.map_map]
  apply List.map_congr_left
  intro p _
  show (if p.1 = k then (p.1, P) else p).1 = p.1
  split <;> rfl
theorem putKP_keys_out {ks : List (Key × VP)} {k : Key} {P : VP} (hm : k ∉ ks.map (·.1)) : (putKP ks k P).map (·.1) = ks.map (·.1) ++ [k] := by
  have h : ¬ (ks.any fun kv => decide (kv.1 = k)) = true := fun h => by
    obtain ⟨p, hp, e⟩ := List.any_eq_true.mp h
    exact hm (List.mem_map.mpr ⟨p, hp, of_decide_eq_true e⟩)
  unfold putKP
  rw [if_neg h, List.map_append] <;> rfl
theorem putsKP_keys {α : Type} (kf : α → Key) (F : α → VP) (xs : List α) : ((putsKP kf F xs).map (·.1)).Nodup ∧ ∀ k, k ∈ (putsKP kf F xs).map (·.1) ↔ ∃ x ∈ xs, kf x = k := by
  have : ∀ (xs : List α) (acc : List (Key × VP)), (acc.map (·.1)).Nodup → ((xs.foldl (fun acc x => putKP acc (kf x) (F x)) acc).map (·.1)).Nodup ∧ ∀ k, k ∈ (xs.foldl (fun acc x => putKP acc (kf x) (F x)) acc).map (·.1) ↔ k ∈ acc.map (·.1) ∨ ∃ x ∈ xs, kf x = k := by
    intro xs
    induction xs with
    | nil => intro acc h; exact ⟨h, fun k => by simp⟩
    | cons x xs ih =>
      intro acc h
      by_cases hm : kf x ∈ acc.map (·.1)
      · have hk := putKP_keys_in (P := F x) hm
        obtain ⟨h1, h2⟩ := ih (putKP acc (kf x) (F x)) (by rw [hk]; exact h)
        refine ⟨h1, fun k => ?_⟩
        rw [List.foldl_cons, h2, hk]
        constructor
        · rintro (h | ⟨y, hy, e⟩)
          · exact .inl h
          · exact .inr ⟨y, List.mem_cons_of_mem _ hy, e⟩
        · rintro (h | ⟨y, hy, e⟩)
          · exact .inl h
          · rcases List.mem_cons.mp hy with rfl | hy
            · exact .inl (e ▸ hm)
            · exact .inr ⟨y, hy, e⟩
      · have hk := putKP_keys_out (P := F x) hm
        obtain ⟨h1, h2⟩ := ih (putKP acc (kf x) (F x)) (by
          rw [hk, List.nodup_append]
          refine ⟨h, by simp, fun a ha b hb e => ?_⟩
          rw [List.mem_singleton] at hb
          subst hb; subst e
          exact hm ha)
        refine ⟨h1, fun k => ?_⟩
        rw [List.foldl_cons, h2, hk, List.mem_append, List.mem_singleton]
        constructor
        · rintro ((h | h) | ⟨y, hy, e⟩)
          · exact .inl h
          · exact .inr ⟨x, List.mem_cons_self, h.symm⟩
          · exact .inr ⟨y, List.mem_cons_of_mem _ hy, e⟩
        · rintro (h | ⟨y, hy, e⟩)
          · exact .inl (.inl h)
          · rcases List.mem_cons.mp hy with rfl | hy
            · exact .inl (.inr e.symm)
            · exact .inr ⟨y, hy, e⟩
  obtain ⟨h1, h2⟩ := this xs [] List.nodup_nil
  exact ⟨h1, fun k => by rw [putsKP, h2]; simp⟩
end PL

namespace PL
open PySem L2
section
variable {K : PySem.W.Frag} {fx fx' : Fx} {M M1 M2 M' : List (Option CP)} {Γ Γj : List Sl} {D : Ends} {te ta tb : TE} {i j j1 k : Nat} {P Q P1 P2 : VP} {g g1 : TG} {wi wi1 : TI}
theorem wipe_wipe {vs : List Nat} : ∀ (ws : List Nat) (τ : L2.St), (∀ j ∈ ws, j ∈ vs) → L2.wipe (L2.wipe τ ws) vs = L2.wipe τ vs
  | [], τ, _ => rfl
  | w :: ws, τ, hm => by
    show L2.wipe ((L2.wipe τ ws).set w none) vs = L2.wipe τ vs
    rw [wipe_set (hm w List.mem_cons_self), wipe_wipe ws τ fun j hj => hm j (List.mem_cons_of_mem _ hj)]
theorem Good.any {as : List Addr} {G H : Hp} {σ : L2.St} {fx2 : Fx} {as2 : List Addr} {G2 H2 : Hp} (g : Good fx M Γ as G σ H) (h : Hs fx2 M' as2 G2 H2) (e : Ex G G2) (p : as <+: as2) : Good fx2 M' Γ as2 G2 σ H2 :=
  ⟨h, g.len, fun i s q => (g.env i s q).imp id fun ⟨v, h1, h2⟩ => ⟨v, h1, h2.mono e p⟩⟩
theorem ev_lc2C {α β : Type} {xs : List α} {R : α → VP} {ys : α → List β} {R1 : β → VP} {F : α → β → VP} {vs : List Nat} {okM okM1 : List (Option CP) → Prop} (hsrc : SrcM M Γ wi M1 okM xs.length (Pat (xs.map R)))
    (hsrc1 : ∀ x ∈ xs, SrcM M1 ((wipeG Γ vs).set j (.d (R x))) wi1 M1 okM1 (ys x).length (Pat ((ys x).map R1))) (hz : (xs.flatMap fun x => (ys x).map (F x)).length ≤ 16777215)
    (he : ∀ x ∈ xs, ∀ y ∈ ys x, EV M1 ((wipeG ((wipeG Γ vs).set j (.d (R x))) [j1]).set j1 (.d (R1 y))) te M1 (.d (F x y))) (hj : j ∈ vs) (hok : okM M1 := by trivial) (hok1 : okM1 M1 := by trivial) :
    EV M Γ (tLc2 wi (gName j) tYes wi1 (gName j1) tYes te vs [j1]) (M1 ++ [some (cLs (xs.flatMap fun x => (ys x).map (F x)))]) (.c M1.length) := fun fx as G σ H gd Q q => by
  refine hsrc (fx.at G as) as G σ H ⟨gd.hs.re, gd.len, gd.env⟩ _ fun J as1 G1 H1 hs1 W => ?_
  have g1 := gd.lift hs1
  intro p hp
  have hFp : ∀ q u, fx.F q = some u → q ≠ p := fun q u e z => by
    have := (hs1.fr q u e).1
    rw [z, hp] at this; cases this
  have hpre : ∀ n, ((xs.take n).flatMap fun x => (ys x).map (F x)).length ≤ 16777215 := fun n => by
    refine Nat.le_trans ?_ hz
    have e : xs = xs.take n ++ xs.drop n := (List.take_append_drop _ _).symm
    have : (xs.flatMap fun x => (ys x).map (F x)) = ((xs.take n).flatMap fun x => (ys x).map (F x)) ++ ((xs.drop n).flatMap fun x => (ys x).map (F x)) := by rw [← List.flatMap_append, ← e]
    rw [this, List.length_append]
    exact Nat.le_add_right _ _
  refine ⟨fun i m H' => m = xs.length - i ∧ i ≤ xs.length ∧ ∃ as2 G2 acc, Vs G2 ((xs.take i).flatMap fun x => (ys x).map (F x)) acc ∧ Good ⟨upd fx.F p (.lst acc), G1, as1⟩ M1 Γ as2 G2 σ H', ⟨xs.length, by simp, Nat.zero_le _, as1, G1, [], .nil, ?_⟩, ?_⟩
  · exact ⟨g1.hs.hold hp, g1.len, g1.env⟩
  rintro i m H' ⟨rfl, hi, as2, G2, acc, hacc, g2⟩
  by_cases hlt : i < xs.length
  · refine .inr ?_
    have hx := List.getElem_mem hlt
    have E1 : Ex G1 G2 := g2.hs.g0
    obtain ⟨hgo, hy⟩ := W.go i _ _ _ _ _ hlt hok g2.hs.a0 E1 g2.hs
    refine ⟨hgo, fun H3 => ∃ as2 G2 acc, Vs G2 ((xs.take (i + 1)).flatMap fun x => (ys x).map (F x)) acc ∧ Good ⟨upd fx.F p (.lst acc), G1, as1⟩ M1 Γ as2 G2 σ H3, fun H3 z => ⟨xs.length - (i + 1), by omega, rfl, hlt, z⟩, fun x H3 hx3 => ?_⟩
    obtain ⟨G3, h3, o3⟩ := hy x H3 hx3
    rw [pat_map hlt] at o3
    have g3 := g2.lift h3
    have e23 : Ex G2 G3 := h3.g0
    have hw2 : L2.wipe ((L2.wipe σ vs).set j (some x)) vs = L2.wipe σ vs := by rw [wipe_set hj, wipe_wipe vs σ fun j h => h]
    refine ⟨hw2, yes_run ?_⟩
    -- the inner loop
    have gσ2 : Good ⟨upd fx.F p (.lst acc), G1, as1⟩ M1 ((wipeG Γ vs).set j (.d (R xs[i]))) as2 G3 ((L2.wipe σ vs).set j (some x)) H3 := (g3.wipe vs).set (s := .d (R xs[i])) o3
    refine hsrc1 _ hx (Fx.mk (upd fx.F p (.lst acc)) G3 as2) as2 G3 _ H3 ⟨gσ2.hs.re, gσ2.len, gσ2.env⟩ _ fun J1 as4 G4 H4 hs4 W1 => ?_
    have e34 : Ex G3 G4 := hs4.g0
    have g4 : Good ⟨upd fx.F p (.lst acc), G1, as1⟩ M1 Γ as4 G4 σ H4 := g3.lift hs4
    have s4 : Good ⟨upd fx.F p (.lst acc), G1, as1⟩ M1 ((wipeG Γ vs).set j (.d (R xs[i]))) as4 G4 ((L2.wipe σ vs).set j (some x)) H4 := gσ2.lift hs4
    refine ⟨fun n m H5 => m = (ys xs[i]).length - n ∧ n ≤ (ys xs[i]).length ∧ ∃ as5 G5 acc5, Vs G5 (((xs.take i).flatMap fun x => (ys x).map (F x)) ++ ((ys xs[i]).take n).map (F xs[i])) acc5 ∧ Ex G4 G5 ∧ as4 <+: as5 ∧ Good ⟨upd fx.F p (.lst acc5), G1, as1⟩ M1 Γ as5 G5 σ H5,
      ⟨(ys xs[i]).length, by simp, Nat.zero_le _, as4, G4, acc, by rw [List.take_zero, List.map_nil, List.append_nil]; exact hacc.mono (e23.trans e34), Ex.refl _, List.prefix_refl _, g4⟩, ?_⟩
    rintro n m H5 ⟨rfl, hn, as5, G5, acc5, hacc5, e45, p45, g5⟩
    have s5 : Good ⟨upd fx.F p (.lst acc5), G1, as1⟩ M1 ((wipeG Γ vs).set j (.d (R xs[i]))) as5 G5 ((L2.wipe σ vs).set j (some x)) H5 := s4.any g5.hs e45 p45
    by_cases hltn : n < (ys xs[i]).length
    · refine .inr ?_
      have hyn := List.getElem_mem hltn
      obtain ⟨hgo1, hy1⟩ := W1.go n _ _ _ _ _ hltn hok1 p45 e45 g5.hs
      refine ⟨hgo1, fun H6 => ∃ as5 G5 acc5, Vs G5 (((xs.take i).flatMap fun x => (ys x).map (F x)) ++ ((ys xs[i]).take (n + 1)).map (F xs[i])) acc5 ∧ Ex G4 G5 ∧ as4 <+: as5 ∧ Good ⟨upd fx.F p (.lst acc5), G1, as1⟩ M1 Γ as5 G5 σ H6, fun H6 z => ⟨(ys xs[i]).length - (n + 1), by omega, rfl, hltn, z⟩, fun y H6 hy6 => ?_⟩
      obtain ⟨G6, h6, o6⟩ := hy1 y H6 hy6
      rw [pat_map hltn] at o6
      have g6 := g5.lift h6
      have e56 : Ex G5 G6 := h6.g0
      have s6 : Good ⟨upd fx.F p (.lst acc5), G1, as1⟩ M1 ((wipeG ((wipeG Γ vs).set j (.d (R xs[i]))) [j1]).set j1 (.d (R1 (ys xs[i])[n]))) as5 G6 ((L2.wipe ((L2.wipe σ vs).set j (some x)) [j1]).set j1 (some y)) H6 := ((s5.lift h6).wipe [j1]).set (s := .d (R1 (ys xs[i])[n])) o6
      refine ⟨by rw [wipe_set (by simp), wipe_wipe [j1] _ fun j h => h], yes_run ?_⟩
      refine he _ hx _ hyn (Fx.mk (upd fx.F p (.lst acc5)) G6 as5) as5 G6 _ H6 ⟨s6.hs.re, s6.len, s6.env⟩ _ fun z as7 G7 H7 hs7 o7 => ?_
      have e67 : Ex G6 G7 := hs7.g0
      have g7 := g6.lift hs7
      have hpin : H7 p = some (.lst acc5) := (g7.hs.fr p _ (by show upd fx.F p (.lst acc5) p = some (.lst acc5); exact upd_same)).1
      have hle : acc5.length < 16777216 := by
        have h1 := hpre (i + 1)
        rw [take_snoc hlt, List.flatMap_append, List.length_append] at h1
        simp only [List.flatMap_cons, List.flatMap_nil, List.append_nil, List.length_map] at h1
        rw [hacc5.length, List.length_append, List.length_map, List.length_take]
        omega
      refine ⟨acc5, hpin, sz_lt hle, as7, G7, acc5 ++ [z], ?_, e45.trans (e56.trans e67), p45.trans hs7.a0, ?_⟩
      · rw [take_snoc hltn, List.map_append, ← List.append_assoc]
        exact (hacc5.mono (e56.trans e67)).append (.one o7)
      · have hh := g7.hs.held (o := .lst acc5) (o' := .lst (acc5 ++ [z])) (by show upd fx.F p (.lst acc5) p = some (.lst acc5); exact upd_same)
        rw [upd_upd] at hh
        exact ⟨hh, g7.len, g7.env⟩
    · have e : n = (ys xs[i]).length := by omega
      refine .inl ⟨W1.stop n _ _ _ _ _ (by omega) hok1 p45 e45 g5.hs, as5, G5, acc5, ?_, g5⟩
      rw [e, List.take_length] at hacc5
      rw [take_snoc hlt, List.flatMap_append]
      simpa using hacc5
  · have e : i = xs.length := by omega
    subst e
    refine .inl ⟨W.stop _ _ _ _ _ _ (Nat.le_refl _) hok g2.hs.a0 g2.hs.g0 g2.hs, ?_⟩
    rw [List.take_length] at hacc
    obtain ⟨u1, u2, u3, u4⟩ := g2.hs.unhold hFp
    have u5 : Hs fx M1 as2 G2 H' := g1.hs.back u1
    have hl : as2.length = M1.length := u5.len
    refine q _ (as2 ++ [p]) G2 H' (u5.back (u5.tocell hFp u2 u3 u4 (C := cLs _) ⟨acc, rfl, hacc⟩)) ⟨p, ?_, rfl⟩
    rw [← hl, List.getElem?_append_right (Nat.le_refl _), Nat.sub_self] <;> rfl
/-- (*t, x): a star in a display -/
theorem ea_star {tr : TA} {ss : List Sl} {Ps : List VP} {M2 : List (Option CP)} (h : EV M Γ te M1 (.d (vQs Ps))) (hr : EA M1 Γ tr M2 ss) : EA M Γ (StX.tStar K te tr) M2 (Ps.map Sl.d ++ ss) := fun fx as G σ H g Q q => by
  refine h (fx.at G as) as G σ H ⟨g.hs.re, g.len, g.env⟩ _ fun x as1 G1 H1 h1 ⟨a, vs, e1, e2, e3, e4⟩ => ?_
  have g1 := g.lift h1
  refine ⟨a, vs, e1, ?_, ?_⟩
  · exact (e2.imp (fun e => SqL.of (h1.ex _ _ e)) fun e => SqT.of (h1.ex _ _ e)).symm
  refine hr (fx.at G1 as1) as1 G1 σ H1 ⟨g1.hs.re, g1.len, g1.env⟩ _ fun ws as2 G2 H2 h2 o2 => ?_
  refine q _ as2 G2 H2 (g1.lift h2).hs ?_
  have : ∀ {Ps : List VP} {vs : List V}, Vs G2 Ps vs → Slots as2 G2 (Ps.map Sl.d ++ ss) (vs ++ ws) := by
    intro Ps vs h
    induction h with
    | nil => exact o2
    | cons a _ ih => exact .cons a ih
  exact this (e4.mono h2.g0)
theorem alld_map {ss : List Sl} {Ps Qs : List VP} (h : AllD ss Qs) : AllD (Ps.map Sl.d ++ ss) (Ps ++ Qs) := by
  induction Ps with
  | nil => exact h
  | cons P Ps ih => exact .cons ih
end
end PL

namespace L2
open PySem PySem.Spec PyProof.Rows
section
variable {X : Cx}
/-- any of a list of data -/
def rAnyD (K : PySem.W.Frag) : List V → Hp → VK → Prop := fun vs H Q => ∃ (a : Addr) (ws : List V) (ds : List PyData), vs = [V.ref a] ∧ SqL K H a ws ∧ DpAll K H ws ds ∧ PyData.plainAll ds = true ∧ (∀ x ∈ ds, x.fits63) ∧ Q (.bl (ds.any PyData.truthy)) H
theorem cr_anyD (hc : X.calm = true) : CallR X (.builtin "any") (rAnyD X.K) := by
  intro pins s σ H vs us Q I r ⟨a, ws, ds, e, hs, hd, hp, hf, q⟩
  subst e
  rw [Vals.ref1 r]
  obtain ⟨l1, z1⟩ := Dp.reads I (.list ds) (V.ref a) (Value.ref a) (Dp.lst hs hd) rfl
  cases z1 with
  | @list a o us n xs as₁ h1 h2 h3 h4 =>
    refine PySem.W.any_list_data (I.ok.hd hc) ⟨o, h1, h2, n, h3⟩ h4 hp hf fun h' tk hk => ?_
    exact ⟨.bl _, H, I.kept hk, rfl, q⟩
end
end L2
namespace PL
open PySem L2
section
variable {K : PySem.W.Frag} {fx fx' : Fx} {M M1 M2 M' : List (Option CP)} {Γ Γ1 Γ2 : List Sl} {te ta tb : TE} {i j j1 k : Nat} {P Q P1 P2 : VP} {g g1 g2 : TG} {wi : TI} {E : XK}
theorem call_anyD' {X : Cx} (K : PySem.W.Frag) (hc : X.calm = true := by rfl) (hK : X.K = K := by rfl) : CallR X (.builtin "any") (rAnyD K) := by subst hK; exact cr_anyD hc
theorem plain_ints : ∀ ns : List Int, PyData.plainAll (ns.map PyData.int) = true
  | [] => rfl
  | n :: ns => by
    show PyData.plainAll (.int n :: ns.map PyData.int) = true
    rw [PyData.plainAll, plain_ints ns] <;> rfl
theorem plain_lists : ∀ xs : List (List Int), PyData.plainAll (xs.map fun ns => PyData.list (ns.map PyData.int)) = true
  | [] => rfl
  | n :: ns => by
    show PyData.plainAll (.list (n.map PyData.int) :: ns.map fun ns => PyData.list (ns.map PyData.int)) = true
    rw [PyData.plainAll, plain_lists ns, PyData.plain, plain_ints] <;> rfl
theorem vs_lens {G : Hp} : ∀ {xss : List (List Int)} {ws : List V}, Vs G (xss.map fun ns => vLs (vIs ns)) ws → ∀ ns ∈ xss, ns.length ≤ 16777216
  | [], _, _, ns, h => by cases h
  | x :: xss, _, .cons o1 o2, ns, h => by
    rcases List.mem_cons.mp h with h | h
    · subst h
      obtain ⟨a, vs, e1, e2, e3, e4⟩ := o1
      rw [List.length_map] at e3
      exact e3
    · exact vs_lens o2 ns h
theorem cb_anyD {xss : List (List Int)} : CBV M (rAnyD K) [.d (vLs (xss.map fun ns => vLs (vIs ns)))] M (.d (vV (.bl (xss.any fun ns => !ns.isEmpty)))) := fun fx as G H xs h o Q q => by
  cases o with
  | cons o1 o2 =>
    cases o2
    obtain ⟨a, vs, rfl, e2, e3, e4⟩ := o1
    refine ⟨a, vs, xss.map fun ns => .list (ns.map PyData.int), rfl, SqL.of (h.ex _ _ e2), (Dts.map (fun ns => dt_L (Dts.map (fun i => dt_int) ns)) xss).all h.ex e4, plain_lists xss, fun d hd => ?_, ?_⟩
    · obtain ⟨ns, hn, e⟩ := List.mem_map.mp hd
      subst e
      have := vs_lens e4 ns hn
      show ((ns.map PyData.int).length : Int) < 2 ^ 63
      rw [List.length_map]; omega
    · have e : (xss.map fun ns => PyData.list (ns.map PyData.int)).any PyData.truthy = xss.any fun ns => !ns.isEmpty := by
        rw [List.any_map]
        congr 1
        funext ns
        show (!(ns.map PyData.int).isEmpty) = _
        rw [List.isEmpty_map] <;> rfl
      rw [e]
      exact q _ as G H h rfl
/-! ### zip of two tuples -/
theorem walks_zT {a b : Addr} {us vs : List V} {Ps Qs : List VP} {G1 : Hp} (h1 : G1 a = some (.tup us)) (h2 : Vs G1 Ps us) (h3 : G1 b = some (.tup vs)) (h4 : Vs G1 Qs vs) {as1 : List Addr} :
    Walks (RZ.ItzT K a b) G1 as1 (fun _ => True) (min Ps.length Qs.length) (fun i => vTs [Pat Ps i, Pat Qs i]) where
  go := fun i fx M as G H hi _ _ e h => by
    obtain ⟨u, hu, pu⟩ := h2.get (pat_get (by omega : i < Ps.length))
    obtain ⟨v, hv, pv⟩ := h4.get (pat_get (by omega : i < Qs.length))
    have hA := h.ex _ _ (e _ _ h1)
    have hB := h.ex _ _ (e _ _ h3)
    refine ⟨⟨us, vs, u, v, SqT.of hA, SqT.of hB, hu, hv⟩, fun x H' ⟨T, x1, y1, e1, e2, e3, e4, e5⟩ => ?_⟩
    subst e1 e3
    have ex : u = x1 := by have := e4 us (SqT.of hA); rw [hu] at this; exact Option.some.inj this
    have ey : v = y1 := by have := e5 vs (SqT.of hB); rw [hv] at this; exact Option.some.inj this
    subst ex ey
    have gT : G T = none := by
      cases z : G T with
      | none => rfl
      | some o => have := h.ex _ _ z; rw [e2] at this; cases this
    exact ⟨_, h.re.back (h.data e2), T, [u, v], rfl, upd_same, Nat.le_of_ble_eq_true rfl, .cons ((Pat Ps i).mono (e.trans (Ex.new gT)) pu) (.cons ((Pat Qs i).mono (e.trans (Ex.new gT)) pv) .nil)⟩
  stop := fun i fx M as G H hi _ _ e h => ⟨us, vs, SqT.of (h.ex _ _ (e _ _ h1)), SqT.of (h.ex _ _ (e _ _ h3)), by rw [h2.length, h4.length]; omega⟩
theorem src_zip {α β : Type} {xs : List α} {ys : List β} {R : α → VP} {S : β → VP} (h : EA M Γ tr M1 [.d (vTs (xs.map R)), .d (vTs (ys.map S))]) :
    Src M Γ (RZ.iZipA K tr) M1 (xs.zip ys).length (Pat ((xs.zip ys).map fun p => vTs [R p.1, S p.2])) := fun fx as G σ H g Rr q =>
  h fx as G σ H g _ fun ws as1 G1 H1 h1 o => by
    cases o with
    | cons o1 o2 =>
      cases o2 with
      | cons o2 o3 =>
        cases o3
        obtain ⟨a, us, rfl, e2, e3, e4⟩ := o1
        obtain ⟨b, vs, rfl, d2, d3, d4⟩ := o2
        have e : (fun i => vTs [Pat (xs.map R) i, Pat (ys.map S) i]) = fun i => vTs [Pat (xs.map R) i, Pat (ys.map S) i] := rfl
        refine ⟨a, b, us, vs, rfl, .inr ⟨SqT.of (h1.ex _ _ e2), SqT.of (h1.ex _ _ d2), q _ as1 G1 H1 h1 ?_⟩⟩
        have W := walks_zT (K := K) (as1 := as1) e2 e4 d2 d4
        rw [List.length_map, List.length_map] at W
        have hl : (xs.zip ys).length = min xs.length ys.length := List.length_zip
        rw [hl]
        have hp : ∀ i, i < min xs.length ys.length → Pat ((xs.zip ys).map fun p => vTs [R p.1, S p.2]) i = vTs [Pat (xs.map R) i, Pat (ys.map S) i] := fun i hi => by
          rw [pat_map (by rw [hl]; exact hi), pat_map (by omega), pat_map (by omega), List.getElem_zip]
        exact ⟨fun i fx M as G H hi k1 k2 k3 k4 => by
          obtain ⟨z1, z2⟩ := W.go i fx M as G H hi k1 k2 k3 k4
          rw [hp i hi]
          exact ⟨z1, z2⟩, W.stop⟩
/-- [e for a, b in ..] -/
theorem ev_lcP {α β : Type} {xs : List (α × β)} {R : α → VP} {S : β → VP} {F : α × β → VP} {okM : List (Option CP) → Prop} (hsrc : SrcM M Γ wi M1 okM xs.length (Pat (xs.map fun p => vTs [R p.1, S p.2]))) (hz : xs.length ≤ 16777215)
    (he : ∀ x ∈ xs, EV M1 ((((Γ.set j .u).set i .u).set i (.d (R x.1))).set j (.d (S x.2))) te M1 (.d (F x))) (hM : M.length ≤ M1.length := by exact Nat.le_refl _) (hok : okM M1 := by trivial) :
    EV M Γ (tLc wi (gTup K 2 (gCons (gName i) (gCons (gName j) gNil))) tYes te [i, j]) M1 (.d (vLs (xs.map F))) := by
  have h := ev_lcX (bt := fun _ => true) (te := te) (tt := tYes) (vs := [i, j]) (g := gTup K 2 (gCons (gName i) (gCons (gName j) gNil))) (F := F) (fun x => (((Γ.set j .u).set i .u).set i (.d (R x.1))).set j (.d (S x.2))) hsrc hz
    (fun x _ => ⟨[i] ++ [j], gt_tup2 gt_name gt_name, fun _ h => h⟩) (fun x _ => et_yes) (fun x hx _ => he x hx) hM hok
  rwa [List.filter_eq_self.mpr (fun _ _ => rfl)] at h
end
end PL

namespace L2
open PySem PySem.Spec PyProof.Rows
section
variable {X : Cx}
/-- a local name gets a dict by {k: v for ..} -/
theorem ps_setDc {n : Nat} {nm : Str} {at1 : Pos} {ke ve tge ite : Expr} {cnd : List Expr} {sco : Scope} {ow : List (Str × Nat)} {p1 p2 : Pos} {src : TI} {tgt : TG} {cT : TT} {kT vT : TE} (calm : X.calm = true) (nd : X.N.Nodup) (hn : X.N[n]? = some nm) (loc : X.env.scope.names.lookup nm = some .local)
    (sw : swapsWith (.DictComp ke ve [⟨tge, ite, cnd, 0⟩] sco p1) (some (.Name nm at1)) p2.line X.env = pure true) (hsrc : PI X tge ite src) (bk : BlkOk X.N X.env.scope sco ow)
    (a1 : ∀ (u : Shared) (G : Hp) (c : Addr) (l : List (Str × Addr)) (q : List Addr), PG (X.blk u G sco (compEnvC sco l c X.env) q) tge tgt) (a2 : ∀ (u : Shared) (G : Hp) (c : Addr) (l : List (Str × Addr)) (q : List Addr), PTs (X.blk u G sco (compEnvC sco l c X.env) q) cnd cT)
    (a3 : ∀ (u : Shared) (G : Hp) (c : Addr) (l : List (Str × Addr)) (q : List Addr), PE (X.blk u G sco (compEnvC sco l c X.env) q) ke kT)
    (a4 : ∀ (u : Shared) (G : Hp) (c : Addr) (l : List (Str × Addr)) (q : List Addr), PE (X.blk u G sco (compEnvC sco l c X.env) q) ve vT) (fo : ∀ z, foldedSetIterable ite X.env z = pure z := by intro _; rfl) :
    PS X (.Assign [.Name nm at1] (.DictComp ke ve [⟨tge, ite, cnd, 0⟩] sco p1) p2) (tAsg (tDc src tgt cT kT vT (ow.map (·.2))) (gName n)) := by
  constructor
  intro pn u τ G D I h
  rw [exec_Assign_Name_used _ _ _ _ sw]
  apply wpAny_bind
  apply wpAny_standAt
  apply wpAny_bind
  show wpAny _ X.A (do let _ ← comprehension (.DictComp ke ve [⟨tge, ite, cnd, 0⟩] sco p1) sco X.env (firstIterPos [⟨tge, ite, cnd, 0⟩] p1) newDict false (eval ite X.env) (some (assign (.Name nm at1) X.env))) _ _ u
  have h2 : tDc src tgt cT kT vT (ow.map (·.2)) τ G (fun x G1 => gName n x τ G1 D.nx) := h
  apply wpAny_bind
  refine thn (dc_core (Qf := fun _ u' => SP X pn D .next u') calm nd I hsrc bk a1 a2 a3 a4 fo h2 fun L c u' m G' I' q hm fp => ?_) fun _ u' hq => wpAny_pure (wpAny_pure hq)
  show wpAny _ _ (assign (.Name nm at1) X.env (.ref L)) _ _ _
  apply wpAny_assign_Name
  refine store_ok2 (v := V.ref L) I' nd hn (.inl loc) rfl (fun u2 I2 ⟨a, sb, ha⟩ => ?_) (.inr loc)
  obtain ⟨g0, g1, g2, g3, g4, g5⟩ := fp
  have ne : c ≠ a := by
    cases ha with
    | inl z => rw [z]; exact g1
    | inr z => exact fun e => g4 nm a z e.symm
  exact ⟨m, hm.sameBut sb ne, fun u3 sb3 => ⟨_, G', I2.turned (t' := u2.toks) (fun b o hb e => (sb3.2 b hb).trans e) g0 g1 g3 g4 g5, q⟩⟩
theorem sw_dict {ke ve : Expr} {gs : List Comprehension} {sco : Scope} {p1 p2 : Pos} {nm : Str} {l : Nat} {env : Env} (hk : env.scope.kind = .function) (hy : env.scope.names.lookup nm = some .local) (hl : (p2.line == p1.line) = true)
    (ha : (sco.names.any fun (n, k) => n == nm && (k == .local || k == .cell)) = false) : swapsWith (.DictComp ke ve gs sco p1) (some (.Name nm p2)) l env = pure true := by
  have e1 : env.kindOf nm = some .local := hy
  have e2 : env.blockKind = .function := by unfold Env.blockKind; rw [hk] <;> rfl
  unfold swapsWith
  simp only [e1, e2, ha, Expr.pos, hl]
  rfl
end
end L2
namespace PL
open PySem L2
/-! ### a class of the text: what makes it, what its operators do -/
def HasNew (P : Program) (w : World) (K : PySem.W.Frag) (mg : Str → Option Value) (base : Heap) (x : Str) (C : Addr) (ps : List Str) (lv : Nat) (c : Con) : Prop :=
  ∃ (f : Addr) (fd : FuncData), Mk K C f ∧ FnOk P w K mg base CX0 lv f fd ps (spC c) ∧ mg x = some (.ref C) ∧ Binds K fd ps []
def HasOp (P : Program) (w : World) (K : PySem.W.Frag) (mg : Str → Option Value) (base : Heap) (m : Str) (C : Addr) (ps : List Str) (lv : Nat) (c : Con) : Prop :=
  ∃ (f : Addr) (fd : FuncData), PySem.W.findIn K (.ref C) m = some (some (.ref f)) ∧ PySem.W.isFn K (.ref f) = true ∧ PySem.W.notFirst K C (.ref C) = true ∧ FnOk P w K mg base CX0 lv f fd ps (spC c) ∧ Binds K fd ps []
section
variable {X : Cx} {x : Str} {ps : List Str} {lv k : Nat} {c : Con} {e : Expr} {es : List Expr} {t : TA} {p pos : Pos} {C : Addr}
theorem pe_new (h : HasNew X.prog X.w X.K X.mg X.base x C ps lv c) (hr : Room k X.A) (hl : lv + 1 ≤ k) (hg : Gl X x) (ha : PA X (e :: es) t) (hdb : (x == ("__debug__" : Str)) = false := by decide)
    (he : starEach (e :: es) X.env = (false, eval e X.env) :: starEach es X.env := by rfl) (hpl : (backTo pos (starEach es X.env)).any (·.1) = false := by rfl) : PE X (.Call (.Name x p) (e :: es) [] pos) (tMake C (spC c) [] E0 t) := by
  obtain ⟨f, fd, h1, h2, h3, h4⟩ := h
  exact pe_make h1 h2 (hr.mono hl) hg h3 h4 .nil pass0 ha hdb he hpl
theorem op_le' (h : HasOp X.prog X.w X.K X.mg X.base "__le__" C ps lv c) (hr : Room k X.A) (hl : lv ≤ k) : OpR X (compareOp .LtE) (rOwnC C (spC c)) := by
  obtain ⟨f, fd, h1, h2, h3, h4, h5⟩ := h
  exact op_ownC (fun _ _ => rfl) h1 h2 h3 h4 (hr.mono hl) h5
end
section
variable {K : PySem.W.Frag} {fx fx' : Fx} {M M1 M2 M' : List (Option CP)} {Γ Γ1 Γ2 : List Sl} {te ta tb : TE} {i j j1 k : Nat} {P Q P1 P2 : VP} {g g1 g2 : TG} {wi : TI} {E : XK} {C : Addr} {D : Ends} {tt : TT} {tz : TS} {b : Bool} {tr : TA} {ss : List Sl} {s : Sl} {x y : Bool}
theorem opv_isB : OPV M rIsB (.d (vV (.bl x))) (.d (vV (.bl y))) M (.d (vV (.bl (decide (x = y))))) := fun fx as G H u v h h1 h2 Q q => ⟨x, y, h1, h2, q _ as G H h rfl⟩
theorem opv_notB : OPV M rNotB (.d (vV (.bl x))) (.d (vV (.bl y))) M (.d (vV (.bl (!decide (x = y))))) := fun fx as G H u v h h1 h2 Q q => ⟨x, y, h1, h2, q _ as G H h rfl⟩
theorem q_never (h : ET M Γ tt M' false) (q : KV fx M' Γ (tz D)) : KV fx M Γ (tSeq (tIfS tt tNever tNext) tz D) := q_when h (fun c => by cases c) fun _ => q
theorem ev_new {sp : Sp} (ha : EA M Γ tr M1 ss) (hc : CBV M1 (fun vs H Q => ∀ x dx, H x = none → H dx = none → dx ≠ x → sp (.ref x :: (vs ++ [])) (upd (upd H dx (.own x)) x (.ins C dx [])) (fun v H2 => v = .non ∧ Q (.ref x) H2) E) ss M2 s) : EV M Γ (tMake C sp [] E tr) M2 s := ev_cb (r := fun vs H Q => ∀ x dx, H x = none → H dx = none → dx ≠ x → sp (.ref x :: (vs ++ [])) (upd (upd H dx (.own x)) x (.ins C dx [])) (fun v H2 => v = .non ∧ Q (.ref x) H2) E) ha hc
end
/-! ### combinations, the last side first -/
theorem combos_snoc (s : List Int) : ∀ l : List (List Int), combos (l ++ [s]) = (combos l).flatMap fun r => s.map fun x => r ++ [x]
  | [] => by
    show (s.flatMap fun x => (combos []).map (x :: ·)) = _
    simp [combos]
    induction s with
    | nil => rfl
    | cons a s ih => simp [ih]
  | a :: l => by
    show (a.flatMap fun x => (combos (l ++ [s])).map (x :: ·)) = (a.flatMap fun x => (combos l).map (x :: ·)).flatMap fun r => s.map fun x => r ++ [x]
    rw [combos_snoc s l, List.flatMap_assoc]
    congr 1
    funext x
    rw [List.map_flatMap, List.flatMap_map]
    congr 1
    funext r
    rw [List.map_map] <;> rfl
theorem combos_empty : ∀ {l : List (List Int)}, [] ∈ l → combos l = []
  | a :: l, h => by
    show (a.flatMap fun x => (combos l).map (x :: ·)) = []
    rcases List.mem_cons.mp h with h | h
    · subst h; rfl
    · rw [combos_empty h]; simp
theorem prodP_le : ∀ {l m : List (List Int)}, l.length = m.length → (∀ (i : Nat) (a b : List Int), l[i]? = some a → m[i]? = some b → a.length ≤ b.length) → prodP l ≤ prodP m
  | [], [], _, _ => Nat.le_refl _
  | a :: l, b :: m, hl, h => by
    have h0 := h 0 a b rfl rfl
    have ih := prodP_le (l := l) (m := m) (by simpa using hl) fun i => h (i + 1)
    refine Nat.mul_le_mul ?_ ih
    show max 1 a.length ≤ max 1 b.length
    omega
theorem prodP_clean (l : List (List Int)) : prodP (l.map clean) ≤ prodP l := prodP_le (by simp) fun i a b h1 h2 => by
  rw [List.getElem?_map, h2] at h1
  cases h1
  exact clean_len b
theorem prodP_take (l : List (List Int)) (n : Nat) : prodP (l.take n) ≤ prodP l := by
  induction l generalizing n with
  | nil => simp
  | cons a l ih =>
    cases n with
    | zero => exact prodP_pos _
    | succ n => exact Nat.mul_le_mul (Nat.le_refl _) (ih n)
/-! ### what the program's defs promise -/
def cIsInt : Con where
  ι := Int
  pre _ := True
  cin _ := []
  args n := [.d (vV (.int n))]
  cout _ := []
  ret _ := .d (vV (.bl true))
def cIsNat : Con where
  ι := Int
  pre _ := True
  cin _ := []
  args n := [.d (vV (.int n))]
  cout _ := []
  ret n := .d (vV (.bl (decide (0 ≤ n))))
def cEvery : Con where
  ι := List (List Int)
  pre x := x.length ≤ 1000 ∧ prodP x ≤ 1000000
  cin _ := []
  args x := [.d (vTs (x.map vRow))]
  cout _ := []
  ret x := .d (vTs ((combos x).map vRow))
def cTidy : Con where
  ι := List Int
  pre x := x.length ≤ 10000 ∧ ∀ n ∈ x, 0 ≤ n
  cin _ := []
  args x := [.d (vQs (vIs x))]
  cout _ := []
  ret x := .d (vRow (clean x))
def cMissing : Con where
  ι := List Int × List Int
  pre x := x.1.length ≤ 10000 ∧ x.2.length < 4095
  cin _ := []
  args x := [.d (vRow x.1), .d (vRow x.2)]
  cout _ := []
  ret x := .d (vLs (vIs (x.1.filter fun n => !decide (n ∈ x.2))))
def boxF (sides : List (List Int)) : List (Str × VP) := [("sides", vTs (sides.map vRow)), ("members", vTs ((combos sides).map vRow))]
def vBox (C : Addr) (sides : List (List Int)) : VP := vIns C (boxF sides)
def cInit (C : Addr) : Con where
  ι := List (List Int)
  pre x := x ≠ [] ∧ x.length ≤ 1000 ∧ prodP x ≤ 1000000 ∧ ∀ s ∈ x, s.length ≤ 1000 ∧ ∀ n ∈ s, 0 ≤ n
  cin _ := [cIns C []]
  args x := [.c 0, .d (vQs (x.map fun s => vQs (vIs s)))]
  cout x := [cIns C (boxF (x.map clean))]
  ret _ := .d (vV .non)
def cLe (C : Addr) : Con where
  ι := List (List Int) × List (List Int)
  pre x := x.1.length = x.2.length ∧ x.1.length ≤ 1000 ∧ (∀ s ∈ x.1, s.length ≤ 1000) ∧ ∀ s ∈ x.2, s.length ≤ 1000
  cin _ := []
  args x := [.d (vBox C x.1), .d (vBox C x.2)]
  cout _ := []
  ret x := .d (vV (.bl (decide (∀ r ∈ combos x.1, r ∈ combos x.2))))
end PL

namespace PL
open PySem L2
section
variable {K : PySem.W.Frag} {fx fx' : Fx} {M M1 M2 M' : List (Option CP)} {Γ Γ1 Γ2 : List Sl} {te ta tb : TE} {i j j1 k : Nat} {P Q P1 P2 : VP} {E : XK} {C : Addr} {D : Ends} {tt : TT} {tz tu : TS} {b : Bool} {tr : TA} {ss : List Sl} {s : Sl} {x y : Bool} {m n span : Int} {ns : List Int}
theorem sub_LQ {α : Type} {R S : α → VP} {xs : List α} (h : ∀ x, Sub (R x) (S x)) : Sub (vLs (xs.map R)) (vQs (xs.map S)) := fun G v ⟨a, vs, h1, h2, h3, h4⟩ => ⟨a, vs, h1, .inl h2, by rw [List.length_map] at *; exact h3, Vs.submap h h4⟩
theorem q_skip (h : ET M Γ tt M' false) (q : KV fx M' Γ (tz D)) : KV fx M Γ (tSeq (tIfS tt tu tNext) tz D) := q_when h (fun c => by cases c) fun _ => q
theorem k_skip (h : ET M Γ tt M' false) (q : KV fx M' Γ D.nx) : KV fx M Γ (tIfS tt tu tNext D) := k_when h (fun c => by cases c) fun _ => q
theorem cb_source : CBV M (fun vs H Q => spC cSource (vs ++ []) H Q E) [.d (vEx (fun _ : Int => True) fun r => vV (.int r))] (M ++ [some cSrc]) (.c M.length) := cb_ex 0 rfl fun z _ => by
  have h := cb_call (c := cSource) (E := E) (M1 := M) (ss := [.d (vV (.int z))]) z [] (callAt_nil trivial rfl (.cons sle_d .nil) fun s hs => ⟨_, List.mem_singleton.mp hs⟩) (Nat.zero_le _)
  exact h
theorem cb_cell (hn : 0 ≤ n) : CBV M (fun vs H Q => spC (cCell K) (vs ++ []) H Q E) [.d (vK K ns), .d (vV (.int n))] M (.d (vEx (fun _ : Int => True) fun r => vV (.int r))) := cb_pure (c := cCell K) (ns, n) hn (.cons sle_d (.cons sle_d .nil))
theorem two_cells {C1 C2 : CP} (h1 : M[j]? = some (some C1)) (h2 : M[k]? = some (some C2)) : ∀ (p q : Nat), [j, k][p]? = some q → ∃ C : CP, [C1, C2][p]? = some C ∧ M[q]? = some (some C) := fun p q e => by
  match p with
  | 0 => simp at e; subst e; exact ⟨_, rfl, h1⟩
  | 1 => simp at e; subst e; exact ⟨_, rfl, h2⟩
  | p + 2 => simp at e
theorem cb_sides (hne : j ≠ k) (h1 : M[j]? = some (some cSrc)) (h2 : M[k]? = some (some cSrc)) (hm : 0 ≤ m ∧ m ≤ 1000) (hs : 0 < span ∧ span < 1073741824) :
    CBV M (fun vs H Q => spC cDrawSides (vs ++ []) H Q E) [.c j, .c k, .d (vV (.int m)), .d (vV (.int span))] M (.d (vEx (SidesOk m span 96) vSides)) := by
  refine cb_call0 (c := cDrawSides) (m, span) [j, k] ⟨⟨hm.1, hm.2, hs.1, hs.2⟩, by simpa using hne, rfl, two_cells h1 h2, ?_, fun q hq => ?_⟩ rfl rfl
  · exact .cons sle_c (.cons sle_c (.cons sle_d (.cons sle_d .nil)))
  · have : Sl.c q ∈ [Sl.c 0, Sl.c 1, Sl.d (vV (.int m)), Sl.d (vV (.int span))] := hq
    simp at this
    show q < 2
    omega
theorem cb_near {sides : List (List Int)} (hne : j ≠ k) (h1 : M[j]? = some (some cSrc)) (h2 : M[k]? = some (some cSrc)) (hm : sides.length ≤ 1000) (ho : ∀ s ∈ sides, s.length ≤ 39 ∧ ∀ y ∈ s, 0 ≤ y) (hs : 0 < span ∧ span < 1073741824) :
    CBV M (fun vs H Q => spC cNear (vs ++ []) H Q E) [.d (vSides sides), .c j, .c k, .d (vV (.int span))] M (.d (vEx (NearOk sides.length) vSides)) := by
  refine cb_call0 (c := cNear) (sides, span) [j, k] ⟨⟨hm, ho, hs.1, hs.2⟩, by simpa using hne, rfl, two_cells h1 h2, ?_, fun q hq => ?_⟩ rfl rfl
  · exact .cons sle_d (.cons sle_c (.cons sle_c (.cons sle_d .nil)))
  · have : Sl.c q ∈ [Sl.d (vSides sides), Sl.c 0, Sl.c 1, Sl.d (vV (.int span))] := hq
    simp at this
    show q < 2
    omega
end
def cLaw (K : PySem.W.Frag) : Con where
  ι := List Int
  pre _ := True
  cin _ := []
  args x := [.d (vK K x)]
  cout _ := []
  ret _ := .d (vV (.bl true))
def spLaw (K : PySem.W.Frag) : Sp := fun vs H Q _ => ∃ (a : Addr) (ns : List Int), vs = [.ref a] ∧ SqL K H a (ns.map V.int) ∧ ns.length ≤ 63 ∧ ∀ H', Q (.bl true) H'
theorem law_sp {K : PySem.W.Frag} (vs : List V) (H : Hp) (Q : VK) (E : XK) (h : spLaw K vs H Q E) : spC (cLaw K) vs H Q E := by
  obtain ⟨a, ns, e1, e2, e3, q⟩ := h
  subst e1
  refine ⟨ns, fun _ => none, [], H, trivial, ⟨Ex.refl _, Ex.refl _, List.prefix_refl _, (fun a o e => by cases e), rfl, List.nodup_nil, (fun a ha => by cases ha), (fun j a C' ha => by cases ha)⟩, .cons ⟨a, rfl, e2, e3⟩ .nil, fun v as G H' _ o => ?_⟩
  obtain rfl : v = .bl true := o
  exact q H'
/-- what is drawn first -/
def FirstOk (s : List (List Int)) : Prop := 1 ≤ s.length ∧ s.length ≤ 8 ∧ prodP s ≤ 96 ∧ ∀ t ∈ s, t.length ≤ 39 ∧ ∀ x ∈ t, 0 ≤ x
end PL

namespace L2
open PySem PySem.Spec PyProof.Rows
/-- at it an iterator over the tuple at t, i items behind it -/
def TiO (t it : Addr) (i : Nat) : HO := .ext fun h => h.IsTupleIter it t i
/-- at it some thing -/
def AnO (it : Addr) : HO := .ext fun h => ∃ o, h.get? it = some o
section
variable {prog : Program} {w : World} {A : Around} {E : Value → Shared → Prop} {s : Shared} {H : Hp} {h : Heap} {it t : Addr} {i : Nat}
theorem tiO_ok (e : h.IsTupleIter it t i) : ObjOk prog w H h it (TiO t it i) := ⟨e, let ⟨o, ho, _⟩ := e; ⟨o, ho⟩, fun _ _ q k => let ⟨o, ho, r⟩ := q; ⟨o, k o ho, r⟩⟩
theorem anO_ok (e : ∃ o, h.get? it = some o) : ObjOk prog w H h it (AnO it) := ⟨e, e, fun _ _ q k => let ⟨o, ho⟩ := q; ⟨o, k o ho⟩⟩
/-- the last turn; the iterator still stands -/
theorem next_last {items : Array Value} {Q : Option Value → Shared → Prop} (calm : A.handled = none) (hi : s.heap.IsTupleIter it t i) (ht : s.heap.IsTuple t items) (hx : items[i]? = none)
    (q : ∀ h' : Heap, (∀ b o, b ≠ it → s.heap.get? b = some o → h'.get? b = some o) → (∃ o, h'.get? it = some o) → Q none { s with heap := h' }) : wpAny (model prog w) A (pyNext (.ref it)) Q E s := by
  obtain ⟨oi, g1, g2, g3⟩ := id hi
  obtain ⟨ot, t1, _, nt, t2⟩ := ht
  have slot := PySem.F.slot_tuple_iterator_next
  unfold pyNext
  apply wpAny_bind; apply wpAny_attempt
  refine wpAny_callSpecial?_slot (name := Str.ofString "__next__") hi.typeIs slot (wpAny_call_entry slot hi.typeIs PySem.F.entry_tuple_iterator_next ?_ (PySem.F.args_tuple_iterator_next_1 _))
  show wpAny _ _ (field (.ref it) 0 >>= _) _ _ s
  apply wpAny_bind; apply wpAny_field (x := .ref t) g1 g3 rfl
  have nn : ¬ ((Value.ref t == Value.none) = true) := Bool.false_ne_true
  show wpAny _ _ (ite ((Value.ref t == Value.none) = true) _ _) _ _ s
  rw [if_neg nn]
  show wpAny _ _ (field (.ref it) 1 >>= _) _ _ s
  apply wpAny_bind; apply wpAny_field (x := .int i 0) g1 g3 rfl
  show wpAny _ _ (seqItems? (.ref t) >>= _) _ _ s
  apply wpAny_bind; apply wpAny_seqItems t1 t2
  simp only [hx, Int.toNat_natCast]
  apply wpAny_bind; apply wpAny_rule; apply wpAny_bind
  refine wpAny_setField g1 g3 (by simp) ?_
  have up := Heap.get?_update_self (Obj.mapFields (·.setIfInBounds 0 Value.none)) g1 (Obj.isFreed_of_fields (Obj.data_mapFields g3 _))
  show wpAny _ _ (newExc (.type "StopIteration") [] >>= _) _ _ _
  apply wpAny_bind
  simp only [newTuple, newExc]
  apply wpAny_bind
  refine wpAny_newObj_type ?_ (by size_fits)
  refine wpAny_bind (m := firstArgMember _ _) (wpAny_of_eq (a := Value.none) (by first | rfl | (simp only [firstArgMember]; rfl)) ?_)
  refine wpAny_newObj_type ?_ (by size_fits)
  simp only [raiseNew]
  apply wpAny_bind; apply wpAny_handled
  first | rw [show A.in1.handled = none from calm] | rw [calm]
  have stop : ∀ {M : Model} {A : Around} {E : Value → Shared → Prop} {s : Shared} {a : Addr} {Q : Bool → Shared → Prop}, s.TypeIs (.ref a) "StopIteration" → Q true s → wpAny M A (isInstance (.ref a) (.type "StopIteration")) Q E s := fun h1 h2 => wpAny_isInstance h1 PySem.isSubtype_stop h2
  refine wpAny_bind (wpAny_pure (wpAny_throw (wpAny_bind (stop ⟨_, Heap.get?_push_size _ rfl, rfl⟩ ?_))))
  refine wpAny_pure (q _ (fun b o hb e => ?_) ⟨_, Heap.get?_push_of_some _ (Heap.get?_push_of_some _ up)⟩)
  exact Heap.get?_push_of_some _ (Heap.get?_push_of_some _ ((Heap.get?_update_other _ _ (Ne.symm hb)).trans e))
end
section
variable {X : Cx} {pins : List (Addr × Obj)} {σ : St} {H : Hp} {s : Shared} {it t q : Addr} {vs : List V} {A1 : Around}
/-- the rest of the tuple is put behind the list at q -/
theorem ti_loop {Rs : Result → Shared → Prop} {H0 : Hp} (hc : A1.handled = none) (nq : q ≠ it) (nt : t ≠ it) (nqt : q ≠ t) (hv : vs.length ≤ sizeLine) (hdone : ∀ s, Inv X pins σ (upd (upd H0 it (AnO it)) q (.lst vs)) s → Rs (.ok (.ret .none)) s) (ht : H0 t = some (.tup vs)) :
    ∀ (k i : Nat) (s : Shared), vs.length - i = k → i ≤ vs.length → Inv X pins σ (upd (upd H0 it (TiO t it i)) q (.lst (vs.take i))) s → codeAny (model X.prog X.w) A1 (.builtin "list.extend.loop" ⟨[.ref q, .ref it, .none], []⟩) Rs s := by
  intro k
  induction k with
  | zero =>
    intro i s hk hi I
    have e : i = vs.length := by omega
    subst e
    have gi : upd (upd H0 it (TiO t it vs.length)) q (.lst (vs.take vs.length)) it = some (TiO t it vs.length) := by rw [upd_ne (Ne.symm nq), upd_same]
    have gt : upd (upd H0 it (TiO t it vs.length)) q (.lst (vs.take vs.length)) t = some (.tup vs) := by rw [upd_ne (Ne.symm nqt), upd_ne nt]; exact ht
    obtain ⟨its, rv, p, _⟩ := I.tuple (SqT.of gt)
    have hl := rv.length
    refine codeAny_builtin PySem.F.entry_extend_loop ?_
    rw [Around.under_plainId PySem.F.plain_extend_loop _]
    show wpAny _ A1.in1 (pyNext (.ref it) >>= _) _ _ s
    apply wpAny_bind
    refine next_last hc (I.hok it _ gi).1 (show s.heap.IsTuple t its.toArray from p) (by simp; omega) fun h' k1 k2 => ?_
    refine wpAny_pure (hdone _ ?_)
    have J := I.write (x := it) (e := it) (o := AnO it) (t' := s.toks) (by rw [gi]; exact trivial) (.inl rfl) (fun b u hb e => k1 b u hb e) k2 (anO_ok k2)
    have e1 : upd (upd (upd H0 it (TiO t it vs.length)) q (.lst (vs.take vs.length))) it (AnO it) = upd (upd H0 it (AnO it)) q (.lst vs) := by
      funext b
      by_cases h1 : b = it
      · subst h1; rw [upd_same, upd_ne (Ne.symm nq), upd_same]
      · rw [upd_ne h1]
        by_cases h2 : b = q
        · subst h2; rw [upd_same, upd_same, List.take_length]
        · rw [upd_ne h2, upd_ne h2, upd_ne h1, upd_ne h1]
    rw [e1] at J
    exact J
  | succ k ih =>
    intro i s hk hi I
    have hlt : i < vs.length := by omega
    have gi : upd (upd H0 it (TiO t it i)) q (.lst (vs.take i)) it = some (TiO t it i) := by rw [upd_ne (Ne.symm nq), upd_same]
    have gt : upd (upd H0 it (TiO t it i)) q (.lst (vs.take i)) t = some (.tup vs) := by rw [upd_ne (Ne.symm nqt), upd_ne nt]; exact ht
    obtain ⟨its, rv, p, _⟩ := I.tuple (SqT.of gt)
    obtain ⟨u, hu, ru⟩ := rv.get (List.getElem?_eq_getElem hlt)
    refine codeAny_builtin PySem.F.entry_extend_loop ?_
    rw [Around.under_plainId PySem.F.plain_extend_loop _]
    show wpAny _ A1.in1 (pyNext (.ref it) >>= _) _ _ s
    apply wpAny_bind
    refine wpAny_pyNext_tuple_item (I.hok it _ gi).1 (show s.heap.IsTuple t its.toArray from p) (x := u) (by simpa using hu) fun h' hit' sb => ?_
    have J := I.write (x := it) (e := it) (o := TiO t it (i + 1)) (h' := h') (t' := s.toks) (by rw [gi]; exact trivial) (.inl rfl) (fun b z hb e => (sb.2 b hb).trans e) (let ⟨o, ho, _⟩ := hit'; ⟨o, ho⟩) (tiO_ok hit')
    have e1 : upd (upd (upd H0 it (TiO t it i)) q (.lst (vs.take i))) it (TiO t it (i + 1)) = upd (upd H0 it (TiO t it (i + 1))) q (.lst (vs.take i)) := by
      funext b
      by_cases h1 : b = it
      · subst h1; rw [upd_same, upd_ne (Ne.symm nq), upd_same]
      · rw [upd_ne h1]
        by_cases h2 : b = q
        · subst h2; rw [upd_same, upd_same]
        · rw [upd_ne h2, upd_ne h2, upd_ne h1, upd_ne h1]
    rw [e1] at J
    show wpAny _ A1.in1 (updateSeq q (·.push u) >>= _) _ _ _
    obtain ⟨z, iq, kq, rq, hlq, eq⟩ := J.lstM upd_same
    have hli : iq.length = i := by rw [← hlq, List.length_take]; omega
    refine wpAny_bind (wpAny_updateSeq eq rfl (wpAny_pure ⟨plainId_quiet PySem.F.plain_extend_loop _, ?_⟩) (by rw [List.size_toArray]; omega) (by show (iq.toArray.push u).size ≤ sizeLine + 1; rw [Array.size_push, List.size_toArray]; omega))
    have J2 := J.lset (f := (·.push u)) (its' := iq ++ [u]) (ys := vs.take (i + 1)) (t' := s.toks) upd_same eq (by simp) (by rw [PL.take_snoc hlt]; exact rq.append (.cons ru .nil)) (by rw [List.length_take]; omega)
    rw [upd_upd] at J2
    exact ih (i + 1) _ (by omega) hlt J2
end
/-- iter(t), t a tuple -/
def rIterT (K : PySem.W.Frag) : List V → Hp → VK → Prop := fun xs H Q => ∃ (t : Addr) (zs : List V), xs = [.ref t] ∧ SqT K H t zs ∧ ∀ it, H it = none → Q (.ref it) (upd H it (TiO t it 0))
section
variable {X : Cx} {C f : Addr} {fd : FuncData} {ps : List Str} {n : Nat} {sp : Sp}
theorem call_iterT : CallR X (.builtin "iter") (rIterT X.K) := by
  intro pins s σ H xs us Q I r ⟨t, zs, e, hq, q⟩
  subst e
  obtain rfl := Vals.ref1 r
  obtain ⟨its, rv, pl, _⟩ := I.tuple hq
  refine Calls.call_function_entry (by decide +kernel) (by decide +kernel) PySem.W.kdk_entry_iter (PySem.W.kdk_args_iter _) ?_
  unfold Builtin.«iter»
  apply wpAny_bind (m := someArgs "iter" 1 2 _)
  refine wpAny_of_eq (a := [Value.ref t]) (by first | rfl | kernel_rfl!) ?_
  show wpAny _ _ (pyIter (.ref t) >>= _) _ _ _
  apply wpAny_bind
  refine wpAny_pyIter_tuple (show s.heap.IsTuple t its.toArray from pl) (wpAny_pure ⟨_, rfl, ?_⟩)
  exact ⟨.ref s.heap.objs.size, _, I.laid (t' := s.toks) (fun b u e => Heap.get?_push_of_some _ e) (Nat.le_refl _) (tiO_ok ⟨_, Heap.get?_push_size _ rfl, rfl, rfl⟩), rfl, q _ (I.hok.fresh (Nat.le_refl _))⟩
/-- a class whose __iter__ hands back an iterator over a tuple, without __len__ and __length_hint__ -/
structure ItT (K : PySem.W.Frag) (C f : Addr) : Prop where
  it : PySem.W.findIn K (.ref C) "__iter__" = some (some (.ref f))
  fn : PySem.W.isFn K (.ref f) = true
  len : PySem.W.findIn K (.ref C) "__len__" = some none
  hint : PySem.W.findIn K (.ref C) "__length_hint__" = some none
theorem no_size {M : Model} {A : Around} {E : Value → Shared → Prop} {Q : Bool → Shared → Prop} {K : PySem.W.Frag} {s : Shared} {a : Addr} {ox : Obj} {od : Option Obj} (c : ItT K C f) (hK : K.In s.heap) (J : PySem.W.InstAt s.heap a ox C od) (q : Q true s) : wpAny M A (Builtin.List.listLengthHint (.ref a)) Q E s := by
  have L1 := PySem.W.looks_findIn (M := M) hK c.len
  have L2 := PySem.W.looks_findIn (M := M) hK c.hint
  unfold Builtin.List.listLengthHint
  exact wpAny_bind (wpAny_bind (J.type.here (L1.here (PySem.W.KFB.if_not rfl (PySem.W.KFB.if_not rfl (wpAny_bind (wpAny_bind (J.type.here (L2.here (wpAny_pure q))))))))))
/-- list(o) -/
def rListT (C : Addr) (sp : Sp) : List V → Hp → VK → Prop := fun xs H Q => ∃ a dx fs, xs = [.ref a] ∧ H a = some (.ins C dx fs) ∧ ∀ q, H q = none →
  sp [.ref a] (upd H q (.lst [])) (fun v H' => ∃ it t vs dy gs, v = .ref it ∧ H' it = some (TiO t it 0) ∧ H' q = some (.lst []) ∧ H' t = some (.tup vs) ∧ H' a = some (.ins C dy gs) ∧ Q (.ref q) (upd (upd H' it (AnO it)) q (.lst vs))) E0
theorem call_listT (hc : X.calm = true) (c : ItT X.K C f) (F : FnOk X.prog X.w X.K X.mg X.base CX0 n f fd ps sp) (hb : Binds X.K fd ps []) (hr : Room (n + 2) X.A) : CallR X (.type "list") (rListT C sp) := by
  intro pins s σ H xs us Q I rv ⟨a, dx, fs, e, ha, hq⟩
  subst e
  obtain rfl := Vals.ref1 rv
  have sb : Sub X n X.A.in1.in1 := Sub.in1 (Sub.in1 ⟨hr, rfl⟩)
  refine callType_codes (Q₁ := fun obj s₁ => obj = .ref s.heap.objs.size ∧ s₁ = { s with heap := s.heap.push { cls := .type "list", data := .seq #[] } }) PySem.F.called_list (PySem.F.typeCall_list_1 _) PySem.F.entry_list_init (code_list_new _ ⟨rfl, rfl⟩) fun obj s₁ h₁ => ?_
  obtain ⟨rfl, rfl⟩ := h₁
  have hS : (s.heap.push { cls := .type "list", data := .seq #[] }).get? s.heap.objs.size = some { cls := .type "list", data := .seq #[] } := Heap.get?_push_size _ rfl
  refine ⟨⟨_, hS, rfl⟩, PySem.F.args_list_init_2 _ _, ?_⟩
  have fr : H s.heap.objs.size = none := I.hok.fresh (Nat.le_refl _)
  have hsp := hq _ fr
  have naq : a ≠ s.heap.objs.size := ne_of_none ha fr
  generalize hqe : s.heap.objs.size = q at *
  have I1 : Inv X pins σ (upd H q (.lst [])) { s with heap := s.heap.push { cls := .type "list", data := .seq #[] } } := by
    have := I.lnew (its := []) (ys := []) (t' := s.toks) .nil (Nat.zero_le _)
    rw [hqe] at this
    exact this
  show wpAny _ _ (do let old ← Builtin.List.listItems (.ref q); Builtin.List.listUpdate (.ref q) (fun _ => #[]); letGo old.toList.reverse; Builtin.List.listExtendWith (.ref q) (.ref a) .none) _ _ _
  apply wpAny_bind
  unfold Builtin.List.listItems
  refine wpAny_bind (wpAny_seqItems hS rfl (wpAny_pure ?_))
  show wpAny _ _ (updateSeq q (fun _ => #[]) >>= fun _ => letGo (#[] : Array Value).toList.reverse >>= fun _ => Builtin.List.listExtendWith (.ref q) (.ref a) .none) _ _ _
  refine wpAny_bind (wpAny_updateSeq hS rfl ?_)
  have I2 := I1.lset (f := fun _ => #[]) (its := []) (its' := []) (ys := []) (t' := s.toks) upd_same hS rfl .nil (Nat.zero_le _)
  rw [upd_upd] at I2
  refine wpAny_bind (wpAny_letGo ?_)
  -- extend
  have ha2 : upd H q (.lst []) a = some (.ins C dx fs) := by rw [upd_ne naq]; exact ha
  generalize ({ s with heap := ((s.heap.push { cls := .type "list", data := .seq #[] }).update q (Obj.mapSeq fun _ => (#[] : Array Value))), toks := s.toks } : Shared) = s2 at I2 ⊢
  generalize hH2 : upd H q (.lst []) = H2 at I2 ha2 hsp
  obtain ⟨mA, J, _⟩ := ins_get I2.hok ha2
  obtain ⟨od, J, _⟩ := J.look
  obtain ⟨m0, hF⟩ := I2.fr
  unfold Builtin.List.listExtendWith
  refine wpAny_bind (J.type.here ?_)
  have z1 : Builtin.List.listSameRef (.ref q) (.ref a) = false := by simp [Builtin.List.listSameRef, Ne.symm naq]
  have z2 : (Value.ref C == Value.type "list") = false := rfl
  have z3 : (Value.ref C == Value.type "tuple") = false := rfl
  simp only [z1, z2, z3, Bool.or_false, Bool.false_eq_true, if_false]
  refine wpAny_bind (PySem.W.owit_iter hF I2.ok.mod.kin J c.it c.fn ?_)
  have e0 : Env0 X.prog X.w X.K X.mg X.base X.A.in1.in1 X.stack s2 H2 := by
    have e := I2.env0
    exact ⟨by rw [sb.fr]; exact e.frames, e.mod, e.bs, e.bsz, e.funs, e.frf, e.hok, e.bare⟩
  have hl := F.len _ _ _ _ hsp
  have hbind : BindsTo s2 fd ⟨[.ref a], []⟩ (ps.zip [.ref a]) := by
    have := hb s2 [.ref a] I2.kIn (by simpa using hl)
    simpa using this
  refine wpAny_call (codeAny_mono (F.run _ X.stack s2 H2 ⟨[.ref a], []⟩ [.ref a] [.ref a] _ E0 sb.room e0 hbind (.cons rfl .nil) hsp) fun r s3 hq3 => ?_)
  cases r with
  | error e => exact (pass0 (X := X) pins σ H2 s2 e s3 I2 hq3)
  | ok fl =>
    cases fl with
    | next => exact False.elim hq3
    | brk => exact False.elim hq3
    | cont => exact False.elim hq3
    | ret u =>
      obtain ⟨v, H', I3, rv3, it, t, vs, dy, gs, ev, hit, hqq, ht, ha3, hQ⟩ := I2.after hq3
      subst ev
      obtain rfl : u = Value.ref it := rv3
      have hti := (I3.hok it _ hit).1
      obtain ⟨mB, J3, _⟩ := ins_get I3.hok ha3
      obtain ⟨oe, J3, _⟩ := J3.look
      unfold PySem.W.OwitIt
      refine wpAny_specialOf (name := Str.ofString "__next__") hti.typeIs PySem.F.slot_tuple_iterator_next.lookup ?_
      dsimp only
      refine wpAny_bind (wpAny_holding (no_size c I3.kIn J3 ?_))
      have nq : q ≠ it := ne_of hqq hit (fun z => by cases z)
      have nt : t ≠ it := ne_of ht hit (fun z => by cases z)
      have nqt : q ≠ t := ne_of hqq ht (fun z => by cases z)
      have hv : vs.length ≤ sizeLine := (I3.hok t _ ht).1
      have fin : ∀ s4 : Shared, Inv X pins σ H' s4 → codeAny (model X.prog X.w) X.A.in1 (.builtin "list.extend.loop" ⟨[.ref q, .ref it, .none], []⟩) (wants (fun r s₂ => r = .none ∧ EP X pins σ Q (.ref q) s₂) X.xe) s4 := fun s4 I4 => by
        refine ti_loop (X := X) (A1 := X.A.in1) (H0 := H') (show X.A.in1.handled = none from I4.ok.hd hc) nq nt nqt hv (fun s5 I5 => ⟨rfl, .ref q, _, I5, rfl, hQ⟩) ht vs.length 0 s4 (by omega) (Nat.zero_le _) ?_
        have e2 : upd (upd H' it (TiO t it 0)) q (.lst (vs.take 0)) = H' := by
          funext b
          by_cases h1 : b = q
          · subst h1; rw [upd_same, hqq] <;> rfl
          · rw [upd_ne h1]
            by_cases h2 : b = it
            · subst h2; rw [upd_same, hit]
            · rw [upd_ne h2]
        rw [e2]; exact I4
      obtain ⟨z, its, k, r3, hl3, e3⟩ := I3.lstM hqq
      cases r3
      refine wpAny_ite_split (fun _ => ?_) fun _ => wpAny_pure ⟨plainId_quiet PySem.F.plain_extend_loop _, fin s3 I3⟩
      refine wpAny_bind (wpAny_rule ?_)
      apply wpAny_bind
      show wpAny _ _ (updateSeq q (·.push .none) >>= fun _ => updateSeq q (·.pop)) _ _ _
      refine wpAny_bind (wpAny_updateSeq e3 rfl ?_)
      have I4 := I3.lset (f := (·.push Value.none)) (its' := [Value.none]) (ys := [.non]) (t' := s3.toks) hqq e3 (by simp) (.cons rfl .nil) (by rw [List.length_singleton, sizeLine_eq]; decide)
      obtain ⟨z4, its4, k4, r4, hl4, e4⟩ := I4.lstM upd_same
      obtain ⟨u4, rfl, ru4⟩ := r4.one
      refine wpAny_updateSeq e4 rfl ?_ (by show 1 ≤ sizeLine; rw [sizeLine_eq]; decide) (by show 0 ≤ sizeLine + 1; exact Nat.zero_le _)
      have I5 := I4.lset (f := (·.pop)) (its := [u4]) (its' := []) (ys := []) (t' := s3.toks) upd_same e4 (by rfl) .nil (Nat.zero_le _)
      have e5 : upd (upd H' q (.lst [.non])) q (.lst []) = H' := by
        rw [upd_upd]
        funext b
        by_cases hb : b = q
        · rw [hb, upd_same, hqq]
        · rw [upd_ne hb]
      rw [e5] at I5
      exact wpAny_pure ⟨plainId_quiet PySem.F.plain_extend_loop _, fin _ I5⟩
end
end L2

namespace PL
open PySem L2
/-! ### list(box) -/
def spIter (C : Addr) : Sp := fun vs H Q _ => ∃ a dx fs t zs, vs = [.ref a] ∧ H a = some (.ins C dx fs) ∧ fs.lookup ("members" : Str) = some (.ref t) ∧ H t = some (.tup zs) ∧ ∀ it, H it = none → Q (.ref it) (upd H it (TiO t it 0))
def HasIter (P : Program) (w : World) (K : PySem.W.Frag) (mg : Str → Option Value) (base : Heap) (C : Addr) (lv : Nat) : Prop :=
  ∃ (f : Addr) (fd : FuncData), ItT K C f ∧ FnOk P w K mg base CX0 lv f fd ["self"] (spIter C) ∧ Binds K fd ["self"] []
theorem call_iterT' {X : Cx} (K : PySem.W.Frag) (hK : X.K = K := by rfl) : CallR X (.builtin "iter") (rIterT K) := by subst hK; exact call_iterT
theorem call_listB {X : Cx} {C : Addr} {lv k : Nat} (h : HasIter X.prog X.w X.K X.mg X.base C lv) (hr : Room k X.A) (hl : lv + 2 ≤ k) (hc : X.calm = true := by rfl) : CallR X (.type "list") (rListT C (spIter C)) := by
  obtain ⟨f, fd, h1, h2, h3⟩ := h
  exact call_listT hc h1 h2 h3 (hr.mono hl)
/-- what isinstance(o, C) leans on -/
structure IsiC (K : PySem.W.Frag) (C : Addr) : Prop where
  cl : Cls K C
  ca : PySem.W.findIn K (.ref C) "__class__" = some (some (.builtin "object.__class__"))
  sp : PySem.W.specialIn K (.builtin "object.__class__") "__get__" = some (some (.builtin "getset_descriptor.__get__"))
  tk : PySem.W.takesIn K (.builtin "object.__class__") = some true
  mro : PySem.W.mroIn K C (.type "object") = some true
section
variable {K : PySem.W.Frag} {fx fx' : Fx} {M M1 M2 M' : List (Option CP)} {Γ Γ1 Γ2 : List Sl} {te ta tb : TE} {i j j1 k : Nat} {P Q P1 P2 : VP} {Ps Qs : List VP} {E : XK} {C : Addr} {fs : List (Str × VP)} {m n : Int}
theorem cb_listB (hl : fs.lookup ("members" : Str) = some (vTs Ps)) : CBV M (rListT C (spIter C)) [.d (vIns C fs)] M (.d (vLs Ps)) := fun fx as G H xs h o Q q => by
  cases o with
  | cons o1 o2 =>
    cases o2
    obtain ⟨a, dx, ws, rfl, e2, e3⟩ := o1
    obtain ⟨u, k1, k2⟩ := e3.look hl
    obtain ⟨t, zs, rfl, g2, g3, g4⟩ := k2
    have ha := h.ex _ _ e2
    have ht := h.ex _ _ g2
    refine ⟨a, dx, ws, rfl, ha, fun p hp => ?_⟩
    have nap : a ≠ p := ne_of_none ha hp
    have ntp : t ≠ p := ne_of_none ht hp
    refine ⟨a, dx, ws, t, zs, rfl, by rw [upd_ne nap]; exact ha, k1, by rw [upd_ne ntp]; exact ht, fun it hit => ?_⟩
    have nip : it ≠ p := fun z => by rw [z, upd_same] at hit; cases hit
    rw [upd_ne nip] at hit
    have nai : a ≠ it := ne_of_none ha hit
    have nti : t ≠ it := ne_of_none ht hit
    refine ⟨it, t, zs, dx, ws, rfl, upd_same, by rw [upd_ne (Ne.symm nip), upd_same], by rw [upd_ne nti, upd_ne ntp]; exact ht, by rw [upd_ne nai, upd_ne nap]; exact ha, ?_⟩
    have eH : upd (upd (upd (upd H p (.lst [])) it (TiO t it 0)) it (AnO it)) p (.lst zs) = upd (upd H it (AnO it)) p (.lst zs) := by
      funext b
      by_cases h1 : b = p
      · subst h1; rw [upd_same, upd_same]
      · rw [upd_ne h1, upd_ne h1]
        by_cases h2 : b = it
        · subst h2; rw [upd_same, upd_same]
        · rw [upd_ne h2, upd_ne h2, upd_ne h1, upd_ne h2]
    rw [eH]
    have h1 := h.junk (o := AnO it) hit
    have hp1 : upd H it (AnO it) p = none := by rw [upd_ne (Ne.symm nip)]; exact hp
    have h2 := h1.data (o := .lst zs) hp1
    have gp : G p = none := by
      cases z : G p with
      | none => rfl
      | some o => have := h.ex _ _ z; rw [hp] at this; cases this
    exact q _ as _ _ (h.back (h1.back h2)) ⟨p, zs, rfl, upd_same, g3, g4.mono (Ex.new gp)⟩
theorem cb_isiC (c : IsiC K C) (hP : IsIns C P) : CBV M (rIsi K) [.d P, .d (vV (.ref C))] M (.d (vV (.bl true))) := fun fx as G H xs h o Q q => by
  cases o with
  | cons o1 o2 => cases o2 with
    | cons o2 o3 =>
      cases o3
      obtain rfl : _ = V.ref C := o2
      obtain ⟨a, dx, fs, rfl, e2⟩ := hP _ _ o1
      exact ⟨_, _, _, _, true, rfl, .own C, .base (.ins (h.ex _ _ e2) c.cl c.ca c.sp c.tk c.mro), if_pos (beq_self_eq_true _), q _ as G H h rfl⟩
theorem at_map {α : Type} {xs : List α} {R : α → VP} {i : Nat} (h : i < xs.length) : atI (xs.map R) (i : Nat) = some (R xs[i]) := at_of' rfl (by rw [List.getElem?_map, List.getElem?_eq_getElem h] <;> rfl)
end
/-! ### the laws' comparisons -/
def cNums : Con where
  ι := List Int × List Int
  pre x := x.1.length ≤ 1000000 ∧ x.2.length ≤ 1000000
  cin _ := []
  args x := [.d (vRow x.1), .d (vQs (vIs x.2))]
  cout _ := []
  ret x := .d (vV (.bl (decide (x.1 = x.2))))
def cIsSides : Con where
  ι := List (List Int) × List (List Int)
  pre x := (x.1.length ≤ 1000000 ∧ x.2.length ≤ 1000000) ∧ (∀ s ∈ x.1, s.length ≤ 1000000) ∧ ∀ s ∈ x.2, s.length ≤ 1000000
  cin _ := []
  args x := [.d (vTs (x.1.map vRow)), .d (vSides x.2)]
  cout _ := []
  ret x := .d (vV (.bl (decide (x.1 = x.2))))
def cIsRows : Con where
  ι := List (List Int) × List (List Int)
  pre x := (x.1.length ≤ 1000000 ∧ x.2.length ≤ 1000000) ∧ (∀ s ∈ x.1, s.length ≤ 1000000) ∧ ∀ s ∈ x.2, s.length ≤ 1000000
  cin _ := []
  args x := [.d (vRows x.1), .d (vRows x.2)]
  cout _ := []
  ret x := .d (vV (.bl (decide (x.1 = x.2))))
/-- told by one place where they differ -/
theorem ne_at {α : Type} {a b : List α} {i : Nat} {x y : α} (h1 : a[i]? = some x) (h2 : b[i]? = some y) (h : x ≠ y) : ¬ a = b := fun e => by
  subst e; rw [h1] at h2; exact h (Option.some.inj h2)
theorem take_step {α : Type} {a b : List α} {i : Nat} (ha : i < a.length) (hb : i < b.length) (h : a.take i = b.take i) (e : a[i] = b[i]) : a.take (i + 1) = b.take (i + 1) := by rw [take_snoc ha, take_snoc hb, h, e]
theorem take_all {α : Type} {a b : List α} (hl : a.length = b.length) (h : a.take b.length = b.take b.length) : a = b := by rwa [List.take_length, ← hl, List.take_length] at h
end PL

namespace PL
open PySem L2
def HasBin (P : Program) (w : World) (K : PySem.W.Frag) (mg : Str → Option Value) (base : Heap) (op : Operator) (C : Addr) (ps : List Str) (lv : Nat) (c : Con) : Prop :=
  ∃ (f : Addr) (fd : FuncData), PySem.W.findIn K (.ref C) (PySem.dunder op.info.2) = some (some (.ref f)) ∧ PySem.W.isFn K (.ref f) = true ∧ PySem.W.selfFirst K C = true ∧ FnOk P w K mg base CX0 lv f fd ps (spC c) ∧ Binds K fd ps []
theorem op_bin' {X : Cx} {op : Operator} {C : Addr} {ps : List Str} {lv k : Nat} {c : Con} (h : HasBin X.prog X.w X.K X.mg X.base op C ps lv c) (hr : Room k X.A) (hl : lv ≤ k) : OpR X (binaryOp op) (rOwnC C (spC c)) := by
  obtain ⟨f, fd, h1, h2, h3, h4, h5⟩ := h
  exact op_ownB h1 h2 h3 h4 (hr.mono hl) h5
theorem clean_self {s : List Int} (h : s.Pairwise (· < ·)) : clean s = s := asc_eq (clean_ok s).1 h (clean_ok s).2
theorem map_clean_self {l : List (List Int)} (h : ∀ s ∈ l, s.Pairwise (· < ·)) : l.map clean = l := by
  conv => rhs; rw [← List.map_id l]
  exact List.map_congr_left fun s hs => clean_self (h s hs)
/-- the sides' common standings -/
def commons (a b : List (List Int)) : List (List Int) := (a.zip b).map fun p => p.1.filter fun n => decide (n ∈ p.2)
theorem commons_len {a b : List (List Int)} (h : a.length = b.length) : (commons a b).length = a.length := by rw [commons, List.length_map, List.length_zip]; omega
theorem commons_mem {a b : List (List Int)} {s : List Int} (h : s ∈ commons a b) : ∃ p ∈ a.zip b, s = p.1.filter fun n => decide (n ∈ p.2) := by
  obtain ⟨p, hp, e⟩ := List.mem_map.mp h
  exact ⟨p, hp, e.symm⟩
theorem prodP_commons : ∀ {a b : List (List Int)}, a.length = b.length → prodP (commons a b) ≤ prodP a
  | [], [], _ => Nat.le_refl _
  | s :: a, t :: b, h => by
    refine Nat.mul_le_mul ?_ (prodP_commons (a := a) (b := b) (by simpa using h))
    have : (s.filter fun n => decide (n ∈ t)).length ≤ s.length := List.length_filter_le _ _
    show max 1 (s.filter fun n => decide (n ∈ t)).length ≤ max 1 s.length
    omega
theorem combos_commons : ∀ {a b : List (List Int)}, a.length = b.length → combos (commons a b) = (combos a).filter fun r => decide (r ∈ combos b)
  | [], [], _ => by simp [commons, combos]
  | s :: a, t :: b, h => by
    have ih := combos_commons (a := a) (b := b) (by simpa using h)
    have m2 : ∀ x r, x :: r ∈ combos (t :: b) ↔ x ∈ t ∧ r ∈ combos b := fun x r => by
      show x :: r ∈ (t.flatMap fun x => (combos b).map (x :: ·)) ↔ _
      simp
    show ((s.filter fun n => decide (n ∈ t)).flatMap fun x => (combos (commons a b)).map (x :: ·)) = (s.flatMap fun x => (combos a).map (x :: ·)).filter fun r => decide (r ∈ combos (t :: b))
    rw [ih]
    clear ih h
    induction s with
    | nil => rfl
    | cons x s ih =>
      have e1 : ((combos a).map (x :: ·)).filter (fun r => decide (r ∈ combos (t :: b))) = if x ∈ t then ((combos a).filter fun r => decide (r ∈ combos b)).map (x :: ·) else [] := by
        rw [List.filter_map]
        by_cases hx : x ∈ t
        · rw [if_pos hx]
          congr 1
          apply List.filter_congr
          intro r _
          show decide (x :: r ∈ combos (t :: b)) = _
          exact decide_eq_decide.mpr (by rw [m2]; simp [hx])
        · rw [if_neg hx]
          rw [List.filter_eq_nil_iff.mpr fun r _ => by
            show ¬ decide (x :: r ∈ combos (t :: b)) = true
            rw [decide_eq_true_eq, m2]; simp [hx]]
          rfl
      rw [List.flatMap_cons, List.filter_append, e1]
      by_cases hx : x ∈ t
      · rw [List.filter_cons_of_pos (by simp [hx]), List.flatMap_cons, ih, if_pos hx]
      · rw [List.filter_cons_of_neg (by simp [hx]), ih, if_neg hx, List.nil_append]
def cShared : Con where
  ι := List Int × List Int
  pre x := x.1.length ≤ 10000 ∧ x.2.length < 4095
  cin _ := []
  args x := [.d (vRow x.1), .d (vRow x.2)]
  cout _ := []
  ret x := .d (vLs (vIs (x.1.filter fun n => decide (n ∈ x.2))))
def cCommon : Con where
  ι := List (List Int) × List (List Int)
  pre x := x.1.length = x.2.length ∧ x.1.length ≤ 1000 ∧ (∀ s ∈ x.1, s.length ≤ 1000) ∧ ∀ s ∈ x.2, s.length ≤ 1000
  cin _ := []
  args x := [.d (vTs (x.1.map vRow)), .d (vTs (x.2.map vRow))]
  cout _ := []
  ret x := .d (vSides (commons x.1 x.2))
def cAnd (C : Addr) : Con where
  ι := List (List Int) × List (List Int)
  pre x := (x.1.length = x.2.length ∧ x.1.length ≤ 1000 ∧ (∀ s ∈ x.1, s.length ≤ 1000) ∧ ∀ s ∈ x.2, s.length ≤ 1000) ∧ x.1 ≠ [] ∧ prodP x.1 ≤ 1000000 ∧ ∀ s ∈ x.1, s.Pairwise (· < ·) ∧ ∀ n ∈ s, 0 ≤ n
  cin _ := []
  args x := [.d (vBox C x.1), .d (vBox C x.2)]
  cout _ := []
  ret x := .d (vBox C (commons x.1 x.2))
section
variable {M : List (Option CP)} {E : XK} {C : Addr}
/-- Box(sides) -/
theorem cb_box (x : List (List Int)) (h1 : x ≠ []) (h2 : x.length ≤ 1000) (h3 : prodP x ≤ 1000000) (h4 : ∀ s ∈ x, s.length ≤ 1000 ∧ ∀ n ∈ s, 0 ≤ n) {s : Sl} (hs : SlLe s (.d (vQs (x.map fun s => vQs (vIs s))))) :
    CBV M (fun vs H Q => ∀ x dx, H x = none → H dx = none → dx ≠ x → spC (cInit C) (.ref x :: (vs ++ [])) (upd (upd H dx (.own x)) x (.ins C dx [])) (fun v H2 => v = .non ∧ Q (.ref x) H2) E) [s] M (.d (vBox C (x.map clean))) :=
  cb_make (c := cInit C) (ds := [vQs (x.map fun s => vQs (vIs s))]) x ⟨h1, h2, h3, h4⟩ rfl rfl rfl rfl (.cons hs .nil)
end
theorem commons_ok {a b : List (List Int)} (h : ∀ s ∈ a, s.Pairwise (· < ·) ∧ ∀ n ∈ s, 0 ≤ n) (hl : ∀ s ∈ a, s.length ≤ 1000) : ∀ s ∈ commons a b, (s.Pairwise (· < ·) ∧ ∀ n ∈ s, 0 ≤ n) ∧ s.length ≤ 1000 := fun s hs => by
  obtain ⟨p, hp, rfl⟩ := commons_mem hs
  have h1 := h p.1 (List.of_mem_zip hp).1
  exact ⟨⟨h1.1.filter _, fun n hn => h1.2 n (List.mem_filter.mp hn).1⟩, Nat.le_trans (List.length_filter_le _ _) (hl _ (List.of_mem_zip hp).1)⟩
end PL

namespace PySem
open Sem (wp)
open AutoSeq1 (wpAny_loadPart')
theorem meets_enum_tup (t : Addr) (items : Array Value) (n : Nat) (dd : Option Addr) (sl : Array (Option Value)) :
    Meets (Builtin.«enumerate.__new__» ⟨[.type "enumerate", .ref t], []⟩) (fun _ R s => s.heap.get? t = some { cls := .type "tuple", dict := dd, data := .seq items n, slots := sl } ∧
      R (.ok (.ret (.ref (s.heap.push { cls := .type "tuple_iterator", data := .fields #[.ref t, .int 0 0] }).objs.size)))
        { s with heap := (s.heap.push { cls := .type "tuple_iterator", data := .fields #[.ref t, .int 0 0] }).push { cls := .type "enumerate", data := .fields #[.none, .bool false, .ref s.heap.objs.size, rawInt 0, .none, .none] } }) :=
  .of_wp fun prog w A R s h => by
    obtain ⟨hp, g, d, tk, os⟩ := s; obtain ⟨ht, h⟩ := h
    have sub := sub_enumerate
    have tt : Heap.IsTuple (Shared.heap ⟨hp, g, d, tk, os⟩) t items := ⟨_, ht, rfl, n, rfl⟩
    wp_walk using wpAny_loadPart' ht
    refine wpAny_stack_any fun st => wpAny_pure ?_
    split
    · rename_i c _ _ _ _ _
      cases (c == Value.type "enumerate")
      · wp_walk using wpAny_loadPart' ht, wpAny_pyIter_tuple tt
        exact ⟨_, rfl, h⟩
      · wp_walk using wpAny_loadPart' ht, wpAny_pyIter_tuple tt
        exact ⟨_, rfl, h⟩
    · wp_walk using wpAny_loadPart' ht, wpAny_pyIter_tuple tt
      exact ⟨_, rfl, h⟩
theorem call_enum_tup {prog : Program} {w : World} {A : Around} {E : Value → Shared → Prop} {s : Shared} {t : Addr} {items : Array Value} {Q : Value → Shared → Prop} (hT : s.heap.IsTuple t items)
    (h : ∀ h', IsEnum h' (s.heap.objs.size + 1) s.heap.objs.size 0 .none → h'.IsTupleIter s.heap.objs.size t 0 → (∀ b o, s.heap.get? b = some o → h'.get? b = some o) → Q (.ref (s.heap.objs.size + 1)) { s with heap := h' }) :
    wpAny (model prog w) A (call (.type "enumerate") [.ref t]) Q E s := by
  obtain ⟨⟨c, dd, dt, sl⟩, ht, hc, n, hd⟩ := hT
  obtain rfl : c = .type "tuple" := hc
  obtain rfl : dt = .seq items n := hd
  apply callType_new F.called_enumerate (by decide) (F.typeCall_enumerate_1 _) (F.newCall_enumerate_1 _) (fun obj => F.args_object_init_2 obj _) F.entry_enumerate_new (meets_enum_tup t items n dd sl)
  refine ⟨ht, ?_⟩
  have hz : (s.heap.push { cls := .type "tuple_iterator", data := .fields #[.ref t, .int 0 0] }).objs.size = s.heap.objs.size + 1 := Heap.size_push ..
  show _ ∧ _
  rw [hz]
  have he := Heap.get?_push_size (s.heap.push { cls := .type "tuple_iterator", data := .fields #[.ref t, .int 0 0] }) (o := { cls := .type "enumerate", data := .fields #[.none, .bool false, .ref s.heap.objs.size, rawInt 0, .none, .none] }) rfl
  rw [hz] at he
  exact ⟨⟨_, he, rfl⟩, h _ he ⟨_, Heap.get?_push_of_some _ (Heap.get?_push_size _ rfl), rfl, rfl⟩ fun b o x => Heap.get?_push_of_some _ (Heap.get?_push_of_some _ x)⟩
end PySem
namespace L2
open PySem PySem.Spec PyProof.Rows
/-- the tuple at a at each turn, each item in a new pair behind its number -/
def IteT (K : PySem.W.Frag) (a : Addr) : It :=
  ⟨fun i H => ∃ (xs : List V) (x : V), SqT K H a xs ∧ xs[i]? = some x, fun i H v H' => ∃ T x, v = .ref T ∧ H T = none ∧ H' = upd H T (.tup [.int (i : Nat), x]) ∧ ∀ xs, SqT K H a xs → xs[i]? = some x, fun i H => ∃ xs : List V, SqT K H a xs ∧ xs.length ≤ i⟩
theorem turn_enumT {P : Program} {w : World} {K : PySem.W.Frag} {elts : List Expr} {kk : Nat} {tpos : Pos} (a e it : Addr) :
    Turn P w K (.Tuple elts kk tpos) (IteT K a) [e, it] e (fun i h => (∃ old, IsEnum h e it ((i : Nat) : Int) old) ∧ h.IsTupleIter it a i ∧ e ≠ it ∧ a ≠ it ∧ e ≠ a) where
  mem := by simp
  obj := fun i h st b hb => by
    obtain ⟨⟨old, he⟩, ⟨o, ho, hc, hd⟩, _⟩ := st
    rcases (by simpa using hb : b = e ∨ b = it) with z | z
    · subst z; exact ⟨_, he, fun v q => nomatch q⟩
    · subst z; exact ⟨o, ho, fun v q => by rw [hd] at q; cases q⟩
  keep := fun i h h' st k => by
    obtain ⟨⟨old, he⟩, hi, hne⟩ := st
    exact ⟨⟨old, k e (by simp) _ he⟩, hi.at fun o q => k it (by simp) o q, hne⟩
  item := by
    intro X hP hw hK hc i pins s σ H E I hf st hg
    subst hP hw hK
    obtain ⟨⟨old, he⟩, hit, hne, hai, hea⟩ := st
    obtain ⟨xs, x, hq, hx⟩ := hg
    obtain ⟨its, rv, p, hz⟩ := I.tuple hq
    obtain ⟨u, hu, ru⟩ := rv.get hx
    have hel : e < s.heap.objs.size := Heap.lt_size he
    have hil : it < s.heap.objs.size := by obtain ⟨_, q, _⟩ := hit; exact Heap.lt_size q
    have hlt : i < its.toArray.size := by
      have := (List.getElem?_eq_some_iff.mp hu).1
      simpa using this
    have D := Draws.tuple (prog := X.prog) (w := X.w) (A := X.A.in1) (show X.A.in1.handled = none from I.ok.hd hc) it a hai its.toArray
    refine wpAny_pyNext_enum_itemD D he ⟨hit, (show s.heap.IsTuple a its.toArray from p)⟩ hlt hne (by simp [hne, hea]) fun x' h' tk hPx ho hst hT hsz hk => ?_
    obtain rfl : u = x' := by
      have h1 : its.toArray[i]? = some x' := hPx
      have h2 : its.toArray[i]? = some u := by simpa using hu
      rw [h2] at h1; exact Option.some.inj h1
    refine ⟨_, rfl, wpAny_letOwnedTupleGo_enum (s := { s with heap := h', toks := tk + 1 }) ho fun h'' he' sb => ?_⟩
    have hT2 : h''.get? s.heap.objs.size = some { cls := .type "tuple", data := .seq #[.int i tk, u] } := (sb.2 _ (Nat.ne_of_gt hel)).trans hT
    have new : ObjOk X.prog X.w (upd H s.heap.objs.size (.tup [.int (i : Nat), x])) h'' s.heap.objs.size (.tup [.int (i : Nat), x]) :=
      ⟨by show 2 ≤ sizeLine; decide, [.int i tk, u], .cons ⟨_, rfl⟩ (.cons ru .nil), ⟨_, hT2, rfl, _, rfl⟩⟩
    have I1 : Inv X pins σ (upd H s.heap.objs.size (.tup [.int (i : Nat), x])) { s with heap := h'', toks := tk + 1 } :=
      I.turnedNew (ch := [e, it]) (fun b ob hb q => (sb.2 b (fun z => hb (by simp [z]))).trans (hk b ob (fun z => hb (by simp [z])) (fun z => hb (by simp [z])) q)) hf (Nat.le_refl _) new
    refine ⟨.ref s.heap.objs.size, _, I1, rfl, ⟨_, x, rfl, I.hok.fresh (Nat.le_refl _), rfl, fun ys hy => by rw [I.tuple_inj hy hq]; exact hx⟩, ⟨⟨u, ?_⟩, hst.1.at fun o q => (sb.2 it (Ne.symm hne)).trans q, hne, hai, hea⟩, fun b hb => ?_⟩
    · rw [show ((i + 1 : Nat) : Int) = (i : Int) + 1 by omega]; exact he'
    · have hb' : b < s.heap.objs.size := by
        rcases (by simpa using hb : b = e ∨ b = it) with z | z
        · rw [z]; exact hel
        · rw [z]; exact hil
      rw [upd_ne (Nat.ne_of_lt hb')]
      exact (hf b hb).1
  done := by
    intro X hP hw hK hc i pins s σ H E I hf st hg
    subst hP hw hK
    obtain ⟨⟨old, he⟩, hit, hne, hai, hea⟩ := st
    obtain ⟨xs, hq, hx⟩ := hg
    obtain ⟨its, rv, p, hz⟩ := I.tuple hq
    obtain ⟨f0, f1, f2, f3, f4, f5⟩ := hf it (by simp)
    have hl := rv.length
    have hT : s.TypeIs (.ref e) "enumerate" := ⟨_, he, rfl⟩
    have slot := PySem.F.slot_enumerate_next
    unfold pyNext
    apply wpAny_bind; apply wpAny_attempt
    refine wpAny_callSpecial?_slot (name := Str.ofString "__next__") hT slot (wpAny_call_entry slot hT PySem.F.entry_enumerate_next ?_ (PySem.F.args_enumerate_next_1 _))
    show wpAny _ _ (field (.ref e) 2 >>= _) _ _ _
    apply wpAny_bind; apply wpAny_field (x := .ref it) he rfl rfl
    refine wpAny_bind (wpAny_nextOf_tuple_end (I.ok.hd hc) hit (show s.heap.IsTuple a its.toArray from p) (by simp; omega) fun h' x he' ⟨o, ho, hcl⟩ => ?_)
    refine wpAny_bind (wpAny_isInstance (b := true) (T := "StopIteration") ⟨o, ho, hcl⟩ PySem.isSubtype_stop ?_)
    exact wpAny_pure ⟨rfl, I.turned (t' := s.toks) (fun b o hb q => he' b o hb q) f0 f1 f3 f4 f5⟩
  self := fun A i s Q E st h => let ⟨⟨_, he⟩, _⟩ := st; wpAny_pyIter_enum he h
def iEnumT (K : PySem.W.Frag) (ta : TA) : TI := fun σ H R => ta σ H fun vs H1 => ∃ a xs, vs = [.ref a] ∧ SqT K H1 a xs ∧ R (IteT K a) H1
theorem pi_enumT {X : Cx} {e : Expr} {ta : TA} {p pos tpos : Pos} {elts : List Expr} {kk : Nat} (hg : Gl X "enumerate") (hm : X.mg "enumerate" = none) (ha : PA X [e] ta) (hs : starEach [e] X.env = [(false, eval e X.env)] := by rfl) :
    PI X (.Tuple elts kk tpos) (.Call (.Name "enumerate" p) [e] [] pos) (iEnumT X.K ta) := by
  constructor
  intro pins s σ H R I h
  refine Call_ (ld_blt I hg hm boot_enumerate (PyProof.Rows.callWith_type1 (thn (ha.run pos pins s σ H _ I h) fun us s1 ⟨vs, H1, I1, r1, a, xs, ex, hq, q⟩ => ?_) hs rfl))
  subst ex
  obtain rfl := Vals.ref1 r1
  obtain ⟨its, rv, p', hz⟩ := I1.tuple hq
  have hla : a < s1.heap.objs.size := by obtain ⟨_, q, _⟩ := p'; exact Heap.lt_size q
  refine call_enum_tup (show s1.heap.IsTuple a its.toArray from p') fun h' he hit hk => wpAny_pyIter_enum he ?_
  have I2 : Inv X pins σ H1 { s1 with heap := h' } := I1.kept (t' := s1.toks) hk
  refine ⟨s1.heap.objs.size + 1, [s1.heap.objs.size + 1, s1.heap.objs.size], _, _, H1, rfl, I2, turn_enumT a (s1.heap.objs.size + 1) s1.heap.objs.size, ⟨⟨.none, he⟩, hit, Nat.succ_ne_self _, Nat.ne_of_lt hla, Nat.ne_of_gt (Nat.lt_succ_of_lt hla)⟩, fun b hb => ?_, q⟩
  have hle : s1.heap.objs.size ≤ b := by
    rcases (by simpa using hb : b = s1.heap.objs.size + 1 ∨ b = s1.heap.objs.size) with z | z
    · rw [z]; exact Nat.le_succ _
    · rw [z]; exact Nat.le_refl _
  exact I1.fpOk hle (I1.hok.fresh hle)
end L2
namespace PL
open PySem L2
theorem pi_enumT' {X : Cx} (K : PySem.W.Frag) {e : Expr} {ta : TA} {p pos tpos : Pos} {elts : List Expr} {kk : Nat} (hg : Gl X "enumerate") (hm : X.mg "enumerate" = none) (ha : PA X [e] ta) (hs : starEach [e] X.env = [(false, eval e X.env)] := by rfl) (hK : X.K = K := by rfl) :
    PI X (.Tuple elts kk tpos) (.Call (.Name "enumerate" p) [e] [] pos) (iEnumT K ta) := by subst hK; exact pi_enumT hg hm ha hs
section
variable {K : PySem.W.Frag} {fx fx' : Fx} {M M1 M2 M' : List (Option CP)} {Γ Γ1 Γ2 : List Sl} {te ta tb : TE} {i j j1 k : Nat} {P Q P1 P2 : VP} {Ps Qs : List VP} {E : XK} {C : Addr} {fs : List (Str × VP)} {m n : Int} {tr : TA} {D : Ends} {tz : TS}
theorem src_enumT {α : Type} {xs : List α} {R : α → VP} (h : EA M Γ tr M1 [.d (vTs (xs.map R))]) : Src M Γ (iEnumT K tr) M1 xs.length (fun i => vTs [vV (.int (i : Nat)), Pat (xs.map R) i]) := fun fx as G σ H g Rr q =>
  h fx as G σ H g _ fun ws as1 G1 H1 h1 o => by
    cases o with
    | cons o1 o2 =>
      cases o2
      obtain ⟨a, us, rfl, e2, e3, e4⟩ := o1
      refine ⟨a, us, rfl, SqT.of (h1.ex _ _ e2), q _ as1 G1 H1 h1 ⟨fun i fx M as G H hi _ _ e hs => ?_, fun i fx M as G H hi _ _ e hs => ⟨us, SqT.of (hs.ex _ _ (e _ _ e2)), by rw [e4.length, List.length_map]; exact hi⟩⟩⟩
      obtain ⟨u, hu, pu⟩ := e4.get (pat_get (by rw [List.length_map]; exact hi))
      have hA := hs.ex _ _ (e _ _ e2)
      refine ⟨⟨us, u, SqT.of hA, hu⟩, fun x H' ⟨T, x1, e5, e6, e7, e8⟩ => ?_⟩
      subst e5 e7
      obtain rfl : u = x1 := by have := e8 us (SqT.of hA); rw [hu] at this; exact Option.some.inj this
      have gT : G T = none := by
        cases z : G T with
        | none => rfl
        | some o => have := hs.ex _ _ z; rw [e6] at this; cases this
      exact ⟨_, hs.re.back (hs.data e6), T, [.int (i : Nat), u], rfl, upd_same, Nat.le_of_ble_eq_true rfl, .cons rfl (.cons ((Pat (xs.map R) i).mono (e.trans (Ex.new gT)) pu) .nil)⟩
/-- l.clear() -/
theorem k_clear (ha : EV M Γ ta M (.c k)) (hM : M[k]? = some (some (cLs Ps))) (q : KV fx (M.set k (some (cLs []))) Γ D.nx) : KV fx M Γ (tDrop (tBM0 K "list" rClear ta) D) := fun as G σ H g => by
  refine ha (fx.at G as) as G σ H ⟨g.hs.re, g.len, g.env⟩ _ fun x as1 G1 H1 h1 o1 => ?_
  have g1 := g.lift h1
  obtain ⟨a, e1, rfl⟩ := o1
  obtain ⟨c1, o, c2, vs, rfl, c3⟩ := h1.cells k a _ e1 hM
  refine ⟨.inl ⟨rfl, vs, SqL.of c2⟩, a, vs, rfl, rfl, c2, ?_⟩
  exact q as1 G1 σ _ (g1.lift (g1.hs.put e1 hM (C' := cLs []) ⟨[], rfl, .nil⟩))
theorem q_clear (ha : EV M Γ ta M (.c k)) (hM : M[k]? = some (some (cLs Ps))) (q : KV fx (M.set k (some (cLs []))) Γ (tz D)) : KV fx M Γ (tSeq (tDrop (tBM0 K "list" rClear ta)) tz D) := k_clear (D := { D with nx := tz D }) ha hM q
/-- over a list that may still change -/
theorem src_LC {te : TE} (h : EV M Γ te M (.c k)) (hM : M[k]? = some (some (cLs Ps))) : SrcM M Γ (iSeq K te) M (fun M' => M'[k]? = some (some (cLs Ps))) Ps.length (Pat Ps) := fun fx as G σ H g R q =>
  h fx as G σ H g _ fun v as1 G1 H1 h1 ⟨a, e1, e2⟩ => by
    obtain ⟨g1, o, g2, vs, rfl, g3⟩ := h1.cells k a _ e1 hM
    subst e2
    refine ⟨a, rfl, .inl ⟨⟨vs, SqL.of g2⟩, q _ as1 G1 H1 h1 ⟨fun i fx' M' as' G' H' hi hm ha e h2 => ?_, fun i fx' M' as' G' H' hi hm ha e h2 => ?_⟩⟩⟩
    · obtain ⟨k1, o', k2, ws, rfl, k3⟩ := h2.cells k a _ (pre_get ha e1) hm
      obtain ⟨u, hu, pu⟩ := k3.get (pat_get hi)
      refine ⟨⟨ws, u, SqL.of k2, hu⟩, fun x H3 ⟨e5, e6⟩ => ?_⟩
      subst e5
      obtain rfl : u = x := by have := e6 ws (SqL.of k2); rw [hu] at this; exact Option.some.inj this
      exact ⟨G', h2.re, pu⟩
    · obtain ⟨k1, o', k2, ws, rfl, k3⟩ := h2.cells k a _ (pre_get ha e1) hm
      exact ⟨ws, SqL.of k2, by rw [k3.length]; exact hi⟩
theorem src_LC' {α : Type} {xs : List α} {R : α → VP} {te : TE} (h : EV M Γ te M (.c k)) (hM : M[k]? = some (some (cLs (xs.map R)))) : SrcM M Γ (iSeq K te) M (fun M' => M'[k]? = some (some (cLs (xs.map R)))) xs.length (Pat (xs.map R)) := by
  have q := src_LC (K := K) h hM
  rwa [List.length_map] at q
end
end PL

namespace PL
open PySem L2
/-! ### what is left of a box without another -/
def pcs : List (List Int) → List (List Int) → List (List (List Int))
  | s :: a, t :: b => ((s.filter fun n => !decide (n ∈ t)) :: a) :: (pcs a b).map ((s.filter fun n => decide (n ∈ t)) :: ·)
  | _, _ => []
theorem pcs_len : ∀ {a b : List (List Int)}, a.length = b.length → (pcs a b).length = a.length
  | [], [], _ => rfl
  | s :: a, t :: b, h => by
    have ih := pcs_len (a := a) (b := b) (by simpa using h)
    unfold pcs
    rw [List.length_cons, List.length_map, ih, List.length_cons]
theorem pcs_get : ∀ {a b : List (List Int)} {i : Nat} (ha : i < a.length) (hb : i < b.length), (pcs a b)[i]? = some ((commons a b).take i ++ (a[i].filter fun n => !decide (n ∈ b[i])) :: a.drop (i + 1))
  | s :: a, t :: b, 0, _, _ => rfl
  | s :: a, t :: b, i + 1, ha, hb => by
    show ((pcs a b).map _)[i]? = _
    rw [List.getElem?_map, pcs_get (a := a) (b := b) (i := i) (by simpa using ha) (by simpa using hb)]
    rfl
theorem pcs_sides {Q : List Int → Prop} (hf : ∀ s (f : Int → Bool), Q s → Q (s.filter f)) : ∀ {a b p : List (List Int)}, (∀ s ∈ a, Q s) → p ∈ pcs a b → ∀ s ∈ p, Q s
  | s :: a, t :: b, p, h, hp => by
    rcases List.mem_cons.mp hp with hp | hp
    · subst hp
      intro u hu
      rcases List.mem_cons.mp hu with hu | hu
      · subst hu; exact hf _ _ (h s List.mem_cons_self)
      · exact h u (List.mem_cons_of_mem _ hu)
    · obtain ⟨q, hq, rfl⟩ := List.mem_map.mp hp
      intro u hu
      rcases List.mem_cons.mp hu with hu | hu
      · subst hu; exact hf _ _ (h s List.mem_cons_self)
      · exact pcs_sides hf (fun s hs => h s (List.mem_cons_of_mem _ hs)) hq u hu
theorem pcs_plen : ∀ {a b p : List (List Int)}, p ∈ pcs a b → p.length = a.length
  | s :: a, t :: b, p, hp => by
    rcases List.mem_cons.mp hp with hp | hp
    · subst hp; rfl
    · obtain ⟨q, hq, rfl⟩ := List.mem_map.mp hp
      rw [List.length_cons, List.length_cons, pcs_plen hq]
theorem pcs_prod : ∀ {a b p : List (List Int)}, p ∈ pcs a b → prodP p ≤ prodP a
  | s :: a, t :: b, p, hp => by
    have hl : ∀ f : Int → Bool, Nat.max 1 (s.filter f).length ≤ Nat.max 1 s.length := fun f => by
      have := List.length_filter_le f s
      show max 1 (s.filter f).length ≤ max 1 s.length
      omega
    rcases List.mem_cons.mp hp with hp | hp
    · subst hp; exact Nat.mul_le_mul (hl _) (Nat.le_refl _)
    · obtain ⟨q, hq, rfl⟩ := List.mem_map.mp hp
      exact Nat.mul_le_mul (hl _) (pcs_prod hq)
theorem mem_cons_combos {s : List Int} {a : List (List Int)} {x : Int} {r : List Int} : x :: r ∈ combos (s :: a) ↔ x ∈ s ∧ r ∈ combos a := by
  show x :: r ∈ (s.flatMap fun x => (combos a).map (x :: ·)) ↔ _
  simp
theorem filter_len_map {α β : Type} (f : α → β) (g : β → Bool) (l : List α) : ((l.map f).filter g).length = (l.filter fun x => g (f x)).length := by
  rw [List.filter_map, List.length_map] <;> rfl
/-- each combination lies in one piece, or in the other box -/
theorem pcs_count : ∀ {a b : List (List Int)} {r : List Int}, a.length = b.length → r ∈ combos a → ((pcs a b).filter fun p => decide (r ∈ combos p)).length + (if r ∈ combos b then 1 else 0) = 1
  | [], [], r, _, hr => by
    have : r = [] := by simpa [combos] using hr
    subst this
    simp [pcs, combos]
  | s :: a, t :: b, r, h, hr => by
    obtain ⟨x, q, rfl⟩ : ∃ x q, r = x :: q := by
      cases r with
      | nil => have := combos_row hr; simp at this
      | cons x q => exact ⟨x, q, rfl⟩
    obtain ⟨hx, hq⟩ := mem_cons_combos.mp hr
    have ih := pcs_count (a := a) (b := b) (r := q) (by simpa using h) hq
    show ((((s.filter fun n => !decide (n ∈ t)) :: a) :: (pcs a b).map ((s.filter fun n => decide (n ∈ t)) :: ·)).filter _).length + _ = 1
    rw [List.filter_cons]
    by_cases hxt : x ∈ t
    · have e1 : ¬ (x :: q ∈ combos ((s.filter fun n => !decide (n ∈ t)) :: a)) := fun z => by
        have := (mem_cons_combos.mp z).1
        simp [hxt] at this
      rw [if_neg (by simpa using e1), filter_len_map]
      have e2 : ∀ p, decide (x :: q ∈ combos ((s.filter fun n => decide (n ∈ t)) :: p)) = decide (q ∈ combos p) := fun p => decide_eq_decide.mpr (by rw [mem_cons_combos]; simp [hx, hxt])
      rw [List.filter_congr fun p _ => e2 p]
      have e3 : (x :: q ∈ combos (t :: b)) ↔ q ∈ combos b := by rw [mem_cons_combos]; simp [hxt]
      by_cases hb : q ∈ combos b
      · rw [if_pos (e3.mpr hb)]; rw [if_pos hb] at ih; exact ih
      · rw [if_neg fun z => hb (e3.mp z)]; rw [if_neg hb] at ih; exact ih
    · have e1 : x :: q ∈ combos ((s.filter fun n => !decide (n ∈ t)) :: a) := mem_cons_combos.mpr ⟨by simp [hx, hxt], hq⟩
      rw [if_pos (by simpa using e1), List.length_cons, filter_len_map]
      have e2 : ∀ p, decide (x :: q ∈ combos ((s.filter fun n => decide (n ∈ t)) :: p)) = false := fun p => decide_eq_false fun z => by
        have := (mem_cons_combos.mp z).1
        simp [hxt] at this
      rw [List.filter_congr fun p _ => e2 p]
      have e3 : ¬ (x :: q ∈ combos (t :: b)) := fun z => hxt (mem_cons_combos.mp z).1
      rw [if_neg e3]
      simp
def goodP (p : List (List Int)) : Bool := !(combos p).isEmpty
theorem good_count {a b : List (List Int)} {r : List Int} (h : a.length = b.length) (hr : r ∈ combos a) : (((pcs a b).filter goodP).filter fun p => decide (r ∈ combos p)).length + (if r ∈ combos b then 1 else 0) = 1 := by
  rw [List.filter_filter]
  have e : ∀ p ∈ pcs a b, (decide (r ∈ combos p) && goodP p) = decide (r ∈ combos p) := fun p _ => by
    by_cases hp : r ∈ combos p
    · rw [decide_eq_true hp]
      unfold goodP
      cases z : combos p with
      | nil => rw [z] at hp; cases hp
      | cons c l => rfl
    · rw [decide_eq_false hp] <;> rfl
  rw [List.filter_congr e]
  exact pcs_count h hr
theorem mem_combos_zip : ∀ {l : List (List Int)} {r : List Int}, r.length = l.length → (r ∈ combos l ↔ ∀ p ∈ r.zip l, p.1 ∈ p.2)
  | [], [], _ => by simp [combos]
  | s :: l, x :: r, h => by
    rw [mem_cons_combos, mem_combos_zip (l := l) (r := r) (by simpa using h)]
    simp
/-! ### what they promise -/
def cSub (C : Addr) : Con where
  ι := List (List Int) × List (List Int)
  pre x := (x.1.length = x.2.length ∧ x.1.length ≤ 1000 ∧ (∀ s ∈ x.1, s.length ≤ 1000) ∧ ∀ s ∈ x.2, s.length ≤ 1000) ∧ x.1 ≠ [] ∧ prodP x.1 ≤ 1000000 ∧ ∀ s ∈ x.1, s.Pairwise (· < ·) ∧ ∀ n ∈ s, 0 ≤ n
  cin _ := []
  args x := [.d (vBox C x.1), .d (vBox C x.2)]
  cout x := [cLs (((pcs x.1 x.2).filter goodP).map (vBox C))]
  ret _ := .c 0
def cContains (C : Addr) : Con where
  ι := List (List Int) × List Int
  pre x := x.2.length = x.1.length ∧ x.1.length ≤ 1000 ∧ ∀ n ∈ x.2, 0 ≤ n
  cin _ := []
  args x := [.d (vBox C x.1), .d (vRow x.2)]
  cout _ := []
  ret x := .d (vV (.bl (decide (x.2 ∈ combos x.1))))
def cPieces : Con where
  ι := List (List Int) × List (List Int)
  pre x := x.1.length = x.2.length ∧ x.1.length ≤ 8 ∧ prodP x.1 ≤ 1000 ∧ (∀ s ∈ x.1, s.length ≤ 1000)
  cin _ := []
  args x := [.d (vSides x.1), .d (vSides x.2)]
  cout _ := []
  ret x := .d (vLs (((pcs x.1 x.2).filter goodP).map vSides))
def HasIn (P : Program) (w : World) (K : PySem.W.Frag) (mg : Str → Option Value) (base : Heap) (C : Addr) (ps : List Str) (lv : Nat) (c : Con) : Prop :=
  ∃ (f : Addr) (fd : FuncData), PySem.W.findIn K (.ref C) "__contains__" = some (some (.ref f)) ∧ PySem.W.isFn K (.ref f) = true ∧ FnOk P w K mg base CX0 lv f fd ps (spC c) ∧ Binds K fd ps []
theorem op_in_ {X : Cx} {C : Addr} {ps : List Str} {lv k : Nat} {c : Con} (h : HasIn X.prog X.w X.K X.mg X.base C ps lv c) (hr : Room k X.A) (hl : lv ≤ k) : OpR X (compareOp .In) (rOwnIn C (spC c) false) := by
  obtain ⟨f, fd, h1, h2, h3, h4⟩ := h
  exact op_ownIn h1 h2 h3 (hr.mono hl) h4
section
variable {K : PySem.W.Frag} {M : List (Option CP)} {k : Nat} {Ps : List VP} {α : Type} {R S : α → VP} {xs : List α}
theorem cb_isiL (hM : M[k]? = some (some (cLs Ps))) : CBV M (rIsi K) [.c k, .d (vV (.ty "list"))] M (.d (vV (.bl true))) := fun fx as G H us h o Q q => by
  cases o with
  | cons o1 o2 => cases o2 with
    | cons o2 o3 =>
      cases o3
      obtain rfl : _ = V.ty "list" := o2
      obtain ⟨a, e1, e2⟩ := o1
      obtain ⟨g1, o, g2, vs, rfl, g3⟩ := h.cells k a _ e1 hM
      subst e2
      exact ⟨_, _, _, _, true, rfl, .ty "list", .base (.lst g2), kit_ty (by decide +kernel), q _ as G H h rfl⟩
theorem sub_TQ (h : ∀ x, Sub (R x) (S x)) : Sub (vTs (xs.map R)) (vQs (xs.map S)) := fun G v ⟨a, vs, h1, h2, h3, h4⟩ => ⟨a, vs, h1, .inr h2, by rw [List.length_map] at *; exact h3, Vs.submap h h4⟩
end
end PL

namespace PL
open PySem L2
/-! ### a list that is lent: data while the call runs, a cell again behind it -/
def cutG (G : Hp) (a : Addr) : Hp := fun b => if b = a then none else G b
theorem cutG_ne {G : Hp} {a b : Addr} (h : b ≠ a) : cutG G a b = G b := by unfold cutG; rw [if_neg h]
theorem cutG_same {G : Hp} {a : Addr} : cutG G a a = none := by unfold cutG; rw [if_pos rfl]
theorem cutG_ex {G : Hp} {a : Addr} : Ex (cutG G a) G := fun b o e => by
  unfold cutG at e
  by_cases h : b = a
  · rw [if_pos h] at e; cases e
  · rw [if_neg h] at e; exact e
/-- it never speaks of a list -/
def NoL (P : VP) : Prop := ∀ (G : Hp) (a : Addr) (us : List V) (v : V), G a = some (.lst us) → P.p G v → P.p (cutG G a) v
theorem noL_V {x : V} : NoL (vV x) := fun G a us v _ h => h
theorem NoL.vs {α : Type} {R : α → VP} {G : Hp} {a : Addr} {us : List V} (h : ∀ x, NoL (R x)) (ha : G a = some (.lst us)) : ∀ {xs : List α} {vs : List V}, Vs G (xs.map R) vs → Vs (cutG G a) (xs.map R) vs
  | [], _, .nil => .nil
  | x :: xs, _, .cons o1 o2 => .cons (h x G a us _ ha o1) (NoL.vs h ha o2)
theorem noL_T {α : Type} {R : α → VP} {xs : List α} (h : ∀ x, NoL (R x)) : NoL (vTs (xs.map R)) := fun G a us v ha ⟨t, vs, e1, e2, e3, e4⟩ => by
  have hne : t ≠ a := fun z => by rw [z, ha] at e2; cases e2
  exact ⟨t, vs, e1, by rw [cutG_ne hne]; exact e2, e3, NoL.vs h ha e4⟩
theorem noL_row {r : List Int} : NoL (vRow r) := noL_T fun _ => noL_V
theorem noL_box {C : Addr} {sides : List (List Int)} : NoL (vBox C sides) := fun G a us v ha ⟨t, dx, ws, e1, e2, e3⟩ => by
  have hne : t ≠ a := fun z => by rw [z, ha] at e2; cases e2
  refine ⟨t, dx, ws, e1, by rw [cutG_ne hne]; exact e2, ?_⟩
  cases e3 with
  | cons h1 r1 => cases r1 with
    | cons h2 r2 =>
      cases r2
      exact .cons (noL_T (fun _ => noL_row) G a us _ ha h1) (.cons (noL_T (fun _ => noL_row) G a us _ ha h2) .nil)
section
variable {K : PySem.W.Frag} {fx fx' : Fx} {M M1 M2 M' : List (Option CP)} {Γ : List Sl} {k : Nat} {P : VP} {Ps : List VP} {rr : List V → Hp → VK → Prop} {ss : List VP}
theorem slots_d {as as' : List Addr} {G : Hp} : ∀ {ss : List VP} {xs : List V}, Slots as G (ss.map Sl.d) xs → Slots as' G (ss.map Sl.d) xs
  | [], _, .nil => .nil
  | _ :: _, _, .cons o1 o2 => .cons o1 (slots_d o2)
/-- the last argument is a list of one's own -/
theorem cb_lend (h : CBV [] rr (ss.map Sl.d ++ [.d (vLs Ps)]) [] (.d P)) (hM : M[k]? = some (some (cLs Ps))) (hz : Ps.length ≤ 16777216) (hP : NoL P) : CBV M rr (ss.map Sl.d ++ [.c k]) M (.d P) := fun fx as G H xs hs o Q q => by
  obtain ⟨xs1, xs2, rfl, o1, o2⟩ : ∃ xs1 xs2, xs = xs1 ++ xs2 ∧ Slots as G (ss.map Sl.d) xs1 ∧ Slots as G [.c k] xs2 := by
    have : ∀ {ss : List VP} {xs : List V}, Slots as G (ss.map Sl.d ++ [.c k]) xs → ∃ xs1 xs2, xs = xs1 ++ xs2 ∧ Slots as G (ss.map Sl.d) xs1 ∧ Slots as G [.c k] xs2 := by
      intro ss
      induction ss with
      | nil => intro xs o; exact ⟨[], xs, rfl, .nil, o⟩
      | cons s ss ih =>
        intro xs o
        cases o with
        | cons o1 o2 =>
          obtain ⟨x1, x2, e, p1, p2⟩ := ih o2
          exact ⟨_ :: x1, x2, by rw [e] <;> rfl, .cons o1 p1, p2⟩
    exact this o
  cases o2 with
  | cons oc on =>
    cases on
    obtain ⟨a, e1, e2⟩ := oc
    subst e2
    obtain ⟨ga, ob, ha, us, eo, hv⟩ := hs.cells k a _ e1 hM
    subst eo
    have ex1 : Ex G (upd G a (.lst us)) := Ex.new ga
    let F' : Hp := fun b => if (upd G a (.lst us) b).isSome then none else H b
    have fE : ∀ b o, F' b = some o → H b = some o ∧ upd G a (.lst us) b = none := fun b o e => by
      have e : (if (upd G a (.lst us) b).isSome then none else H b) = some o := e
      cases z : upd G a (.lst us) b with
      | none => rw [z] at e; exact ⟨by simpa using e, rfl⟩
      | some u => rw [z] at e; simp at e
    have fI : ∀ b o, H b = some o → upd G a (.lst us) b = none → F' b = some o := fun b o e z => by
      show (if (upd G a (.lst us) b).isSome then none else H b) = some o
      rw [z]; simpa using e
    have h0 : Hs ⟨F', upd G a (.lst us), []⟩ [] [] (upd G a (.lst us)) H := by
      refine ⟨fun b o e => ?_, Ex.refl _, List.prefix_refl _, fun b o e => ⟨(fE b o e).1, (fE b o e).2, by simp⟩, rfl, List.nodup_nil, fun b hb => (by cases hb), fun j b C hb => (by cases hb)⟩
      by_cases z : b = a
      · subst z; rw [upd_same] at e; rw [← e]; exact ha
      · rw [upd_ne z] at e; exact hs.ex b o e
    have oa : Slots [] (upd G a (.lst us)) (ss.map Sl.d ++ [.d (vLs Ps)]) (xs1 ++ [.ref a]) := by
      have : ∀ {ss : List VP} {xs1 : List V}, Slots as G (ss.map Sl.d) xs1 → Slots [] (upd G a (.lst us)) (ss.map Sl.d ++ [.d (vLs Ps)]) (xs1 ++ [.ref a]) := by
        intro ss
        induction ss with
        | nil =>
          intro xs1 o
          cases o
          exact .cons ⟨a, us, rfl, upd_same, hz, hv.mono ex1⟩ .nil
        | cons s ss ih =>
          intro xs1 o
          cases o with
          | cons o1 o2 => exact .cons (VP.mono s ex1 o1) (ih o2)
      exact this o1
    refine h ⟨F', upd G a (.lst us), []⟩ [] (upd G a (.lst us)) H _ h0 oa Q fun v as' G2 H2 h2 hv2 => ?_
    have eas : as' = [] := List.eq_nil_of_length_eq_zero h2.len
    subst eas
    have g2a : G2 a = some (.lst us) := h2.g0 a _ upd_same
    have exG : Ex G (cutG G2 a) := fun b o e => by
      have hne : b ≠ a := fun z => by rw [z, ga] at e; cases e
      rw [cutG_ne hne]
      exact h2.g0 b o (by rw [show (Fx.at ⟨F', upd G a (.lst us), []⟩ (upd G a (.lst us)) []).G0 b = upd G a (.lst us) b from rfl, upd_ne hne]; exact e)
    have keep : ∀ b o, H b = some o → G b = none → b ≠ a → H2 b = some o ∧ cutG G2 a b = none := fun b o e z hne => by
      have hf := h2.fr b o (fI b o e (by rw [upd_ne hne]; exact z))
      exact ⟨hf.1, by rw [cutG_ne hne]; exact hf.2.1⟩
    have key : Hs (fx.at G as) M as (cutG G2 a) H2 := by
      refine ⟨cutG_ex.trans h2.ex, exG, List.prefix_refl _, fun b o e => ?_, hs.len, hs.nd, fun b hb => ?_, fun j b C' hb hC => ?_⟩
      · obtain ⟨f1, f2, f3⟩ := hs.fr b o e
        have hne : b ≠ a := fun z => f3 (by rw [z]; exact List.mem_of_getElem? e1)
        obtain ⟨k1, k2⟩ := keep b o f1 f2 hne
        exact ⟨k1, k2, f3⟩
      · by_cases hne : b = a
        · subst hne; rw [h2.ex b _ g2a]; exact fun z => by cases z
        · obtain ⟨o, ho⟩ := Option.ne_none_iff_exists'.mp (hs.al b hb)
          by_cases z : G b = none
          · rw [(keep b o ho z hne).1]; exact fun z => by cases z
          · obtain ⟨u, hu⟩ := Option.ne_none_iff_exists'.mp z
            rw [h2.ex b u (cutG_ex b u (exG b u hu))]; exact fun z => by cases z
      · obtain ⟨g1, o, g2, g3⟩ := hs.cells j b C' hb hC
        by_cases hne : b = a
        · subst hne
          rw [ha] at g2
          cases g2
          exact ⟨cutG_same, _, h2.ex b _ g2a, C'.mono exG g3⟩
        · obtain ⟨k1, k2⟩ := keep b o g2 g1 hne
          exact ⟨k2, o, k1, C'.mono exG g3⟩
    exact q v as (cutG G2 a) H2 (hs.back key) (hP G2 a us v g2a hv2)
end
end PL

namespace PL
open PySem L2
def HasMeth (P : Program) (w : World) (K : PySem.W.Frag) (mg : Str → Option Value) (base : Heap) (C : Addr) (m : Str) (ps : List Str) (lv : Nat) (c : Con) : Prop :=
  ∃ (f : Addr) (fd : FuncData), Cls K C ∧ Meth K C m f ∧ FnOk P w K mg base CX0 lv f fd ps (spC c) ∧ Binds K fd ps []
section
variable {X : Cx} {C : Addr} {m : Str} {ps : List Str} {lv k : Nat} {c : Con} {o e : Expr} {es : List Expr} {ta : TE} {t : TA} {apos pos : Pos}
theorem pe_methB {pl : Sem Bool} (h : HasMeth X.prog X.w X.K X.mg X.base C m ps lv c) (he : PE X o ta) (hr : Room k X.A) (hl : lv ≤ k) (ha : PA X (e :: es) t)
    (hst : starEach (e :: es) X.env = (false, eval e X.env) :: starEach es X.env := by rfl) (hpl : (backTo pos (starEach es X.env)).any (·.1) = false := by rfl)
    (ht : eval (.Call (.Attribute o m apos) (e :: es) [] pos) X.env = (do
      let ov ← eval o X.env
      standAt apos.atName
      let (f, first) ← holding [ov] (getMethod ov m pl)
      callWith pos f first (backTo pos (starEach (e :: es) X.env)) (backToKw pos (keywordEach [] X.env))) := by rfl) : PE X (.Call (.Attribute o m apos) (e :: es) [] pos) (tMeth C m (spC c) [] E0 ta t) := by
  obtain ⟨f, fd, h1, h2, h3, h4⟩ := h
  exact pe_meth (pl := pl) he h1 h2 h3 (hr.mono hl) h4 .nil pass0 ha hst hpl ht
end
section
variable {K : PySem.W.Frag} {fx fx' : Fx} {M M1 M2 M3 M' : List (Option CP)} {Γ : List Sl} {ta : TE} {tr : TA} {j : Nat} {m : Str} {C : Addr} {fs : List (Str × VP)} {ss : List Sl} {s : Sl} {sp : Sp} {E : XK}
theorem ev_meth (ho : EV M Γ ta M1 (.d (vIns C fs))) (hl : fs.lookup m = none) (ha : EA M1 Γ tr M2 ss) (hc : CBV M2 (fun vs H Q => sp (vs ++ []) H Q E) (.d (vIns C fs) :: ss) M3 s) : EV M Γ (tMeth C m sp [] E ta tr) M3 s := fun fx as G σ H g Q q => by
  refine ho (fx.at G as) as G σ H ⟨g.hs.re, g.len, g.env⟩ _ fun x as1 G1 H1 h1 o1 => ?_
  have g1 := g.lift h1
  obtain ⟨a, dx, ws, e1, e2, e3⟩ := id o1
  refine ⟨a, dx, ws, e1, h1.ex _ _ e2, e3.nolook hl, ?_⟩
  refine ha (fx.at G1 as1) as1 G1 σ H1 ⟨g1.hs.re, g1.len, g1.env⟩ _ fun vs as2 G2 H2 h2 o2 => ?_
  exact hc fx as2 G2 H2 (x :: vs) (g1.lift h2).hs (.cons (VP.mono _ h2.g0 o1) o2) Q q
theorem on_KC {α : Type} [DecidableEq α] {xs ys : List α} (k : DK α) (hM : M[j]? = some (some (cLs (xs.map k.R)))) (hn : k.n ≤ 63 := by decide) : OPV M (rNe' K) (.c j) (.d (vLs (ys.map k.R))) M (.d (vV (.bl (!decide (xs = ys))))) := opv_r fun fx as G H u v h h1 h2 Q q => by
  obtain ⟨a, e1, e2⟩ := h1
  subst e2
  obtain ⟨c1, o, c2, vs, eo, c3⟩ := h.cells _ a _ e1 hM
  subst eo
  obtain ⟨b, ws, e3, e4, e5, e6⟩ := h2
  have d1 : Dp K H (.ref a) (.list (xs.map k.f)) := .lst (SqL.of c2) ((Dts.map k.dt xs).all h.ex c3)
  have d2 : Dp K H v (.list (ys.map k.f)) := by subst e3; exact .lst (SqL.of (h.ex _ _ e4)) ((Dts.map k.dt ys).all h.ex e6)
  refine ⟨_, _, d1, d2, (dkL k).shaped (by show k.n + 1 ≤ 64; omega) xs, (dkL k).shaped (by show k.n + 1 ≤ 64; omega) ys, ?_⟩
  have := (dkL k).eq xs ys
  have e : PyData.eqv (.list (xs.map k.f)) (.list (ys.map k.f)) = decide (xs = ys) := this
  rw [e]
  exact q _ as G H h rfl
end
def cWith (C : Addr) : Con where
  ι := List (List Int) × Nat × List Int
  pre x := x.2.1 < x.1.length ∧ x.1.length ≤ 1000 ∧ prodP (x.1.set x.2.1 x.2.2) ≤ 1000000 ∧ (∀ s ∈ x.1, (s.Pairwise (· < ·) ∧ ∀ n ∈ s, 0 ≤ n) ∧ s.length ≤ 1000) ∧ x.2.2.length ≤ 1000 ∧ ∀ n ∈ x.2.2, 0 ≤ n
  cin _ := []
  args x := [.d (vBox C x.1), .d (vV (.int (x.2.1 : Nat))), .d (vQs (vIs x.2.2))]
  cout _ := []
  ret x := .d (vBox C (x.1.set x.2.1 (clean x.2.2)))
theorem set_cut {α : Type} {l : List α} {p : Nat} {x : α} (h : p < l.length) : l.take p ++ x :: l.drop (p + 1) = l.set p x := (List.set_eq_take_append_cons_drop ..).trans (if_pos h) |>.symm
theorem prodP_set {l : List (List Int)} {p : Nat} {s t : List Int} (h : s.length ≤ t.length) : prodP (l.set p s) ≤ prodP (l.set p t) := prodP_le (by simp) fun i a b h1 h2 => by
  rw [List.getElem?_set] at h1 h2
  split at h1
  · split at h1
    · rename_i e1 e2
      rw [if_pos e1, if_pos e2] at h2
      cases h1; cases h2; exact h
    · cases h1
  · rename_i e1
    rw [if_neg e1] at h2
    rw [h1] at h2
    cases h2; exact Nat.le_refl _
end PL

namespace PL
open PySem L2
theorem prodP_max : ∀ {l m : List (List Int)}, l.length = m.length → (∀ (i : Nat) (a b : List Int), l[i]? = some a → m[i]? = some b → max 1 a.length ≤ max 1 b.length) → prodP l ≤ prodP m
  | [], [], _, _ => Nat.le_refl _
  | a :: l, b :: m, hl, h => Nat.mul_le_mul (h 0 a b rfl rfl) (prodP_max (l := l) (m := m) (by simpa using hl) fun i => h (i + 1))
theorem prodP_rev : ∀ l : List (List Int), prodP l.reverse = prodP l
  | [] => rfl
  | a :: l => by
    rw [List.reverse_cons, prodP_snoc, prodP_rev l, Nat.mul_comm] <;> rfl
theorem prodP_one {l : List (List Int)} {i : Nat} {x : Int} : prodP (l.set i [x]) ≤ prodP l := prodP_max (by simp) fun j a b h1 h2 => by
  rw [List.getElem?_set] at h1
  split at h1
  · split at h1
    · cases h1; exact Nat.le_max_left _ _
    · cases h1
  · rw [h1] at h2; cases h2; exact Nat.le_refl _
theorem prodP_set_le : ∀ {l : List (List Int)} {i : Nat} {s : List Int}, prodP (l.set i s) ≤ prodP l * Nat.max 1 s.length
  | [], _, s => by
    show 1 ≤ 1 * max 1 s.length
    omega
  | a :: l, 0, s => by
    show Nat.max 1 s.length * prodP l ≤ Nat.max 1 a.length * prodP l * Nat.max 1 s.length
    have h1 : prodP l ≤ Nat.max 1 a.length * prodP l := prodP_tail a l
    rw [Nat.mul_comm]
    exact Nat.mul_le_mul h1 (Nat.le_refl _)
  | a :: l, i + 1, s => by
    show Nat.max 1 a.length * prodP (l.set i s) ≤ Nat.max 1 a.length * prodP l * Nat.max 1 s.length
    rw [Nat.mul_assoc]
    exact Nat.mul_le_mul (Nat.le_refl _) prodP_set_le
theorem clean_one (x : Int) : clean [x] = [x] := clean_self (by simp)
section
variable {K : PySem.W.Frag} {M M1 : List (Option CP)} {Γ : List Sl} {te : TE} {tr : TA} {j n : Nat} {F : Nat → VP}
/-- [e for j in range(n)] -/
theorem ev_lcR (h : EA M Γ tr M [.d (vV (.int (n : Nat)))]) (hn : n ≤ 1000000) (he : ∀ i, i < n → EV M ((Γ.set j .u).set j (.d (vV (.int (i : Nat))))) te M (.d (F i))) : EV M Γ (tLc (iRng1 tr) (gName j) tYes te [j]) M (.d (vLs ((List.range n).map F))) := by
  have h0 := src_R1 h (by omega)
  rw [Int.toNat_natCast] at h0
  have hs : SrcM M Γ (iRng1 tr) M (fun _ => True) (List.range n).length (Pat ((List.range n).map fun i => vV (.int (i : Nat)))) := by
    rw [List.length_range]
    exact src_to h0 fun i hi => by rw [pat_map (by rw [List.length_range]; exact hi), List.getElem_range]
  exact ev_lcN (F := F) hs (by rw [List.length_range]; omega) fun i hi => he i (List.mem_range.mp hi)
end
end PL

open PL L2 PySem
local macro_rules | `(tactic| walk_at "pl_s") => `(tactic| first | rfl | exact Nat.le_of_ble_eq_true rfl | decide | omega | (unfold CMul; omega) | (unfold CDivN; omega) | (unfold CPow; omega) | (constructor <;> omega) | assumption)
local macro_rules | `(tactic| walk_at "pl_o") => `(tactic| first
  | with_reducible apply oa_int
  | with_reducible apply oq_int
  | with_reducible apply on_int
  | ((with_reducible apply oq_s); rfl)
  | ((with_reducible apply on_s); rfl)
  | with_reducible apply opv_I0
  | ((with_reducible apply opv_I); walk_at "pl_s")
  | ((with_reducible apply opv_ixC'); exact rfl; exact rfl)
  | ((with_reducible apply opv_ixL); exact rfl)
  | ((with_reducible apply opv_ixT); exact rfl)
  | ((with_reducible apply oa_L); walk_at "pl_s")
  | ((with_reducible apply oa_T); walk_at "pl_s"))
local macro_rules | `(tactic| walk_at "pl_cb") => `(tactic| first
  | with_reducible apply ln_L | with_reducible apply ln_T | with_reducible apply ln_Q | ((with_reducible apply ln_C); exact rfl)
  | with_reducible apply in_i | with_reducible apply in_b | with_reducible apply mx_2 | with_reducible apply mn_2
  | with_reducible apply li_L | with_reducible apply li_T | with_reducible apply li_Q
  | with_reducible apply tu_L | with_reducible apply tu_T | with_reducible apply tu_Q
  | with_reducible apply cb_sorted | with_reducible apply cb_all | with_reducible apply cb_any | with_reducible apply cb_sum | with_reducible apply ln_K)
local macro_rules | `(tactic| walk_at "pl_ad") => `(tactic| repeat (first | exact AllD.nil | with_reducible apply AllD.cons | apply AllD.cons))
local macro_rules | `(tactic| walk_at "pl_e") => `(tactic| first
  | ((with_reducible show EV _ _ (tC _) _ _); exact ev_c)
  | ((with_reducible show EV _ _ (tVar _) _ _); first | exact ev_varD rfl | exact ev_varC rfl)
  | ((with_reducible apply ev_op); walk_at "pl_e"; walk_at "pl_e"; walk_at "pl_o")
  | ((with_reducible apply ev_un); walk_at "pl_e"; with_reducible apply unv_U)
  | ((with_reducible apply ev_cb); walk_at "pl_a"; walk_at "pl_cb")
  | ((with_reducible apply ev_tup); walk_at "pl_a"; walk_at "pl_ad"; walk_at "pl_s")
  | ((with_reducible apply ev_lst); walk_at "pl_a"; walk_at "pl_ad"; walk_at "pl_s")
  | ((with_reducible apply ev_sl); walk_at "pl_e"; walk_at "pl_i"; walk_at "pl_i"; first | with_reducible apply sl_L | with_reducible apply sl_T)
  | ((with_reducible apply ev_notV); walk_at "pl_e")
  | ((with_reducible apply ev_cl); walk_at "pl_a"; walk_at "pl_call"))
local macro_rules | `(tactic| walk_at "pl_i") => `(tactic| first | with_reducible apply eo_none | ((with_reducible apply eo_some); walk_at "pl_e"))
local macro_rules | `(tactic| walk_at "pl_a") => `(tactic| first
  | ((with_reducible show EA _ _ tNil _ _); exact ea_nil)
  | ((with_reducible apply ea_cons); walk_at "pl_e"; walk_at "pl_a"))
local macro_rules | `(tactic| walk_at "pl_t") => `(tactic| first
  | ((with_reducible apply et_test); walk_at "pl_e")
  | ((with_reducible apply et_B); walk_at "pl_e")
  | ((with_reducible apply et_not); walk_at "pl_t")
  | with_reducible apply et_yes
  | ((with_reducible apply tr_B); walk_at "pl_e")
  | ((with_reducible apply tr_L); walk_at "pl_e")
  | ((with_reducible apply tr_T); walk_at "pl_e")
  | ((with_reducible apply tr_Q); walk_at "pl_e")
  | ((with_reducible apply tr_I); walk_at "pl_e"))
local macro_rules | `(tactic| walk_at "asg") => `(tactic| first | refine q_asg (by walk_at "pl_e") ?_ | (refine k_asg (by walk_at "pl_e") ?_; dsimp only))
local macro_rules | `(tactic| walk_at "nop") => `(tactic| (refine k_nop ?_; dsimp only))
local macro_rules | `(tactic| walk_at "pl_cle") => `(tactic| repeat (first | exact CLe.nil | exact CLe.rfl | exact CLe.sub csub_src CLe.rfl | exact CLe.sub csub_src CLe.nil | refine CLe.sub csub_src ?_ | refine CLe.same ?_ | refine CLe.drop ?_))
local macro_rules | `(tactic| walk_at "pl_sle") => `(tactic| first | exact sle_d | exact sle_c | exact sle_u | (refine sle_s ?_; first | exact Sub.rfl | exact sub_lq | exact sub_tq | (refine sub_in _ ?_ Sub.rfl)))
local macro_rules | `(tactic| walk_at "pl_gle") => `(tactic| repeat (first | exact GLe.nil | (refine GLe.cons (by first | exact sle_d | exact sle_c | exact sle_u) ?_)))
local macro_rules | `(tactic| walk_at "pl_call") => `(tactic| first
  | ((with_reducible apply cb_draw); exact rfl; walk_at "pl_s"))

namespace Pl
def top (i : Nat) : Stmt := PySem.Challenge.pw_plainask_k07_box_with_side.main.body.getD i (.Pass ⟨0, 0, 0, 0⟩)
abbrev s_l_cell : Stmt := top 15
theorem sc_l_cell : FnScope ["_law_script", "_law_k"] ["_law_script", "_law_k"] (defScope s_l_cell) := ⟨rfl, rfl, rfl, by decide +kernel, rfl, by decide +kernel, by decide +kernel⟩
abbrev s_l_source : Stmt := top 16
theorem sc_l_source : FnScope ["_law_cell_here"] ["_law_cell_here"] (defScope s_l_source) := ⟨rfl, rfl, rfl, by decide +kernel, rfl, by decide +kernel, by decide +kernel⟩
abbrev s_l_draw : Stmt := top 17
theorem sc_l_draw : FnScope ["_law_source_here", "_law_limit", "_law_digit", "_law_mixed"] ["_law_source_here", "_law_limit"] (defScope s_l_draw) := ⟨rfl, rfl, rfl, by decide +kernel, rfl, by decide +kernel, by decide +kernel⟩
abbrev s_l_draw_sides : Stmt := top 21
theorem sc_l_draw_sides : FnScope ["_law_shape", "_law_source_here", "_law_many", "_law_span", "_law_sides", "_law_room", "_law_k", "_law_size", "_law_at"] ["_law_shape", "_law_source_here", "_law_many", "_law_span"] (defScope s_l_draw_sides) := ⟨rfl, rfl, rfl, by decide +kernel, rfl, by decide +kernel, by decide +kernel⟩
abbrev s_l_combos : Stmt := top 20
theorem sc_l_combos : FnScope ["_law_sides", "_law_behind", "_law_rows", "_law_standing", "_law_row"] ["_law_sides"] (defScope s_l_combos) := ⟨rfl, rfl, rfl, by decide +kernel, rfl, by decide +kernel, by decide +kernel⟩
abbrev s_l_clean : Stmt := top 22
theorem sc_l_clean : FnScope ["_law_side", "_law_kept", "_law_standing", "_law_s"] ["_law_side"] (defScope s_l_clean) := ⟨rfl, rfl, rfl, by decide +kernel, rfl, by decide +kernel, by decide +kernel⟩
abbrev s_is_integer : Stmt := top 1
theorem sc_is_integer : FnScope ["value"] ["value"] (defScope s_is_integer) := ⟨rfl, rfl, rfl, by decide +kernel, rfl, by decide +kernel, by decide +kernel⟩
abbrev s_is_natural : Stmt := top 2
theorem sc_is_natural : FnScope ["value"] ["value"] (defScope s_is_natural) := ⟨rfl, rfl, rfl, by decide +kernel, rfl, by decide +kernel, by decide +kernel⟩
abbrev s_every_combination : Stmt := top 4
theorem sc_every_combination : FnScope ["sides", "found", "side", "start", "standing"] ["sides"] (defScope s_every_combination) := ⟨rfl, rfl, rfl, by decide +kernel, rfl, by decide +kernel, by decide +kernel⟩
abbrev s_tidy : Stmt := top 9
theorem sc_tidy : FnScope ["side", "known", "standing"] ["side"] (defScope s_tidy) := ⟨rfl, rfl, rfl, by decide +kernel, rfl, by decide +kernel, by decide +kernel⟩
abbrev s_missing : Stmt := top 11
theorem sc_missing : FnScope ["side", "other", "known", "standing"] ["side", "other"] (defScope s_missing) := ⟨rfl, rfl, rfl, by decide +kernel, rfl, by decide +kernel, by decide +kernel⟩
abbrev s_Box_init : Stmt := inClass (top 13) 0
theorem sc_Box_init : FnScope ["self", "sides", "side"] ["self", "sides"] (defScope s_Box_init) := ⟨rfl, rfl, rfl, by decide +kernel, rfl, by decide +kernel, by decide +kernel⟩
abbrev s_l_is_integer : Stmt := top 18
theorem sc_l_is_integer : FnScope ["_law_actual"] ["_law_actual"] (defScope s_l_is_integer) := ⟨rfl, rfl, rfl, by decide +kernel, rfl, by decide +kernel, by decide +kernel⟩
abbrev s_l_is_numbers : Stmt := top 19
theorem sc_l_is_numbers : FnScope ["_law_actual", "_law_expected", "_law_k"] ["_law_actual", "_law_expected"] (defScope s_l_is_numbers) := ⟨rfl, rfl, rfl, by decide +kernel, rfl, by decide +kernel, by decide +kernel⟩
abbrev s_l_is_sides : Stmt := top 23
theorem sc_l_is_sides : FnScope ["_law_actual", "_law_expected", "_law_k"] ["_law_actual", "_law_expected"] (defScope s_l_is_sides) := ⟨rfl, rfl, rfl, by decide +kernel, rfl, by decide +kernel, by decide +kernel⟩
abbrev s_l_is_rows : Stmt := top 24
theorem sc_l_is_rows : FnScope ["_law_actual", "_law_expected", "_law_k"] ["_law_actual", "_law_expected"] (defScope s_l_is_rows) := ⟨rfl, rfl, rfl, by decide +kernel, rfl, by decide +kernel, by decide +kernel⟩
abbrev s_Box_iter : Stmt := inClass (top 13) 2
theorem sc_Box_iter : FnScope ["self"] ["self"] (defScope s_Box_iter) := ⟨rfl, rfl, rfl, by decide +kernel, rfl, by decide +kernel, by decide +kernel⟩
abbrev s_Box_with_side : Stmt := inClass (top 13) 7
theorem sc_Box_with_side : FnScope ["self", "party", "side"] ["self", "party", "side"] (defScope s_Box_with_side) := ⟨rfl, rfl, rfl, by decide +kernel, rfl, by decide +kernel, by decide +kernel⟩
abbrev s_law : Stmt := top 25
theorem sc_law : FnScope ["_law_script", "_law_shape", "_law_source_here", "_law_span", "_law_sides", "_law_other", "_law_party", "_law_clean_here", "_law_box", "_law_passed", "_law_changed", "_law_expected", "_law_back", "_law_k", "_law_turned", "_law_at", "_law_side"] ["_law_script"] (defScope s_law) := ⟨rfl, rfl, rfl, by decide +kernel, rfl, by decide +kernel, by decide +kernel⟩
section
variable {P : Program} {w : World} {K : PySem.W.Frag} {mg : Str → Option Value} {base : Heap}
theorem ok_draw (B : Bl mg) {f : Addr} {fd : FuncData} (F : Fun K "_law_draw" "_law_draw" s_l_draw f fd) : FnOk P w K mg base CX0 1 f fd ["_law_source_here", "_law_limit"] (spC cDraw) := by
  refine fn_con' F sc_l_draw (hbody := fun cdv A outer s H E hr => ⟨_, (pss_cons (ps_asg (pe_op (op_add' K) (pe_ix (ix' K) (pv 0) pe_int (fun _ _ => rfl)) pe_int) (pg_sub (pv 0) pe_int set_list))
    (pss_cons (ps_if (pt_cmpR op_gt (pe_ix (ix' K) (pv 0) pe_int (fun _ _ => rfl)) pe_int (nomark _)) (pss_cons (ps_set (i := 2) sc_l_draw.nd rfl (Or.inl rfl) (pe_op op_modN (pe_callTy call_int' rfl B.int (by decide +kernel) (pa_cons (pe_ix (ix' K) (pv 0) pe_int (fun _ _ => rfl)) pa_nil)) (pv 1)))
    (pss_cons (ps_asg (pe_op op_fdivN (pe_ix (ix' K) (pv 0) pe_int (fun _ _ => rfl)) (pv 1)) (pg_sub (pv 0) pe_int set_list))
    (pss_one (ps_ret (pv 2))))) pss_nil)
    (pss_cons (ps_set (i := 3) sc_l_draw.nd rfl (Or.inl rfl) (pe_op op_modN (pe_callTy call_int' rfl B.int (by decide +kernel) (pa_cons (pe_op (op_add' K) (pe_op op_mul (pe_ix (ix' K) (pv 0) pe_int (fun _ _ => rfl)) pe_int) (pe_op op_mul (pe_ix (ix' K) (pv 0) pe_int (fun _ _ => rfl)) pe_int)) pa_nil)) pe_int))
    (pss_cons (ps_set (i := 3) sc_l_draw.nd rfl (Or.inl rfl) (pe_op op_modN (pe_callTy call_int' rfl B.int (by decide +kernel) (pa_cons (pe_op (op_add' K) (pe_op (op_add' K) (pe_op op_mul (pv 3) (pv 3)) (pe_op op_mul (pe_ix (ix' K) (pv 0) pe_int (fun _ _ => rfl)) pe_int)) pe_int) pa_nil)) pe_int))
    (pss_one (ps_ret (pe_op op_modN (pe_callTy call_int' rfl B.int (by decide +kernel) (pa_cons (pe_op (op_add' K) (pe_op op_fdivN (pv 3) pe_int) (pe_op op_mul (pv 3) pe_int)) pa_nil)) (pv 1)))))))), fun (n : Int) hn fx Q hq hl => ?_⟩)
  obtain ⟨h0, h1⟩ := hn
  refine kv_src 0 rfl fun x y z => ?_
  refine q_setitem (j := 1) (by walk_at "pl_e") (by walk_at "pl_e") (by walk_at "pl_e") rfl rfl ?_
  refine q_when (by walk_at "pl_t") (fun c => ?_) (fun c => ?_)
  · walk_at "asg"
    refine q_setitem (j := 0) (by walk_at "pl_e") (by walk_at "pl_e") (by walk_at "pl_e") rfl rfl ?_
    apply k_retW hq
    · walk_at "pl_e"
    · walk_at "pl_cle"
    · walk_at "pl_sle"
      exact fmod_r h0
  · walk_at "asg"
    have b1 := fmod_r (a := z * 48271 + (y + 1) * 69621) (n := 2147483647) (by decide)
    generalize (z * 48271 + (y + 1) * 69621).fmod 2147483647 = m1 at *
    walk_at "asg"
    have b2 := fmod_r (a := m1 * m1 + (y + 1) * 40692 + 7) (n := 2147483629) (by decide)
    generalize (m1 * m1 + (y + 1) * 40692 + 7).fmod 2147483629 = m2 at *
    apply k_retW hq
    · walk_at "pl_e"
    · walk_at "pl_cle"
    · walk_at "pl_sle"
      exact fmod_r h0
end

section
variable {P : Program} {w : World} {K : PySem.W.Frag} {mg : Str → Option Value} {base : Heap} {f : Addr} {fd : FuncData}
theorem ok_source (F : Fun K "_law_source" "_law_source" s_l_source f fd) : FnOk P w K mg base CX0 1 f fd ["_law_cell_here"] (spC cSource) := by
  refine fn_con' F sc_l_source (hbody := fun cdv A outer s H E hr => ⟨_, (pss_cons (ps_if (pt_cmpR op_ge (pv 0) (pe_op op_pow pe_int pe_int) (nomark _)) (pss_one (ps_ret (pe_lst (pa_cons (pv 0) (pa_cons pe_int (pa_cons (pv 0) pa_nil)))))) pss_nil)
    (pss_one (ps_ret (pe_lst (pa_cons pe_int (pa_cons pe_int (pa_cons (pv 0) pa_nil))))))), fun (n : Int) _ fx Q hq hl => ?_⟩)
  refine q_when (by walk_at "pl_t") (fun c => ?_) (fun c => ?_)
  · apply k_retW hq
    · apply ev_lstC
      · walk_at "pl_a"
      · walk_at "pl_ad"
      · walk_at "pl_s"
    · walk_at "pl_cle"
    · walk_at "pl_sle"
  · apply k_retW hq
    · apply ev_lstC
      · walk_at "pl_a"
      · walk_at "pl_ad"
      · walk_at "pl_s"
    · walk_at "pl_cle"
    · walk_at "pl_sle"
theorem ok_cell (B : Bl mg) (F : Fun K "_law_cell" "_law_cell" s_l_cell f fd) : FnOk P w K mg base CX0 1 f fd ["_law_script", "_law_k"] (spC (cCell K)) := by
  refine fn_con' F sc_l_cell (hbody := fun cdv A outer s H E hr => ⟨_, (pss_cons (ps_if (pt_cmpR op_lt (pv 1) (pe_callB (call_len' K) rfl B.len PySem.boot_len (pa_cons (pv 0) pa_nil)) (nomark _)) (pss_one (ps_ret (pe_ix (ix' K) (pv 0) (pv 1) (fun _ _ => rfl)))) pss_nil)
    (pss_one (ps_ret pe_int))), fun (x : List Int × Int) hx fx Q hq hl => ?_⟩)
  obtain ⟨ns, n⟩ := x
  have hx : 0 ≤ n := hx
  refine q_when (by walk_at "pl_t") (fun c => ?_) (fun c => ?_)
  · have c : n < (ns.length : Int) := of_decide_eq_true c
    have hn : n.toNat < ns.length := by omega
    apply k_retW hq
    · refine ev_op (by walk_at "pl_e") (by walk_at "pl_e") (opv_ixK (m := ns[n.toNat]) (at_of' (j := n.toNat) (by omega) (List.getElem?_eq_getElem hn)))
    · walk_at "pl_cle"
    · walk_at "pl_sle"
      trivial
  · apply k_retW hq
    · walk_at "pl_e"
    · walk_at "pl_cle"
    · walk_at "pl_sle"
      trivial
theorem ok_draw_sides (B : Bl mg) (h_l_draw : Has P w K mg base "_law_draw" ["_law_source_here", "_law_limit"] 1 cDraw) (F : Fun K "_law_draw_sides" "_law_draw_sides" s_l_draw_sides f fd) :
    FnOk P w K mg base CX0 2 f fd ["_law_shape", "_law_source_here", "_law_many", "_law_span"] (spC cDrawSides) := by
  refine fn_con' F sc_l_draw_sides (hbody := fun cdv A outer s H E hr => ⟨_, (pss_cons (ps_set (i := 4) sc_l_draw_sides.nd rfl (Or.inl rfl) (pe_lst pa_nil))
    (pss_cons (ps_set (i := 5) sc_l_draw_sides.nd rfl (Or.inl rfl) pe_int)
    (pss_cons (ps_for PassesOwn.never rfl (pi_range1 rfl B.range (pa_cons (pv 2) pa_nil)) (pg_name (i := 6) sc_l_draw_sides.nd rfl (Or.inl rfl)) (pss_cons (ps_set (i := 7) sc_l_draw_sides.nd rfl (Or.inl rfl) (pe_has h_l_draw hr (by first | decide | omega) rfl (pa_cons (pv 0) (pa_cons (pe_ix (ix' K) (pe_lst (pa_cons pe_int (pa_cons pe_int (pa_cons pe_int (pa_cons pe_int pa_nil))))) (pe_has h_l_draw hr (by first | decide | omega) rfl (pa_cons (pv 0) (pa_cons pe_int pa_nil))) (fun _ _ => rfl)) pa_nil))))
    (pss_cons (ps_if (pt_cmpR op_gt (pv 7) (pv 5) (nomark _)) (pss_one (ps_set (i := 7) sc_l_draw_sides.nd rfl (Or.inl rfl) pe_int)) pss_nil)
    (pss_cons (ps_set (i := 5) sc_l_draw_sides.nd rfl (Or.inl rfl) (pe_op op_fdivN (pv 5) (pe_callB (call_max2' rfl) rfl B.max (by decide +kernel) (pa_cons pe_int (pa_cons (pv 7) pa_nil)))))
    (pss_one (ps_expr (pe_app' K (pv 4) (pe_lc (own := [("_law_at", 8)]) rfl sc_l_draw_sides.nd (pi_range1 rfl B.range (pa_cons (pv 7) pa_nil)) (blkOk_by (own := [("_law_at", 8)]) (N := ["_law_shape", "_law_source_here", "_law_many", "_law_span", "_law_sides", "_law_room", "_law_k", "_law_size", "_law_at"]) (sc := defScope s_l_draw_sides) (by decide +kernel)) (fun _ _ _ _ _ => (pg_name (i := 8) sc_l_draw_sides.nd rfl (Or.inl rfl))) (fun _ _ _ _ _ => pts_nil) (fun _ _ _ _ _ => (pe_has h_l_draw hr (by first | decide | omega) rfl (pa_cons (pv 1) (pa_cons (pv 3) pa_nil))))))))))))
    (pss_one (ps_ret (pv 4)))))), fun (x : Int × Int) hx fx Q hq hl => ?_⟩)
  obtain ⟨many, span⟩ := x
  obtain ⟨hm0, hm1, hs0, hs1⟩ := (show 0 ≤ many ∧ many ≤ 1000 ∧ 0 < span ∧ span < 1073741824 from hx)
  refine q_asg (ev_lstC ea_nil .nil) ?_
  walk_at "asg"
  refine q_for (δ := List (List Int) × Int) (src_R1 (n := many) (by walk_at "pl_a") (by omega))
    (fun i d => d.1.length = i ∧ 1 ≤ d.2 ∧ (prodP d.1 : Int) * d.2 ≤ 96 ∧ ∀ s ∈ d.1, s.length ≤ 39 ∧ ∀ x ∈ s, 0 ≤ x ∧ x < span)
    (fun d => [some cSrc, some cSrc, some (cLs (d.1.map fun s => vLs (vIs s)))])
    (fun d => [.c 0, .c 1, .d (vV (.int many)), .d (vV (.int span)), .c 2, .d (vV (.int d.2)), .u, .u, .u])
    _ ([], 96) ?_ rfl (by walk_at "pl_gle") (fun i d hi hI => ⟨_, gt_name⟩) (fun fx' le hl' i d hi hI => ?_) (fun d hI => ?_)
  · exact ⟨rfl, by decide, by decide, fun s hs => by simp at hs⟩
  · obtain ⟨sides, room⟩ := d
    obtain ⟨e1, e2, e3, e4⟩ := hI
    dsimp only at e1 e2 e3 e4
    refine q_asgE (I := fun r : Int => 0 ≤ r ∧ r < 40) (R := fun r => vV (.int r)) (M' := [some cSrc, some cSrc, some (cLs (sides.map fun s => vLs (vIs s)))]) ?_ fun size hsz => ?_
    · refine ev_cl (ea_cons (ev_varC rfl) (ea_cons (ev_op (ev_lst (Ps := vIs [3, 4, 5, 40]) (by walk_at "pl_a") (by walk_at "pl_ad")) (ev_cl (by walk_at "pl_a") (cb_draw (n := 4) rfl (by decide))) (opv_pick (ns := [3, 4, 5, 40]) fun r hr => hr)) ea_nil)) (cb_drawE 40 rfl (fun r hr => ?_) (by decide))
      simp at hr; omega
    refine q_whenI (m := 1) (n := size) (by walk_at "pl_t") (fun _ => by walk_at "pl_e") rfl ?_
    have hz : (if decide (room < size) = true then 1 else size) ≤ room ∨ (if decide (room < size) = true then 1 else size) = 1 := by
      by_cases h : room < size
      · right; rw [if_pos (decide_eq_true h)]
      · left; rw [if_neg (by simpa using h)]; omega
    have hz0 : 0 ≤ (if decide (room < size) = true then 1 else size) := by split <;> omega
    have hz1 : (if decide (room < size) = true then 1 else size) < 40 := by split <;> omega
    generalize (if decide (room < size) = true then 1 else size) = size' at hz hz0 hz1 ⊢
    have hmx : (if size' > 1 then size' else 1 : Int) ≠ 0 ∧ (if size' > 1 then size' else 1 : Int).natAbs < 1073741824 := by split <;> omega
    refine q_asg (ev_op (by walk_at "pl_e") (by walk_at "pl_e") (opv_I hmx)) ?_
    obtain ⟨r1, r2⟩ := room_step e2 e3 hz0 hz
    refine k_appendE (ev_varC rfl) rfl (ev_draws (n := size') (m := span) (by walk_at "pl_a") (by omega) fun i => by walk_at "pl_e") ?_ fun rs hrs => ?_
    · rw [List.length_map, e1]; omega
    · dsimp only
      refine k_next' (sides ++ [rs], room.fdiv (if size' > 1 then size' else 1)) ⟨by simp [e1], r1, ?_, ?_⟩ ?_ ?_ ?_ ?_
      · show (prodP (sides ++ [rs]) : Int) * _ ≤ 96
        rw [prodP_snoc]
        have : rs.length = size'.toNat := by have := hrs.1; omega
        rw [this]; exact r2
      · intro s hs
        rcases List.mem_append.mp hs with hs | hs
        · exact e4 s hs
        · rw [List.mem_singleton.mp hs]
          exact ⟨by have := hrs.1; omega, hrs.2⟩
      · rw [show ((sides ++ [rs], room.fdiv (if size' > 1 then size' else 1)) : List (List Int) × Int).1 = sides ++ [rs] from rfl, List.map_append]
        exact CLe.rfl
      · rw [hl']; exact Nat.le_refl _
      · walk_at "pl_gle"
      · intro s hs
        simp only [List.mem_cons, List.mem_nil_iff, or_false] at hs
        rcases hs with rfl | rfl | rfl | rfl | rfl | rfl | rfl | rfl | rfl <;> first | trivial | exact Nat.le_of_ble_eq_true rfl
  · obtain ⟨sides, room⟩ := d
    obtain ⟨e1, e2, e3, e4⟩ := hI
    dsimp only at e1 e2 e3 e4
    refine kv_frz 4 rfl rfl (by rw [List.length_map, e1]; omega) ?_
    apply k_retW hq
    · walk_at "pl_e"
    · walk_at "pl_cle"
    · refine sle_s (sub_in sides ⟨?_, ?_, e4⟩ Sub.rfl)
      · show (sides.length : Int) = many
        omega
      · have : (prodP sides : Int) ≤ prodP sides * room := by
          have := Int.mul_le_mul_of_nonneg_left e2 (show (0 : Int) ≤ prodP sides by omega)
          omega
        omega
end

section
variable {P : Program} {w : World} {K : PySem.W.Frag} {mg : Str → Option Value} {base : Heap} {f : Addr} {fd : FuncData} {n : Nat}
theorem ok_combos (B : Bl mg) (h_l_combos : Has P w K mg base "_law_combos" ["_law_sides"] n (cCombos n)) (F : Fun K "_law_combos" "_law_combos" s_l_combos f fd) :
    FnOk P w K mg base CX0 (n + 1) f fd ["_law_sides"] (spC (cCombos (n + 1))) := by
  refine fn_con' F sc_l_combos (hbody := fun cdv A outer s H E hr => ⟨_, (pss_cons (ps_if (pt_cmpR (op_eq' K hr) (pe_callB (call_len' K) rfl B.len PySem.boot_len (pa_cons (pv 0) pa_nil)) pe_int (nomark _)) (pss_one (ps_ret (pe_lst (pa_cons (pe_tup pa_nil) pa_nil)))) pss_nil)
    (pss_cons (ps_set (i := 1) sc_l_combos.nd rfl (Or.inl rfl) (pe_has h_l_combos hr (by first | decide | omega) rfl (pa_cons (pe_slice (sl_any' K) (pv 0) (po_some pe_int) po_none) pa_nil)))
    (pss_cons (ps_set (i := 2) sc_l_combos.nd rfl (Or.inl rfl) (pe_lst pa_nil))
    (pss_cons (ps_for PassesOwn.never rfl (pi_seq' K (pe_ix (ix' K) (pv 0) pe_int (fun _ _ => rfl))) (pg_name (i := 3) sc_l_combos.nd rfl (Or.inl rfl)) (pss_one (ps_for PassesOwn.never rfl (pi_seq' K (pv 1)) (pg_name (i := 4) sc_l_combos.nd rfl (Or.inl rfl)) (pss_one (ps_expr (pe_app' K (pv 2) (pe_op (op_add' K) (pe_tup (pa_cons (pv 3) pa_nil)) (pv 4))))))))
    (pss_one (ps_ret (pv 2))))))), fun (x : List (List Int)) hx fx Q hq hl => ?_⟩)
  obtain ⟨hn, ht, hp⟩ := (show x.length < n + 1 ∧ x.length ≤ 1000 ∧ prodP x ≤ 1000000 from hx)
  refine q_when (by walk_at "pl_t") (fun c => ?_) (fun c => ?_)
  · have c : ((x.map fun s => vLs (vIs s)).length : Int) = 0 := of_decide_eq_true c
    rw [List.length_map] at c
    obtain rfl : x = [] := List.eq_nil_of_length_eq_zero (by omega)
    apply k_retW hq
    · walk_at "pl_e"
    · walk_at "pl_cle"
    · exact sle_d
  · have c : ¬ ((x.map fun s => vLs (vIs s)).length : Int) = 0 := of_decide_eq_false c
    cases x with
    | nil => exact absurd rfl c
    | cons s r =>
    have hpr := prodP_tail s r
    refine q_asg (s := .d (vRows (combos r))) (M' := []) (ev_cl (by walk_at "pl_a") (cb_pure (c := cCombos n) r ⟨by rw [List.length_cons] at hn; omega, by rw [List.length_cons] at ht; omega, by omega⟩ (.cons (sle_s ?_) .nil))) ?_
    · have e : cutP ((s :: r).map fun s => vLs (vIs s)) (some 1) none = r.map fun s => vLs (vIs s) := cutP_from (s :: r) _ 1
      rw [e]; exact Sub.rfl
    refine q_asg (ev_lstC ea_nil .nil) ?_
    have hc := combos_cons_len s r
    have hcl := combos_len (s :: r)
    refine q_forX (R := fun n => vV (.int n)) (xs := s) (δ := List (List Int)) (src_Lm (ev_op (by walk_at "pl_e") (by walk_at "pl_e") (opv_ixL (at_of' (j := 0) rfl rfl)))) (fun i d => d = (s.take i).flatMap fun x => (combos r).map (x :: ·))
      (fun d => [some (cLs (d.map vRow))]) (fun d => [.d (vSides (s :: r)), .d (vRows (combos r)), .c 0, .u, .u]) [] rfl rfl (by walk_at "pl_gle") (fun fx' le hl' i d x hx hI => ?_) (fun d hI => ?_)
    · refine k_forX (R := vRow) (xs := combos r) (δ := List (List Int)) (src_Lm (by walk_at "pl_e")) (fun j d' => d' = d ++ ((combos r).take j).map (x :: ·))
        (fun d => [some (cLs (d.map vRow))]) (fun d => [.d (vSides (s :: r)), .d (vRows (combos r)), .c 0, .d (vV (.int x)), .u]) d (by simp) rfl (by walk_at "pl_gle") (fun fx2 le2 hl2 k d' row hrow hI2 => ?_) (fun d' hI2 => ?_)
      · have hk := (List.getElem?_eq_some_iff.mp hrow)
        obtain ⟨hk, ek⟩ := hk
        have hi := (List.getElem?_eq_some_iff.mp hx)
        obtain ⟨hi, ei⟩ := hi
        have hld : d.length = i * (combos r).length := by
          rw [hI, flat_len (combos r) (fun x => (x :: ·)), List.length_take]
          rw [Nat.min_eq_left (Nat.le_of_lt hi)]
        have hrl : row.length ≤ 1000 := by rw [combos_row (List.mem_of_getElem? hrow)]; rw [List.length_cons] at ht; omega
        refine k_append (by walk_at "pl_e") rfl (P := vRow (x :: row)) (ev_op (by walk_at "pl_e") (by walk_at "pl_e") (oa_T ?_)) ?_ ?_
        · rw [List.length_map]; show 1 + row.length ≤ _; omega
        · rw [List.length_map, hI2, List.length_append, List.length_map, List.length_take, hld]
          have := Nat.mul_le_mul (Nat.le_refl (combos r).length) (Nat.succ_le_of_lt hi)
          rw [Nat.mul_comm, Nat.succ_mul, Nat.mul_comm _ s.length] at this
          omega
        · dsimp only
          refine k_next' (d' ++ [x :: row]) ?_ ?_ (by rw [hl2]; exact Nat.le_refl _) (by walk_at "pl_gle") (low_all rfl)
          · rw [hI2, take_snoc hk, ek, List.map_append, List.append_assoc] <;> rfl
          · rw [List.map_append]; exact CLe.rfl
      · dsimp only
        refine k_next' d' ?_ CLe.rfl (by rw [hl']; exact Nat.le_refl _) (by walk_at "pl_gle") (low_all rfl)
        obtain ⟨hi, ei⟩ := List.getElem?_eq_some_iff.mp hx
        rw [hI2, take_snoc hi, List.flatMap_append, List.take_length, hI, ei]
        simp
    · rw [List.take_length] at hI
      subst hI
      refine kv_frz 2 rfl rfl (by rw [List.length_map, show (s.flatMap fun x => (combos r).map (x :: ·)) = combos (s :: r) from rfl]; omega) ?_
      apply k_retW hq
      · walk_at "pl_e"
      · walk_at "pl_cle"
      · exact sle_d
theorem combos_has (B : Bl mg) (F : Fun K "_law_combos" "_law_combos" s_l_combos f fd) (m : mg "_law_combos" = some (.ref f)) (k : PySem.W.keepIn K (.ref f) = true) (b : Binds K fd ["_law_sides"] []) : ∀ n, Has P w K mg base "_law_combos" ["_law_sides"] n (cCombos n)
  | 0 => ⟨f, fd, ⟨fun vs H Q E ⟨x, _, _, _, hx, _⟩ => absurd hx.1 (Nat.not_lt_zero _), fun A outer s H args us vs Q E _ _ _ _ ⟨x, _, _, _, hx, _⟩ => absurd hx.1 (Nat.not_lt_zero _)⟩, m, k, b⟩
  | n + 1 => ⟨f, fd, ok_combos B (combos_has B F m k b n) F, m, k, b⟩
theorem ok_clean (B : Bl mg) (F : Fun K "_law_clean" "_law_clean" s_l_clean f fd) : FnOk P w K mg base CX0 1 f fd ["_law_side"] (spC cClean) := by
  refine fn_con' F sc_l_clean (hbody := fun cdv A outer s H E hr => ⟨_, (pss_cons (ps_set (i := 1) sc_l_clean.nd rfl (Or.inl rfl) (pe_lst pa_nil))
    (pss_cons (ps_for PassesOwn.never rfl (pi_seq' K (pe_callB (call_sorted' K) rfl B.sorted (by decide +kernel) (pa_cons (pe_lc (own := [("_law_s", 3)]) rfl sc_l_clean.nd (pi_seq' K (pv 0)) (blkOk_by (own := [("_law_s", 3)]) (N := ["_law_side", "_law_kept", "_law_standing", "_law_s"]) (sc := defScope s_l_clean) (by decide +kernel)) (fun _ _ _ _ _ => (pg_name (i := 3) sc_l_clean.nd rfl (Or.inl rfl))) (fun _ _ _ _ _ => pts_nil) (fun _ _ _ _ _ => (pe_callTy call_int' rfl B.int (by decide +kernel) (pa_cons (pv 3) pa_nil)))) pa_nil))) (pg_name (i := 2) sc_l_clean.nd rfl (Or.inl rfl)) (pss_one (ps_if (PW.pt (pw_or (pt_cmpR (op_eq' K hr) (pv 1) (pe_lst pa_nil) (nomark _)) (pw_or1 (pt_cmpR (op_ne' K hr) (pe_ix (ix' K) (pv 1) (pe_un un_neg pe_int) (fun _ _ => rfl)) (pv 2) (nomark _))))) (pss_one (ps_expr (pe_app' K (pv 1) (pv 2)))) pss_nil)))
    (pss_one (ps_ret (pv 1))))), fun (x : List Int) hx fx Q hq hl => ?_⟩)
  have hx : x.length ≤ 10000 := hx
  refine q_asg (ev_lstC ea_nil .nil) ?_
  refine q_forX (R := fun n => vV (.int n)) (xs := srt x) (δ := List Int) (src_Lm (ev_cb (ea_cons (ev_lcN (R := fun n => vV (.int n)) (F := fun n => vV (.int n)) (src_Lm (by walk_at "pl_e")) (by omega) fun n _ => by walk_at "pl_e") ea_nil) cb_sorted))
    (fun i d => d = ((srt x).take i).foldl stepC []) (fun d => [some (cLs (vIs d))]) (fun d => [.d (vLs (vIs x)), .c 0, .u, .u]) [] rfl rfl (by walk_at "pl_gle") (fun fx' le hl' i d n hn hI => ?_) (fun d hI => ?_)
  · obtain ⟨hi, ei⟩ := List.getElem?_eq_some_iff.mp hn
    have hdl : d.length ≤ i := by
      rw [hI]
      have := foldC_len ((srt x).take i) []
      rw [List.length_take] at this
      simp at this
      omega
    have hsl : (srt x).length ≤ 10000 := by rw [(srt_perm x).length_eq]; exact hx
    have hnx : stepC d n = ((srt x).take (i + 1)).foldl stepC [] := by rw [take_snoc hi, List.foldl_append, hI, ei] <;> rfl
    refine k_whenM (b := (decide (d = []) || decide (d.getLast? ≠ some n))) ?_ (fun hb => ?_) (fun hb => ?_)
    · refine et_or (et_test (ev_op (by walk_at "pl_e") (ev_lst (Ps := vIs []) ea_nil .nil) (oq_KC (xs := d) (ys := []) dkI rfl))) fun hb => ?_
      have hd : d ≠ [] := of_decide_eq_false hb
      have hg : d.getLast? = some (d.getLast hd) := List.getLast?_eq_some_getLast hd
      refine et_is (et_test (ev_op (ev_op (by walk_at "pl_e") (by walk_at "pl_e") (opv_ixC' (P := vV (.int (d.getLast hd))) rfl (at_last rfl (by rw [List.getLast?_map, hg]; rfl)))) (by walk_at "pl_e") on_int)) ?_
      rw [hg]
      by_cases h : d.getLast hd = n <;> simp [h]
    · refine k_append (by walk_at "pl_e") rfl (by walk_at "pl_e") (by rw [List.length_map]; omega) ?_
      dsimp only
      refine k_next' (stepC d n) hnx ?_ (by rw [hl']; exact Nat.le_refl _) (by walk_at "pl_gle") (low_all rfl)
      have : stepC d n = d ++ [n] := by
        unfold stepC
        rw [if_pos]
        rw [Bool.or_eq_true, decide_eq_true_eq, decide_eq_true_eq] at hb
        exact hb
      show CLe _ [some (cLs (vIs (stepC d n)))]
      rw [this, show vIs (d ++ [n]) = vIs d ++ [vV (.int n)] from map_snoc _ _ _]; exact CLe.rfl
    · dsimp only
      refine k_next' (stepC d n) hnx ?_ (by rw [hl']; exact Nat.le_refl _) (by walk_at "pl_gle") (low_all rfl)
      have : stepC d n = d := by
        unfold stepC
        rw [if_neg]
        intro h
        have := (Bool.or_eq_true _ _).mpr (h.imp (fun h => decide_eq_true h) fun h => decide_eq_true h)
        rw [hb] at this; cases this
      rw [this]; exact CLe.rfl
  · rw [List.take_length] at hI
    subst hI
    refine kv_frz 1 rfl rfl (by rw [List.length_map]; have := clean_len x; unfold clean at this; omega) ?_
    apply k_retW hq
    · walk_at "pl_e"
    · walk_at "pl_cle"
    · exact sle_d
end

theorem le_iff : ∀ {a b : List (List Int)}, a.length = b.length → combos a ≠ [] → ((∀ p ∈ a.zip b, ∀ n ∈ p.1, n ∈ p.2) ↔ ∀ r ∈ combos a, r ∈ combos b)
  | [], [], _, _ => by simp
  | s :: a, t :: b, hl, hne => by
    have hl : a.length = b.length := by simpa using hl
    have e1 : combos (s :: a) = s.flatMap fun x => (combos a).map (x :: ·) := rfl
    have e2 : combos (t :: b) = t.flatMap fun x => (combos b).map (x :: ·) := rfl
    have hs : s ≠ [] := fun q => hne (by rw [e1, q]; rfl)
    have ha : combos a ≠ [] := fun q => hne (by rw [e1, q]; simp)
    have ih := le_iff hl ha
    have m1 : ∀ x r, x :: r ∈ combos (s :: a) ↔ x ∈ s ∧ r ∈ combos a := fun x r => by rw [e1]; simp
    have m2 : ∀ x r, x :: r ∈ combos (t :: b) ↔ x ∈ t ∧ r ∈ combos b := fun x r => by rw [e2]; simp
    constructor
    · intro h r hr
      rw [e1, List.mem_flatMap] at hr
      obtain ⟨x, hx, hr⟩ := hr
      obtain ⟨q, hq, rfl⟩ := List.mem_map.mp hr
      rw [m2]
      exact ⟨h (s, t) (by simp) x hx, ih.mp (fun p hp => h p (by simp [hp])) q hq⟩
    · intro h p hp
      obtain ⟨x0, s', rfl⟩ := List.exists_cons_of_ne_nil hs
      obtain ⟨r0, a', ea⟩ := List.exists_cons_of_ne_nil ha
      rcases (by simpa using hp : p = (x0 :: s', t) ∨ p ∈ a.zip b) with hp | hp
      · subst hp
        intro n hn
        exact ((m2 n r0).mp (h _ ((m1 n r0).mpr ⟨hn, by rw [ea]; simp⟩))).1
      · exact ih.mpr (fun r hr => ((m2 x0 r).mp (h _ ((m1 x0 r).mpr ⟨by simp, hr⟩))).2) p hp
def kI : Key → Int
  | .inl i => i
  | .inr _ => 0
theorem srt_clean {ns x : List Int} (h1 : ns.Nodup) (h2 : ∀ i, i ∈ ns ↔ i ∈ x) : srt ns = clean x := by
  have hp := srt_perm ns
  have hw := srt_pw ns
  have hn : (srt ns).Nodup := hp.nodup_iff.mpr h1
  refine asc_eq ?_ (clean_ok x).1 fun i => by rw [hp.mem_iff, h2, (clean_ok x).2]
  have := hw.and hn
  exact this.imp fun ⟨a, b⟩ => by omega
section
variable {P : Program} {w : World} {K : PySem.W.Frag} {mg : Str → Option Value} {base : Heap} {f : Addr} {fd : FuncData} {n : Nat} {C : Addr}
theorem ok_is_integer (B : Bl mg) (F : Fun K "is_integer" "is_integer" s_is_integer f fd) : FnOk P w K mg base CX0 1 f fd ["value"] (spC cIsInt) := by
  refine fn_con' F sc_is_integer (hbody := fun cdv A outer s H E hr => ⟨_, (pss_one (ps_ret (pe_and (pe_callB (call_isi' K) rfl B.isinstance (by decide +kernel) (pa_cons (pv 0) (pa_cons (pe_bltn rfl B.int (by decide +kernel) (v := V.ty "int") rfl) pa_nil))) (pe_one (pe_not (pe_callB (call_isi' K) rfl B.isinstance (by decide +kernel) (pa_cons (pv 0) (pa_cons (pe_bltn rfl B.bool (by decide +kernel) (v := V.ty "bool") rfl) pa_nil)))))))), fun (n : Int) _ fx Q hq hl => ?_⟩)
  apply k_retM hq
  · refine ev_is (ev_andV (ev_cb (by walk_at "pl_a") (cb_isi (b := true) ty_int (by decide +kernel))) fun _ => ev_notV (ev_cb (by walk_at "pl_a") (cb_isi (b := false) ty_int (by decide +kernel)))) rfl
  · exact .nil
  · exact sle_d
theorem ok_is_natural (B : Bl mg) (h_is_integer : Has P w K mg base "is_integer" ["value"] 1 cIsInt) (F : Fun K "is_natural" "is_natural" s_is_natural f fd) : FnOk P w K mg base CX0 2 f fd ["value"] (spC cIsNat) := by
  refine fn_con' F sc_is_natural (hbody := fun cdv A outer s H E hr => ⟨_, (pss_one (ps_ret (pe_and (pe_has h_is_integer hr (by first | decide | omega) rfl (pa_cons (pv 0) pa_nil)) (pe_one (pe_cmpR op_ge (pv 0) pe_int (nomark _)))))), fun (n : Int) _ fx Q hq hl => ?_⟩)
  apply k_retM hq
  · refine ev_is (ev_andV (ev_cl (by walk_at "pl_a") (cb_pure (c := cIsInt) n trivial (.cons sle_d .nil))) fun _ => by walk_at "pl_e") rfl
  · exact .nil
  · exact sle_d
theorem ok_tidy (B : Bl mg) (h_is_natural : Has P w K mg base "is_natural" ["value"] 2 cIsNat) (F : Fun K "tidy" "tidy" s_tidy f fd) : FnOk P w K mg base CX0 3 f fd ["side"] (spC cTidy) := by
  refine fn_con' F sc_tidy (hbody := fun cdv A outer s H E hr => ⟨_, (pss_cons (ps_if (pt_not (pt_tru' K (pe_callB (call_all' K) rfl B.all (by decide +kernel) (pa_cons (pe_lc (own := [("standing", 2)]) rfl sc_tidy.nd (pi_seq' K (pv 0)) (blkOk_by (own := [("standing", 2)]) (N := ["side", "known", "standing"]) (sc := defScope s_tidy) (by decide +kernel)) (fun _ _ _ _ _ => (pg_name (i := 2) sc_tidy.nd rfl (Or.inl rfl))) (fun _ _ _ _ _ => pts_nil) (fun _ _ _ _ _ => (pe_has h_is_natural hr (by first | decide | omega) rfl (pa_cons (pv 2) pa_nil)))) pa_nil)))) (pss_one ps_never) pss_nil)
    (pss_cons (ps_setDc (ow := [("standing", 2)]) (n := 1) rfl sc_tidy.nd rfl rfl (sw_dict rfl rfl rfl (by decide +kernel)) (pi_seq' K (pv 0)) (blkOk_by (own := [("standing", 2)]) (N := ["side", "known", "standing"]) (sc := defScope s_tidy) (by decide +kernel)) (fun _ _ _ _ _ => (pg_name (i := 2) sc_tidy.nd rfl (Or.inl rfl))) (fun _ _ _ _ _ => pts_nil) (fun _ _ _ _ _ => (pv 2)) (fun _ _ _ _ _ => pe_bl))
    (pss_one (ps_ret (pe_callTy (call_tuple' K) rfl B.tuple (by decide +kernel) (pa_cons (pe_callB (call_sorted' K) rfl B.sorted (by decide +kernel) (pa_cons (pe_lock (pe_lc (own := [("standing", 2)]) rfl sc_tidy.nd (pi_keys (pv 1)) (blkOk_by (own := [("standing", 2)]) (N := ["side", "known", "standing"]) (sc := defScope s_tidy) (by decide +kernel)) (fun _ _ _ _ _ => (pg_name (i := 2) sc_tidy.nd rfl (Or.inl rfl))) (fun _ _ _ _ _ => pts_nil) (fun _ _ _ _ _ => (pe_callTy call_int' rfl B.int (by decide +kernel) (pa_cons (pv 2) pa_nil))))) pa_nil)) pa_nil)))))), fun (x : List Int) hx fx Q hq hl => ?_⟩)
  obtain ⟨hx, h0⟩ := (show x.length ≤ 10000 ∧ ∀ n ∈ x, 0 ≤ n from hx)
  refine q_never (M' := []) ?_ ?_
  · refine et_is (et_not (tr_B (ev_cb (ea_cons (ev_lcN (R := fun n => vV (.int n)) (F := fun n => vV (.bl (decide (0 ≤ n)))) (src_Qm (xs := x) (by walk_at "pl_e")) (by omega) fun n _ => ev_cl (by walk_at "pl_a") (cb_pure (c := cIsNat) n trivial (.cons sle_d .nil))) ea_nil) (by have h := cb_all (K := K) (M := []) (bs := x.map fun n => decide (0 ≤ n)); rw [vBs, List.map_map] at h; exact h)))) ?_
    have : ((x.map fun n => decide (0 ≤ n)).all id) = true := by
      rw [List.all_eq_true]
      intro b hb
      obtain ⟨n, hn, rfl⟩ := List.mem_map.mp hb
      exact decide_eq_true (h0 n hn)
    rw [this] <;> rfl
  · refine q_asg (ev_dcN (R := fun n => vV (.int n)) (F := fun _ => vV (.bl true)) (fun n => (.inl n : Key)) (src_Qm (xs := x) (by walk_at "pl_e")) (by omega) (fun n _ => by walk_at "pl_e") fun n _ => by walk_at "pl_e") ?_
    have hk := putsKP_keys (fun n : Int => (.inl n : Key)) (fun _ => vV (.bl true)) x
    have hki : ∀ q ∈ putsKP (fun n : Int => (.inl n : Key)) (fun _ => vV (.bl true)) x, ∃ i : Int, q.1 = .inl i ∧ i ∈ x := fun q hq => by
      obtain ⟨y, hy, e⟩ := (hk.2 q.1).mp (List.mem_map.mpr ⟨q, hq, rfl⟩)
      exact ⟨y, e.symm, hy⟩
    have hlen := putsKP_len (fun n : Int => (.inl n : Key)) (fun _ => vV (.bl true)) x
    generalize hD : putsKP (fun n : Int => (.inl n : Key)) (fun _ => vV (.bl true)) x = D at *
    have hcl : srt (D.map fun q => kI q.1) = clean x := by
      have e1 : ∀ i : Int, i ∈ D.map (fun q => kI q.1) ↔ i ∈ x := fun i => by
        rw [List.mem_map]
        constructor
        · rintro ⟨q, hq, rfl⟩
          obtain ⟨j, e, hj⟩ := hki q hq
          rw [e]; exact hj
        · intro hi
          obtain ⟨q, hq, e⟩ := List.mem_map.mp ((hk.2 (.inl i)).mpr ⟨i, hi, rfl⟩)
          exact ⟨q, hq, by rw [e] <;> rfl⟩
      have e2 : (D.map fun q => kI q.1).Nodup := by
        have h1 : D.Pairwise fun a b => a.1 ≠ b.1 := List.pairwise_map.mp hk.1
        refine List.pairwise_map.mpr (h1.imp_of_mem fun {a b} ha hb hab z => ?_)
        obtain ⟨i, ei, _⟩ := hki a ha
        obtain ⟨j, ej, _⟩ := hki b hb
        rw [ei, ej] at z hab
        exact hab (by rw [show i = j from z])
      exact srt_clean e2 e1
    apply k_retW hq
    · refine ev_cb (ea_cons (ev_cb (ea_cons (s := .d (vLs (vIs (D.map fun q => kI q.1)))) (M1 := [] ++ [some (cDk D)]) ?_ ea_nil) cb_sorted) ea_nil) tu_L
      refine ev_lock (k := 0) (ks := D) rfl fun od ws => ?_
      rw [show vIs (D.map fun q => kI q.1) = D.map fun q => vV (.int (kI q.1)) by show ((D.map fun q => kI q.1).map fun n => vV (.int n)) = _; rw [List.map_map] <;> rfl]
      refine ev_lcN (src_keys (od := od) (ws := ws) (ks := D) (by walk_at "pl_e") rfl) (by omega) (fun q hq => ?_) (hok := rfl)
      obtain ⟨i, e, _⟩ := hki q hq
      rw [e]
      exact ev_cb (ea_cons (ev_varD rfl) ea_nil) (in_i (n := i))
    · walk_at "pl_cle"
    · rw [hcl]; exact sle_d
theorem ok_every (B : Bl mg) (F : Fun K "every_combination" "every_combination" s_every_combination f fd) : FnOk P w K mg base CX0 1 f fd ["sides"] (spC cEvery) := by
  refine fn_con' F sc_every_combination (hbody := fun cdv A outer s H E hr => ⟨_, (pss_cons (ps_if (pt_cmpR (op_in' K hr) (pe_tup pa_nil) (pv 0) (by rfl)) (pss_one (ps_ret (pe_tup pa_nil))) pss_nil)
    (pss_cons (ps_set (i := 1) sc_every_combination.nd rfl (Or.inl rfl) (pe_lst (pa_cons (pe_tup pa_nil) pa_nil)))
    (pss_cons (ps_for PassesOwn.never rfl (pi_seq' K (pv 0)) (pg_name (i := 2) sc_every_combination.nd rfl (Or.inr rfl)) (pss_one (ps_setLc2 (own := [("start", 3), ("standing", 4)]) (vs1 := [4]) (i := 1) rfl sc_every_combination.nd rfl rfl (sw_true rfl rfl rfl (by decide +kernel)) (pi_seq' K (pv 1)) (blkOk_by (own := [("start", 3), ("standing", 4)]) (N := ["sides", "found", "side", "start", "standing"]) (sc := defScope s_every_combination) (by decide +kernel)) (by decide) (fun _ _ _ _ _ => (pg_name (i := 3) sc_every_combination.nd rfl (Or.inl rfl))) (fun _ _ _ _ _ => pts_nil) (fun _ _ _ _ _ => (pi_seq' K (pv 2))) (fun _ _ _ _ _ => (pg_name (i := 4) sc_every_combination.nd rfl (Or.inl rfl))) (fun _ _ _ _ _ => pts_nil) (fun _ _ _ _ _ => (pe_tup (pa_star' K (pv 3) (pa_cons (pv 4) pa_nil)))))))
    (pss_one (ps_ret (pe_callTy (call_tuple' K) rfl B.tuple (by decide +kernel) (pa_cons (pv 1) pa_nil))))))), fun (x : List (List Int)) hx fx Q hq hl => ?_⟩)
  obtain ⟨h1, h2⟩ := (show x.length ≤ 1000 ∧ prodP x ≤ 1000000 from hx)
  refine q_whenM (b := decide ([] ∈ x)) (et_is (et_test (ev_op (ev_tup (Ps := vIs []) ea_nil .nil) (by walk_at "pl_e") (oi_T (x := []) (dkT dkI)))) (by congr 1)) (fun c => ?_) (fun c => ?_)
  · have c : [] ∈ x := of_decide_eq_true c
    apply k_retM hq
    · exact ev_tup (Ps := []) ea_nil .nil
    · exact .nil
    · show SlLe _ (.d (vTs ((combos x).map vRow)))
      rw [combos_empty c]; exact sle_d
  · have c : [] ∉ x := of_decide_eq_false c
    have hlen : ∀ i, ((combos (x.take i)).length) ≤ 1000000 := fun i => Nat.le_trans (combos_len _) (Nat.le_trans (prodP_take x i) h2)
    refine q_asg (ev_frz (M' := []) (ev_lstC (Ps := [vRow []]) (ea_cons (ev_tup (Ps := []) ea_nil .nil) ea_nil) (.cons .nil)) (by decide)) ?_
    refine q_forX (R := vRow) (xs := x) (δ := List (List Int)) (src_Tm (by walk_at "pl_e")) (fun i d => d = combos (x.take i)) (fun _ => []) (fun d => [.d (vTs (x.map vRow)), .d (vRows d), .u, .u, .u])
      [[]] rfl rfl (by walk_at "pl_gle") (fun fx' le hl' i d sd hsd hI => ?_) (fun d hI => ?_)
    · obtain ⟨hi, ei⟩ := List.getElem?_eq_some_iff.mp hsd
      have hnx : combos (x.take (i + 1)) = d.flatMap fun r => sd.map fun y => r ++ [y] := by rw [take_snoc hi, combos_snoc, hI, ei]
      have hb := hlen (i + 1)
      rw [hnx] at hb
      have hd := hlen i
      rw [← hI] at hd
      have em : (d.flatMap fun r => sd.map fun y => r ++ [y]).map vRow = d.flatMap fun r => sd.map fun y => vRow (r ++ [y]) := by
        rw [List.map_flatMap]
        congr 1
        funext r
        rw [List.map_map] <;> rfl
      have hb2 : (d.flatMap fun r => sd.map fun y => vRow (r ++ [y])).length ≤ 1000000 := by rw [← em, List.length_map]; exact hb
      refine k_asgM (s := .d (vLs (d.flatMap fun r => sd.map fun y => vRow (r ++ [y])))) (ev_frz (M' := []) (ev_lc2C (xs := d) (R := vRow) (ys := fun _ => sd) (R1 := fun n => vV (.int n)) (F := fun r y => vRow (r ++ [y])) (src_Lm (by walk_at "pl_e")) (fun r hr => src_Tm (by walk_at "pl_e")) (by omega) (fun r hr y hy => ?_) (by decide)) (by omega)) ?_
      · have hrl : r.length ≤ 1000 := by
          rw [hI] at hr
          rw [combos_row hr, List.length_take]; omega
        show EV _ _ _ _ (.d (vTs (vIs (r ++ [y]))))
        rw [show vIs (r ++ [y]) = vIs r ++ [vV (.int y)] from map_snoc _ _ _]
        refine ev_tup (ea_star (ev_sub (ev_varD rfl) sub_tq) (ea_cons (ev_varD rfl) ea_nil)) (alld_map (.cons .nil)) ?_
        rw [List.length_append, List.length_map]
        show _ + 1 ≤ _
        omega
      · dsimp only
        rw [← em]
        refine k_next' (d.flatMap fun r => sd.map fun y => r ++ [y]) hnx.symm CLe.rfl (by rw [hl']; exact Nat.le_refl _) (by walk_at "pl_gle") (low_all rfl)
    · rw [List.take_length] at hI
      subst hI
      apply k_retM hq
      · walk_at "pl_e"
      · exact .nil
      · exact sle_d
theorem ok_missing (B : Bl mg) (F : Fun K "missing" "missing" s_missing f fd) : FnOk P w K mg base CX0 1 f fd ["side", "other"] (spC cMissing) := by
  refine fn_con' F sc_missing (hbody := fun cdv A outer s H E hr => ⟨_, (pss_cons (ps_set (i := 2) sc_missing.nd rfl (Or.inr rfl) (pe_callTy (call_set' K) rfl B.set (by decide +kernel) (pa_cons (pv 1) pa_nil)))
    (pss_one (ps_ret (pe_lc (own := [("standing", 3)]) rfl sc_missing.nd (pi_seq' K (pv 0)) (blkOk_by (own := [("standing", 3)]) (N := ["side", "other", "known", "standing"]) (sc := defScope s_missing) (by decide +kernel)) (fun _ _ _ _ _ => (pg_name (i := 3) sc_missing.nd rfl (Or.inl rfl))) (fun _ _ _ _ _ => pts_one (pt_cmpR op_niSet (pv 3) (pv 2) (by rfl))) (fun _ _ _ _ _ => (pv 3)))))), fun (x : List Int × List Int) hx fx Q hq hl => ?_⟩)
  obtain ⟨a, b⟩ := x
  obtain ⟨h1, h2⟩ := (show a.length ≤ 10000 ∧ b.length < 4095 from hx)
  refine q_asg (ev_cb (by walk_at "pl_a") (cb_setT h2)) ?_
  apply k_retM hq
  · refine ev_lcT (R := fun n => vV (.int n)) (F := fun n => vV (.int n)) (xs := a) (bt := fun n => !decide (n ∈ b)) (src_Tm (by walk_at "pl_e")) (by omega) (fun n _ => et_test (ev_op (by walk_at "pl_e") (by walk_at "pl_e") opv_niSet)) fun n _ _ => by walk_at "pl_e"
  · exact .nil
  · exact sle_d
theorem ok_init (B : Bl mg) (cl : Cls K C) (nS : NoAttr K C "sides") (nM : NoAttr K C "members") (h_tidy : Has P w K mg base "tidy" ["side"] 3 cTidy) (h_every_combination : Has P w K mg base "every_combination" ["sides"] 1 cEvery) (F : Fun K "__init__" "Box.__init__" s_Box_init f fd) :
    FnOk P w K mg base CX0 4 f fd ["self", "sides"] (spC (cInit C)) := by
  refine fn_con' F sc_Box_init (hbody := fun cdv A outer s H E hr => ⟨_, (pss_cons (ps_if (pt_not (pt_tru' K (pv 1))) (pss_one ps_never) pss_nil)
    (pss_cons (ps_fld' K (pv 0) (pe_callTy (call_tuple' K) rfl B.tuple (by decide +kernel) (pa_cons (pe_lc (own := [("side", 2)]) rfl sc_Box_init.nd (pi_seq' K (pv 1)) (blkOk_by (own := [("side", 2)]) (N := ["self", "sides", "side"]) (sc := defScope s_Box_init) (by decide +kernel)) (fun _ _ _ _ _ => (pg_name (i := 2) sc_Box_init.nd rfl (Or.inl rfl))) (fun _ _ _ _ _ => pts_nil) (fun _ _ _ _ _ => (pe_has h_tidy hr (by first | decide | omega) rfl (pa_cons (pv 2) pa_nil)))) pa_nil)) rfl)
    (pss_one (ps_fld' K (pv 0) (pe_has h_every_combination hr (by first | decide | omega) rfl (pa_cons (pe_fld' K (pv 0) rfl) pa_nil)) rfl)))), fun (x : List (List Int)) hx fx Q hq hl => ?_⟩)
  obtain ⟨h1, h2, h3, h4⟩ := (show x ≠ [] ∧ x.length ≤ 1000 ∧ prodP x ≤ 1000000 ∧ ∀ s ∈ x, s.length ≤ 1000 ∧ ∀ n ∈ s, 0 ≤ n from hx)
  refine q_never (M' := [some (cIns C [])]) (et_is (et_not (by walk_at "pl_t")) ?_) ?_
  · cases x with
    | nil => exact absurd rfl h1
    | cons a b => rfl
  refine q_fld (M1 := [some (cIns C [])]) (P := vTs ((x.map clean).map vRow)) cl nS ?_ (by walk_at "pl_e") rfl (by decide) ?_
  · rw [List.map_map]
    refine ev_cb (ea_cons (ev_lcN (xs := x) (R := fun s => vQs (vIs s)) (F := fun s => vRow (clean s)) (src_Qm (by walk_at "pl_e")) (by omega) fun s hs => ev_cl (by walk_at "pl_a") (cb_pure (c := cTidy) s ⟨by have := (h4 s hs).1; omega, (h4 s hs).2⟩ (.cons sle_d .nil))) ea_nil) tu_L
  · refine k_fld (M1 := [some (cIns C [("sides", vTs ((x.map clean).map vRow))])]) (P := vTs ((combos (x.map clean)).map vRow)) cl nM ?_ (by walk_at "pl_e") rfl (Nat.le_of_ble_eq_true rfl) ?_
    · refine ev_cl (ea_cons (ev_fldC cl nS (by walk_at "pl_e") rfl rfl) ea_nil) (cb_pure (c := cEvery) (x.map clean) ⟨by rw [List.length_map]; exact h2, Nat.le_trans (prodP_clean x) h3⟩ (.cons sle_d .nil))
    · exact k_end hq CLe.rfl
end

section
variable {P : Program} {w : World} {K : PySem.W.Frag} {mg : Str → Option Value} {base : Heap} {f : Addr} {fd : FuncData} {n : Nat} {C : Addr}
theorem ok_l_is_integer (B : Bl mg) (F : Fun K "_law_is_integer" "_law_is_integer" s_l_is_integer f fd) : FnOk P w K mg base CX0 1 f fd ["_law_actual"] (spC cIsInt) := by
  refine fn_con' F sc_l_is_integer (hbody := fun cdv A outer s H E hr => ⟨_, (pss_one (ps_ret (pe_and (pe_callB (call_isi' K) rfl B.isinstance (by decide +kernel) (pa_cons (pv 0) (pa_cons (pe_bltn rfl B.int (by decide +kernel) (v := V.ty "int") rfl) pa_nil))) (pe_one (pe_not (pe_callB (call_isi' K) rfl B.isinstance (by decide +kernel) (pa_cons (pv 0) (pa_cons (pe_bltn rfl B.bool (by decide +kernel) (v := V.ty "bool") rfl) pa_nil)))))))), fun (n : Int) _ fx Q hq hl => ?_⟩)
  apply k_retM hq
  · refine ev_is (ev_andV (ev_cb (by walk_at "pl_a") (cb_isi (b := true) ty_int (by decide +kernel))) fun _ => ev_notV (ev_cb (by walk_at "pl_a") (cb_isi (b := false) ty_int (by decide +kernel)))) rfl
  · exact .nil
  · exact sle_d
theorem ok_is_numbers (B : Bl mg) (h_l_is_integer : Has P w K mg base "_law_is_integer" ["_law_actual"] 1 cIsInt) (F : Fun K "_law_is_numbers" "_law_is_numbers" s_l_is_numbers f fd) : FnOk P w K mg base CX0 2 f fd ["_law_actual", "_law_expected"] (spC cNums) := by
  refine fn_con' F sc_l_is_numbers (hbody := fun cdv A outer s H E hr => ⟨_, (pss_cons (ps_if (PW.pt (pw_or (pt_not (pt_tru' K (pe_callB (call_isi' K) rfl B.isinstance (by decide +kernel) (pa_cons (pv 0) (pa_cons (pe_bltn rfl B.tuple (by decide +kernel) (v := V.ty "tuple") rfl) pa_nil))))) (pw_or1 (pt_cmpR (op_ne' K hr) (pe_callB (call_len' K) rfl B.len PySem.boot_len (pa_cons (pv 0) pa_nil)) (pe_callB (call_len' K) rfl B.len PySem.boot_len (pa_cons (pv 1) pa_nil)) (nomark _))))) (pss_one (ps_ret pe_bl)) pss_nil)
    (pss_cons (ps_for PassesOwn.never rfl (pi_range1 rfl B.range (pa_cons (pe_callB (call_len' K) rfl B.len PySem.boot_len (pa_cons (pv 1) pa_nil)) pa_nil)) (pg_name (i := 2) sc_l_is_numbers.nd rfl (Or.inl rfl)) (pss_one (ps_if (PW.pt (pw_or (pt_not (pt_tru' K (pe_has h_l_is_integer hr (by first | decide | omega) rfl (pa_cons (pe_ix (ix' K) (pv 0) (pv 2) (fun _ _ => rfl)) pa_nil)))) (pw_or1 (pt_cmpR (op_ne' K hr) (pe_ix (ix' K) (pv 0) (pv 2) (fun _ _ => rfl)) (pe_ix (ix' K) (pv 1) (pv 2) (fun _ _ => rfl)) (nomark _))))) (pss_one (ps_ret pe_bl)) pss_nil)))
    (pss_one (ps_ret pe_bl)))), fun (x : List Int × List Int) hx fx Q hq hl => ?_⟩)
  obtain ⟨a, b⟩ := x
  obtain ⟨h1, h2⟩ := (show a.length ≤ 1000000 ∧ b.length ≤ 1000000 from hx)
  show KV fx [] [.d (vRow a), .d (vQs (vIs b)), .u] _
  have hq : Rx fx [] (.d (vV (.bl (decide (a = b))))) Q := hq
  have bad : ¬ a = b → SlLe (.d (vV (.bl false))) (.d (vV (.bl (decide (a = b))))) := fun h => by rw [decide_eq_false h]; exact sle_d
  refine q_whenM (b := !decide (((vIs a).length : Int) = ((vIs b).length : Int))) (et_is (et_or (et_not (tr_B (ev_cb (by walk_at "pl_a") (cb_isi (b := true) ty_T (by decide +kernel))))) fun _ => et_test (ev_op (ev_cb (by walk_at "pl_a") ln_T) (ev_cb (by walk_at "pl_a") ln_Q) on_int)) (by simp)) (fun c => ?_) (fun c => ?_)
  · apply k_retM hq
    · walk_at "pl_e"
    · exact .nil
    · refine bad fun e => ?_
      rw [e] at c; simp at c
  · have hlen : a.length = b.length := by simp at c; omega
    refine q_for (δ := Unit) (src_R1 (n := ((vIs b).length : Int)) (ea_cons (ev_cb (by walk_at "pl_a") ln_Q) ea_nil) (by rw [List.length_map]; omega)) (fun i _ => a.take i = b.take i) (fun _ => []) (fun _ => [.d (vRow a), .d (vQs (vIs b)), .u]) (fun i _ => [.d (vRow a), .d (vQs (vIs b)), .d (vV (.int (i : Nat)))]) () rfl rfl (by walk_at "pl_gle") (fun i d hi hI => ⟨_, gt_name⟩) (fun fx' le' hl' i d hi hI => ?_) (fun d hI => ?_)
    · have hib : i < b.length := by rw [List.length_map] at hi; omega
      have hia : i < a.length := by omega
      refine k_whenM (b := !decide (a[i] = b[i])) (et_is (et_or (et_not (tr_B (ev_cl (ea_cons (ev_op (ev_varD rfl) (ev_varD rfl) (opv_ixT (at_map hia))) ea_nil) (cb_pure (c := cIsInt) a[i] trivial (.cons sle_d .nil))))) fun _ => et_test (ev_op (ev_op (ev_varD rfl) (ev_varD rfl) (opv_ixT (at_map hia))) (ev_op (ev_varD rfl) (ev_varD rfl) (opv_ixQ (at_map hib))) on_int)) (by simp)) (fun c => ?_) (fun c => ?_)
      · apply k_retM (hq.fle le')
        · walk_at "pl_e"
        · exact .nil
        · exact bad (ne_at (List.getElem?_eq_getElem hia) (List.getElem?_eq_getElem hib) (by simpa using c))
      · dsimp only
        exact k_next' () (take_step hia hib hI (by simpa using c)) CLe.rfl (by rw [hl']; exact Nat.le_refl _) (by walk_at "pl_gle") (low_all rfl)
    · have : a = b := take_all hlen (by rw [show (((vIs b).length : Int)).toNat = b.length by rw [List.length_map]; omega] at hI; exact hI)
      apply k_retM hq
      · walk_at "pl_e"
      · exact .nil
      · rw [decide_eq_true this]; exact sle_d
theorem ok_is_sides (B : Bl mg) (h_l_is_numbers : Has P w K mg base "_law_is_numbers" ["_law_actual", "_law_expected"] 2 cNums) (F : Fun K "_law_is_sides" "_law_is_sides" s_l_is_sides f fd) : FnOk P w K mg base CX0 3 f fd ["_law_actual", "_law_expected"] (spC cIsSides) := by
  refine fn_con' F sc_l_is_sides (hbody := fun cdv A outer s H E hr => ⟨_, (pss_cons (ps_if (PW.pt (pw_or (pt_not (pt_tru' K (pe_callB (call_isi' K) rfl B.isinstance (by decide +kernel) (pa_cons (pv 0) (pa_cons (pe_bltn rfl B.tuple (by decide +kernel) (v := V.ty "tuple") rfl) pa_nil))))) (pw_or1 (pt_cmpR (op_ne' K hr) (pe_callB (call_len' K) rfl B.len PySem.boot_len (pa_cons (pv 0) pa_nil)) (pe_callB (call_len' K) rfl B.len PySem.boot_len (pa_cons (pv 1) pa_nil)) (nomark _))))) (pss_one (ps_ret pe_bl)) pss_nil)
    (pss_cons (ps_for PassesOwn.never rfl (pi_range1 rfl B.range (pa_cons (pe_callB (call_len' K) rfl B.len PySem.boot_len (pa_cons (pv 1) pa_nil)) pa_nil)) (pg_name (i := 2) sc_l_is_sides.nd rfl (Or.inl rfl)) (pss_one (ps_if (pt_not (pt_tru' K (pe_has h_l_is_numbers hr (by first | decide | omega) rfl (pa_cons (pe_ix (ix' K) (pv 0) (pv 2) (fun _ _ => rfl)) (pa_cons (pe_ix (ix' K) (pv 1) (pv 2) (fun _ _ => rfl)) pa_nil))))) (pss_one (ps_ret pe_bl)) pss_nil)))
    (pss_one (ps_ret pe_bl)))), fun (x : List (List Int) × List (List Int)) hx fx Q hq hl => ?_⟩)
  obtain ⟨a, b⟩ := x
  obtain ⟨⟨h1, h2⟩, h3, h4⟩ := (show (a.length ≤ 1000000 ∧ b.length ≤ 1000000) ∧ (∀ s ∈ a, s.length ≤ 1000000) ∧ ∀ s ∈ b, s.length ≤ 1000000 from hx)
  show KV fx [] [.d (vTs (a.map vRow)), .d (vSides b), .u] _
  have hq : Rx fx [] (.d (vV (.bl (decide (a = b))))) Q := hq
  have bad : ¬ a = b → SlLe (.d (vV (.bl false))) (.d (vV (.bl (decide (a = b))))) := fun h => by rw [decide_eq_false h]; exact sle_d
  refine q_whenM (b := !decide (((a.map vRow).length : Int) = ((b.map (fun s => vLs (vIs s))).length : Int))) (et_is (et_or (et_not (tr_B (ev_cb (by walk_at "pl_a") (cb_isi (b := true) ty_T (by decide +kernel))))) fun _ => et_test (ev_op (ev_cb (by walk_at "pl_a") ln_T) (ev_cb (by walk_at "pl_a") ln_L) on_int)) (by simp)) (fun c => ?_) (fun c => ?_)
  · apply k_retM hq
    · walk_at "pl_e"
    · exact .nil
    · refine bad fun e => ?_
      rw [e] at c; simp at c
  · have hlen : a.length = b.length := by simp at c; omega
    refine q_for (δ := Unit) (src_R1 (n := ((b.map (fun s => vLs (vIs s))).length : Int)) (ea_cons (ev_cb (by walk_at "pl_a") ln_L) ea_nil) (by rw [List.length_map]; omega)) (fun i _ => a.take i = b.take i) (fun _ => []) (fun _ => [.d (vTs (a.map vRow)), .d (vSides b), .u]) (fun i _ => [.d (vTs (a.map vRow)), .d (vSides b), .d (vV (.int (i : Nat)))]) () rfl rfl (by walk_at "pl_gle") (fun i d hi hI => ⟨_, gt_name⟩) (fun fx' le' hl' i d hi hI => ?_) (fun d hI => ?_)
    · have hib : i < b.length := by rw [List.length_map] at hi; omega
      have hia : i < a.length := by omega
      refine k_whenM (b := !decide (a[i] = b[i])) (et_not (tr_B (ev_cl (ea_cons (ev_op (ev_varD rfl) (ev_varD rfl) (opv_ixT (at_map hia))) (ea_cons (ev_op (ev_varD rfl) (ev_varD rfl) (opv_ixL (at_map hib))) ea_nil)) (cb_pure (c := cNums) (a[i], b[i]) ⟨h3 _ (List.getElem_mem hia), h4 _ (List.getElem_mem hib)⟩ (.cons sle_d (.cons (sle_s sub_lq) .nil)))))) (fun c => ?_) (fun c => ?_)
      · apply k_retM (hq.fle le')
        · walk_at "pl_e"
        · exact .nil
        · exact bad (ne_at (List.getElem?_eq_getElem hia) (List.getElem?_eq_getElem hib) (by simpa using c))
      · dsimp only
        exact k_next' () (take_step hia hib hI (by simpa using c)) CLe.rfl (by rw [hl']; exact Nat.le_refl _) (by walk_at "pl_gle") (low_all rfl)
    · have : a = b := take_all hlen (by rw [show (((b.map (fun s => vLs (vIs s))).length : Int)).toNat = b.length by rw [List.length_map]; omega] at hI; exact hI)
      apply k_retM hq
      · walk_at "pl_e"
      · exact .nil
      · rw [decide_eq_true this]; exact sle_d
theorem ok_is_rows (B : Bl mg) (h_l_is_numbers : Has P w K mg base "_law_is_numbers" ["_law_actual", "_law_expected"] 2 cNums) (F : Fun K "_law_is_rows" "_law_is_rows" s_l_is_rows f fd) : FnOk P w K mg base CX0 3 f fd ["_law_actual", "_law_expected"] (spC cIsRows) := by
  refine fn_con' F sc_l_is_rows (hbody := fun cdv A outer s H E hr => ⟨_, (pss_cons (ps_if (PW.pt (pw_or (pt_not (pt_tru' K (pe_callB (call_isi' K) rfl B.isinstance (by decide +kernel) (pa_cons (pv 0) (pa_cons (pe_bltn rfl B.list (by decide +kernel) (v := V.ty "list") rfl) pa_nil))))) (pw_or1 (pt_cmpR (op_ne' K hr) (pe_callB (call_len' K) rfl B.len PySem.boot_len (pa_cons (pv 0) pa_nil)) (pe_callB (call_len' K) rfl B.len PySem.boot_len (pa_cons (pv 1) pa_nil)) (nomark _))))) (pss_one (ps_ret pe_bl)) pss_nil)
    (pss_cons (ps_for PassesOwn.never rfl (pi_range1 rfl B.range (pa_cons (pe_callB (call_len' K) rfl B.len PySem.boot_len (pa_cons (pv 1) pa_nil)) pa_nil)) (pg_name (i := 2) sc_l_is_rows.nd rfl (Or.inl rfl)) (pss_one (ps_if (pt_not (pt_tru' K (pe_has h_l_is_numbers hr (by first | decide | omega) rfl (pa_cons (pe_ix (ix' K) (pv 0) (pv 2) (fun _ _ => rfl)) (pa_cons (pe_ix (ix' K) (pv 1) (pv 2) (fun _ _ => rfl)) pa_nil))))) (pss_one (ps_ret pe_bl)) pss_nil)))
    (pss_one (ps_ret pe_bl)))), fun (x : List (List Int) × List (List Int)) hx fx Q hq hl => ?_⟩)
  obtain ⟨a, b⟩ := x
  obtain ⟨⟨h1, h2⟩, h3, h4⟩ := (show (a.length ≤ 1000000 ∧ b.length ≤ 1000000) ∧ (∀ s ∈ a, s.length ≤ 1000000) ∧ ∀ s ∈ b, s.length ≤ 1000000 from hx)
  show KV fx [] [.d (vRows a), .d (vRows b), .u] _
  have hq : Rx fx [] (.d (vV (.bl (decide (a = b))))) Q := hq
  have bad : ¬ a = b → SlLe (.d (vV (.bl false))) (.d (vV (.bl (decide (a = b))))) := fun h => by rw [decide_eq_false h]; exact sle_d
  refine q_whenM (b := !decide (((a.map vRow).length : Int) = ((b.map vRow).length : Int))) (et_is (et_or (et_not (tr_B (ev_cb (by walk_at "pl_a") (cb_isi (b := true) ty_L (by decide +kernel))))) fun _ => et_test (ev_op (ev_cb (by walk_at "pl_a") ln_L) (ev_cb (by walk_at "pl_a") ln_L) on_int)) (by simp)) (fun c => ?_) (fun c => ?_)
  · apply k_retM hq
    · walk_at "pl_e"
    · exact .nil
    · refine bad fun e => ?_
      rw [e] at c; simp at c
  · have hlen : a.length = b.length := by simp at c; omega
    refine q_for (δ := Unit) (src_R1 (n := ((b.map vRow).length : Int)) (ea_cons (ev_cb (by walk_at "pl_a") ln_L) ea_nil) (by rw [List.length_map]; omega)) (fun i _ => a.take i = b.take i) (fun _ => []) (fun _ => [.d (vRows a), .d (vRows b), .u]) (fun i _ => [.d (vRows a), .d (vRows b), .d (vV (.int (i : Nat)))]) () rfl rfl (by walk_at "pl_gle") (fun i d hi hI => ⟨_, gt_name⟩) (fun fx' le' hl' i d hi hI => ?_) (fun d hI => ?_)
    · have hib : i < b.length := by rw [List.length_map] at hi; omega
      have hia : i < a.length := by omega
      refine k_whenM (b := !decide (a[i] = b[i])) (et_not (tr_B (ev_cl (ea_cons (ev_op (ev_varD rfl) (ev_varD rfl) (opv_ixL (at_map hia))) (ea_cons (ev_op (ev_varD rfl) (ev_varD rfl) (opv_ixL (at_map hib))) ea_nil)) (cb_pure (c := cNums) (a[i], b[i]) ⟨h3 _ (List.getElem_mem hia), h4 _ (List.getElem_mem hib)⟩ (.cons sle_d (.cons (sle_s sub_tq) .nil)))))) (fun c => ?_) (fun c => ?_)
      · apply k_retM (hq.fle le')
        · walk_at "pl_e"
        · exact .nil
        · exact bad (ne_at (List.getElem?_eq_getElem hia) (List.getElem?_eq_getElem hib) (by simpa using c))
      · dsimp only
        exact k_next' () (take_step hia hib hI (by simpa using c)) CLe.rfl (by rw [hl']; exact Nat.le_refl _) (by walk_at "pl_gle") (low_all rfl)
    · have : a = b := take_all hlen (by rw [show (((b.map vRow).length : Int)).toNat = b.length by rw [List.length_map]; omega] at hI; exact hI)
      apply k_retM hq
      · walk_at "pl_e"
      · exact .nil
      · rw [decide_eq_true this]; exact sle_d
end

section
variable {P : Program} {w : World} {K : PySem.W.Frag} {mg : Str → Option Value} {base : Heap} {f : Addr} {fd : FuncData} {n : Nat} {C : Addr}
theorem ok_iter (Bi : mg "iter" = none) (cl : Cls K C) (nM : NoAttr K C "members") (F : Fun K "__iter__" "Box.__iter__" s_Box_iter f fd) : FnOk P w K mg base CX0 1 f fd ["self"] (spIter C) := by
  refine F.ok sc_Box_iter (fun vs H Q E h => ?_) (fun cdv A outer s H vs Q E hr h => ?_)
  · obtain ⟨a, dx, fs, t, zs, e, _⟩ := h
    subst e; rfl
  · obtain ⟨a, dx, fs, t, zs, e, h1, h2, h3, q⟩ := h
    subst e
    refine ⟨_, (pss_one (ps_ret (pe_callB (call_iterT' K) rfl Bi (by decide +kernel) (pa_cons (pe_fld' K (pv 0) rfl) pa_nil)))), ?_⟩
    exact ⟨_, rfl, a, C, dx, fs, _, rfl, h1, cl, nM, h2, t, zs, rfl, SqT.of h3, q⟩
end

section
variable {P : Program} {w : World} {K : PySem.W.Frag} {mg : Str → Option Value} {base : Heap} {f : Addr} {fd : FuncData} {n : Nat} {C : Addr}
theorem ok_with (B : Bl mg) (cl : Cls K C) (nS : NoAttr K C "sides") (h_Box_init : HasNew P w K mg base "Box" C ["self", "sides"] 4 (cInit C)) (F : Fun K "with_side" "Box.with_side" s_Box_with_side f fd) :
    FnOk P w K mg base CX0 6 f fd ["self", "party", "side"] (spC (cWith C)) := by
  refine fn_con' F sc_Box_with_side (hbody := fun cdv A outer s H E hr => ⟨_, (pss_one (ps_ret (pe_new h_Box_init hr (by first | decide | omega) rfl (pa_cons (pe_lst (pa_star' K (pe_slice (sl_any' K) (pe_fld' K (pv 0) rfl) po_none (po_some (pv 1))) (pa_cons (pv 2) (pa_star' K (pe_slice (sl_any' K) (pe_fld' K (pv 0) rfl) (po_some (pe_op (op_add' K) (pv 1) pe_int)) po_none) pa_nil)))) pa_nil)))), fun (x : List (List Int) × Nat × List Int) hx fx Q hq hl => ?_⟩)
  obtain ⟨l, p, sd⟩ := x
  obtain ⟨h1, h2, h3, h4, h5, h6⟩ := (show p < l.length ∧ l.length ≤ 1000 ∧ prodP (l.set p sd) ≤ 1000000 ∧ (∀ s ∈ l, (s.Pairwise (· < ·) ∧ ∀ n ∈ s, 0 ≤ n) ∧ s.length ≤ 1000) ∧ sd.length ≤ 1000 ∧ ∀ n ∈ sd, 0 ≤ n from hx)
  show KV fx [] [.d (vBox C l), .d (vV (.int (p : Nat))), .d (vQs (vIs sd))] _
  have hq : Rx fx [] (.d (vBox C (l.set p (clean sd)))) Q := hq
  have hm : ∀ s ∈ l.set p sd, s.length ≤ 1000 ∧ ∀ n ∈ s, 0 ≤ n := fun s hs => by
    rcases List.mem_or_eq_of_mem_set hs with hs | hs
    · exact ⟨(h4 s hs).2, (h4 s hs).1.2⟩
    · subst hs; exact ⟨h5, h6⟩
  have hcl : (l.set p sd).map clean = l.set p (clean sd) := by rw [List.map_set, map_clean_self fun s hs => (h4 s hs).1.1]
  have key := cb_box (M := []) (E := E0) (C := C) (l.set p sd) (fun e => by have := congrArg List.length e; rw [List.length_set] at this; simp at this; subst this; simp at h1) (by rw [List.length_set]; exact h2) h3 hm (sle_s (sub_lq (Ps := (l.set p sd).map fun s => vQs (vIs s))))
  rw [hcl] at key
  apply k_retM hq
  · refine ev_new (ea_cons (s := .d (vLs ((l.set p sd).map fun s => vQs (vIs s)))) (M1 := []) ?_ ea_nil) key
    rw [← set_cut h1, List.map_append, List.map_cons]
    have hal := alld_map (Ps := (l.take p).map fun s => vQs (vIs s)) (.cons (P := vQs (vIs sd)) (alld_map (Ps := (l.drop (p + 1)).map fun s => vQs (vIs s)) .nil))
    rw [List.append_nil (((l.drop (p + 1)).map fun s => vQs (vIs s)))] at hal
    refine ev_lst (ea_star (M1 := []) (ev_sub (P := vTs ((l.take p).map vRow)) ?_ (sub_TQ fun s => sub_tq)) (ea_cons (ev_varD rfl) (ea_star (ev_sub (P := vTs ((l.drop (p + 1)).map vRow)) ?_ (sub_TQ fun s => sub_tq)) ea_nil))) hal ?_
    · rw [← cutP_to]
      exact ev_sl (ev_fld cl nS (ev_varD rfl) rfl) eo_none (eo_some (ev_varD rfl)) sl_T
    · rw [← cutP_from]
      exact ev_sl (ev_fld cl nS (ev_varD rfl) rfl) (eo_some (ev_is (ev_op (ev_varD rfl) ev_c oa_int) rfl)) eo_none sl_T
    · simp only [List.length_append, List.length_map, List.length_cons, List.length_take, List.length_drop]
      omega
  · exact .nil
  · exact sle_d
theorem ok_law (B : Bl mg) (h_l_source : Has P w K mg base "_law_source" ["_law_cell_here"] 1 cSource) (h_l_cell : Has P w K mg base "_law_cell" ["_law_script", "_law_k"] 1 (cCell K)) (h_l_draw : Has P w K mg base "_law_draw" ["_law_source_here", "_law_limit"] 1 cDraw)
    (h_l_draw_sides : Has P w K mg base "_law_draw_sides" ["_law_shape", "_law_source_here", "_law_many", "_law_span"] 2 cDrawSides)
    (h_l_clean : Has P w K mg base "_law_clean" ["_law_side"] 1 cClean) (h_l_combos : Has P w K mg base "_law_combos" ["_law_sides"] 9 (cCombos 9)) (h_l_is_sides : Has P w K mg base "_law_is_sides" ["_law_actual", "_law_expected"] 3 cIsSides) (h_l_is_rows : Has P w K mg base "_law_is_rows" ["_law_actual", "_law_expected"] 3 cIsRows)
    (m_Box : mg "Box" = some (.ref C)) (ic : IsiC K C) (nS : NoAttr K C "sides") (h_Box_init : HasNew P w K mg base "Box" C ["self", "sides"] 4 (cInit C)) (h_Box_with_side : HasMeth P w K mg base C "with_side" ["self", "party", "side"] 6 (cWith C)) (h_Box_iter : HasIter P w K mg base C 1)
    (F : Fun K "law" "law" s_law f fd) : FnOk P w K mg base CX0 11 f fd ["_law_script"] (spC (cLaw K)) := by
  refine fn_con' F sc_law (hbody := fun cdv A outer s H E hr => ⟨_, (pss_cons (ps_set (i := 1) sc_law.nd rfl (Or.inl rfl) (pe_has h_l_source hr (by first | decide | omega) rfl (pa_cons (pe_has h_l_cell hr (by first | decide | omega) rfl (pa_cons (pv 0) (pa_cons pe_int pa_nil))) pa_nil)))
    (pss_cons (ps_set (i := 2) sc_law.nd rfl (Or.inr rfl) (pe_has h_l_source hr (by first | decide | omega) rfl (pa_cons (pe_has h_l_cell hr (by first | decide | omega) rfl (pa_cons (pv 0) (pa_cons pe_int pa_nil))) pa_nil)))
    (pss_cons (ps_set (i := 3) sc_law.nd rfl (Or.inr rfl) (pe_ix (ix' K) (pe_lst (pa_cons pe_int (pa_cons (pe_op (op_add' K) (pe_op op_pow pe_int pe_int) pe_int) pa_nil))) (pe_has h_l_draw hr (by first | decide | omega) rfl (pa_cons (pv 1) (pa_cons pe_int pa_nil))) (fun _ _ => rfl)))
    (pss_cons (ps_set (i := 4) sc_law.nd rfl (Or.inr rfl) (pe_has h_l_draw_sides hr (by first | decide | omega) rfl (pa_cons (pv 1) (pa_cons (pv 2) (pa_cons (pe_op (op_add' K) pe_int (pe_has h_l_draw hr (by first | decide | omega) rfl (pa_cons (pv 1) (pa_cons pe_int pa_nil)))) (pa_cons (pv 3) pa_nil))))))
    (pss_cons (ps_setLc (own := [("_law_at", 15)]) (i := 5) rfl sc_law.nd rfl rfl (sw_true rfl rfl rfl (by decide +kernel)) (pi_range1 rfl B.range (pa_cons (pe_has h_l_draw hr (by first | decide | omega) rfl (pa_cons (pv 1) (pa_cons pe_int pa_nil))) pa_nil)) (blkOk_by (own := [("_law_at", 15)]) (N := ["_law_script", "_law_shape", "_law_source_here", "_law_span", "_law_sides", "_law_other", "_law_party", "_law_clean_here", "_law_box", "_law_passed", "_law_changed", "_law_expected", "_law_back", "_law_k", "_law_turned", "_law_at", "_law_side"]) (sc := defScope s_law) (by decide +kernel)) (fun _ _ _ _ _ => (pg_name (i := 15) sc_law.nd rfl (Or.inl rfl))) (fun _ _ _ _ _ => pts_nil) (fun _ _ _ _ _ => (pe_has h_l_draw hr (by first | decide | omega) rfl (pa_cons (pv 2) (pa_cons (pv 3) pa_nil)))))
    (pss_cons (ps_set (i := 6) sc_law.nd rfl (Or.inl rfl) (pe_has h_l_draw hr (by first | decide | omega) rfl (pa_cons (pv 1) (pa_cons (pe_callB (call_len' K) rfl B.len PySem.boot_len (pa_cons (pv 4) pa_nil)) pa_nil))))
    (pss_cons (ps_set (i := 7) sc_law.nd rfl (Or.inr rfl) (pe_lc (own := [("_law_side", 16)]) rfl sc_law.nd (pi_seq' K (pv 4)) (blkOk_by (own := [("_law_side", 16)]) (N := ["_law_script", "_law_shape", "_law_source_here", "_law_span", "_law_sides", "_law_other", "_law_party", "_law_clean_here", "_law_box", "_law_passed", "_law_changed", "_law_expected", "_law_back", "_law_k", "_law_turned", "_law_at", "_law_side"]) (sc := defScope s_law) (by decide +kernel)) (fun _ _ _ _ _ => (pg_name (i := 16) sc_law.nd rfl (Or.inl rfl))) (fun _ _ _ _ _ => pts_nil) (fun _ _ _ _ _ => (pe_has h_l_clean hr (by first | decide | omega) rfl (pa_cons (pv 16) pa_nil)))))
    (pss_cons (ps_set (i := 8) sc_law.nd rfl (Or.inl rfl) (pe_new h_Box_init hr (by first | decide | omega) rfl (pa_cons (pv 4) pa_nil)))
    (pss_cons (ps_set (i := 9) sc_law.nd rfl (Or.inl rfl) (pe_callTy (call_list' K) rfl B.list (by decide +kernel) (pa_cons (pv 5) pa_nil)))
    (pss_cons (ps_set (i := 10) sc_law.nd rfl (Or.inl rfl) (pe_methB h_Box_with_side (pv 8) hr (by first | decide | omega) (pa_cons (pv 6) (pa_cons (pv 9) pa_nil))))
    (pss_cons (ps_if (pt_cmpR (op_ne' K hr) (pv 9) (pv 5) (nomark _)) (pss_one (ps_ret pe_bl)) pss_nil)
    (pss_cons (ps_expr (pe_app' K (pv 9) pe_int))
    (pss_cons (ps_set (i := 11) sc_law.nd rfl (Or.inl rfl) (pe_op (op_add' K) (pe_op (op_add' K) (pe_slice (sl_any' K) (pv 7) po_none (po_some (pv 6))) (pe_lst (pa_cons (pe_has h_l_clean hr (by first | decide | omega) rfl (pa_cons (pv 5) pa_nil)) pa_nil))) (pe_slice (sl_any' K) (pv 7) (po_some (pe_op (op_add' K) (pv 6) pe_int)) po_none)))
    (pss_cons (ps_if (PW.pt (pw_or (pt_not (pt_tru' K (pe_callB (call_isi' K) rfl B.isinstance (by decide +kernel) (pa_cons (pv 10) (pa_cons (pe_glob (v := V.ref C) rfl m_Box rfl) pa_nil))))) (pw_or1 (pt_not (pt_tru' K (pe_has h_l_is_sides hr (by first | decide | omega) rfl (pa_cons (pe_fld' K (pv 10) rfl) (pa_cons (pv 11) pa_nil)))))))) (pss_one (ps_ret pe_bl)) pss_nil)
    (pss_cons (ps_if (PW.pt (pw_or (pt_not (pt_tru' K (pe_has h_l_is_rows hr (by first | decide | omega) rfl (pa_cons (pe_callTy (call_listB h_Box_iter hr (by first | decide | omega)) rfl B.list (by decide +kernel) (pa_cons (pv 10) pa_nil)) (pa_cons (pe_has h_l_combos hr (by first | decide | omega) rfl (pa_cons (pv 11) pa_nil)) pa_nil))))) (pw_or1 (pt_not (pt_tru' K (pe_has h_l_is_sides hr (by first | decide | omega) rfl (pa_cons (pe_fld' K (pv 8) rfl) (pa_cons (pv 7) pa_nil)))))))) (pss_one (ps_ret pe_bl)) pss_nil)
    (pss_cons (ps_if (pt_not (pt_tru' K (pe_has h_l_is_sides hr (by first | decide | omega) rfl (pa_cons (pe_fld' K (pe_methB h_Box_with_side (pv 10) hr (by first | decide | omega) (pa_cons (pv 6) (pa_cons (pe_callTy (call_tuple' K) rfl B.tuple (by decide +kernel) (pa_cons (pe_ix (ix' K) (pv 4) (pv 6) (fun _ _ => rfl)) pa_nil)) pa_nil))) rfl) (pa_cons (pv 7) pa_nil))))) (pss_one (ps_ret pe_bl)) pss_nil)
    (pss_cons (ps_set (i := 12) sc_law.nd rfl (Or.inl rfl) (pv 10))
    (pss_cons (ps_for PassesOwn.never rfl (pi_range1 rfl B.range (pa_cons (pe_callB (call_len' K) rfl B.len PySem.boot_len (pa_cons (pv 4) pa_nil)) pa_nil)) (pg_name (i := 13) sc_law.nd rfl (Or.inl rfl)) (pss_one (ps_set (i := 12) sc_law.nd rfl (Or.inl rfl) (pe_methB h_Box_with_side (pv 12) hr (by first | decide | omega) (pa_cons (pv 13) (pa_cons (pe_lst (pa_cons (pv 13) pa_nil)) pa_nil))))))
    (pss_cons (ps_for PassesOwn.never rfl (pi_range1 rfl B.range (pa_cons (pe_callB (call_len' K) rfl B.len PySem.boot_len (pa_cons (pv 4) pa_nil)) pa_nil)) (pg_name (i := 13) sc_law.nd rfl (Or.inl rfl)) (pss_one (ps_set (i := 12) sc_law.nd rfl (Or.inl rfl) (pe_methB h_Box_with_side (pv 12) hr (by first | decide | omega) (pa_cons (pv 13) (pa_cons (pe_ix (ix' K) (pv 4) (pe_op op_sub (pe_op op_sub (pe_callB (call_len' K) rfl B.len PySem.boot_len (pa_cons (pv 4) pa_nil)) pe_int) (pv 13)) (fun _ _ => rfl)) pa_nil))))))
    (pss_cons (ps_setLc (own := [("_law_k", 13)]) (i := 14) rfl sc_law.nd rfl rfl (sw_true rfl rfl rfl (by decide +kernel)) (pi_range1 rfl B.range (pa_cons (pe_callB (call_len' K) rfl B.len PySem.boot_len (pa_cons (pv 4) pa_nil)) pa_nil)) (blkOk_by (own := [("_law_k", 13)]) (N := ["_law_script", "_law_shape", "_law_source_here", "_law_span", "_law_sides", "_law_other", "_law_party", "_law_clean_here", "_law_box", "_law_passed", "_law_changed", "_law_expected", "_law_back", "_law_k", "_law_turned", "_law_at", "_law_side"]) (sc := defScope s_law) (by decide +kernel)) (fun _ _ _ _ _ => (pg_name (i := 13) sc_law.nd rfl (Or.inl rfl))) (fun _ _ _ _ _ => pts_nil) (fun _ _ _ _ _ => (pe_ix (ix' K) (pv 7) (pe_op op_sub (pe_op op_sub (pe_callB (call_len' K) rfl B.len PySem.boot_len (pa_cons (pv 4) pa_nil)) pe_int) (pv 13)) (fun _ _ => rfl))))
    (pss_one (ps_ret (pe_and (pe_has h_l_is_sides hr (by first | decide | omega) rfl (pa_cons (pe_fld' K (pv 12) rfl) (pa_cons (pv 14) pa_nil))) (pe_one (pe_has h_l_is_sides hr (by first | decide | omega) rfl (pa_cons (pe_fld' K (pv 10) rfl) (pa_cons (pv 11) pa_nil))))))))))))))))))))))))))), fun (ns : List Int) _ fx Q hq hl => ?_⟩)
  show KV fx [] (Sl.d (vK K ns) :: List.replicate 16 .u) _
  have hq : Rx fx [] (.d (vV (.bl true))) Q := hq
  refine q_asg (ev_cl (ea_cons (ev_cl (by walk_at "pl_a") (cb_cell (by decide))) ea_nil) cb_source) ?_
  refine q_asg (ev_cl (ea_cons (ev_cl (by walk_at "pl_a") (cb_cell (by decide))) ea_nil) cb_source) ?_
  show KV fx [some cSrc, some cSrc] (Sl.d (vK K ns) :: .c 0 :: .c 1 :: List.replicate 14 .u) _
  refine q_asgE (I := fun z => z ∈ [4, 1000000001]) (R := fun z => vV (.int z)) (M' := [some cSrc, some cSrc]) (ev_op (ev_lst (Ps := vIs [4, 1000000001]) (by walk_at "pl_a") (by walk_at "pl_ad")) (ev_cl (by walk_at "pl_a") (cb_draw (n := 2) rfl (by decide))) (opv_pick (ns := [4, 1000000001]) fun r hr => hr)) fun span hspan => ?_
  have hsp : 0 < span ∧ span < 1073741824 := by
    simp at hspan; omega
  refine q_asgE (I := FirstOk) (R := vSides) (M' := [some cSrc, some cSrc]) (ev_cl (ea_cons (ev_varC rfl) (ea_cons (ev_varC rfl) (ea_cons (ev_op ev_c (ev_cl (by walk_at "pl_a") (cb_draw (n := 8) rfl (by decide))) (opv_ex2 (s := .d (vEx (fun r : Int => 1 ≤ r ∧ r ≤ 8) fun r => vV (.int r))) fun r hr => opv_sub oa_int (sub_in (1 + r) ⟨by omega, by omega⟩ Sub.rfl))) (ea_cons (ev_varD rfl) ea_nil))))
    (cb_ex 2 rfl fun m hm => cb_sub (cb_sides (by decide) rfl rfl ⟨by omega, by omega⟩ hsp) (sub_ex fun s hs => sub_in s ?_ Sub.rfl))) fun first hfirst => ?_
  · obtain ⟨e1, e2, e3⟩ := hs
    exact ⟨by omega, by omega, e2, fun t ht => ⟨(e3 t ht).1, fun x hx => ((e3 t ht).2 x hx).1⟩⟩
  obtain ⟨f1, f2, f3, f4⟩ := hfirst
  refine q_asgE (I := fun rs : List Int => rs.length ≤ 4 ∧ ∀ r ∈ rs, 0 ≤ r ∧ r < span) (R := fun rs => vLs (vIs rs)) (M' := [some cSrc, some cSrc]) (ev_drawsE 4 (I := fun r : Int => 0 ≤ r ∧ r < 5) (m := span) (ea_cons (ev_cl (by walk_at "pl_a") (cb_draw rfl (by decide))) ea_nil) (fun r hr => ⟨hr.1, by have := hr.2; omega⟩) (by decide) fun i => by walk_at "pl_e") fun oth hoth => ?_
  obtain ⟨o1, o2⟩ := hoth
  have hfl : ((first.map fun s => vLs (vIs s)).length : Int) = (first.length : Int) := by rw [List.length_map]
  refine q_asgE (I := fun r : Int => 0 ≤ r ∧ r < ((first.map fun s => vLs (vIs s)).length : Int)) (R := fun r => vV (.int r)) (M' := [some cSrc, some cSrc]) (ev_cl (ea_cons (ev_varC rfl) (ea_cons (ev_cb (ea_cons (ev_varD rfl) ea_nil) ln_L) ea_nil)) (cb_draw rfl (by omega))) fun r hr => ?_
  obtain ⟨p, rfl⟩ : ∃ p : Nat, r = (p : Int) := ⟨r.toNat, by omega⟩
  have hp : p < first.length := by omega
  clear hr
  refine q_asgM (s := .d (vSides (first.map clean))) ?_ ?_
  · show EV _ _ _ _ (.d (vLs ((first.map clean).map fun s => vLs (vIs s))))
    rw [List.map_map]
    exact ev_lcN (R := fun s => vLs (vIs s)) (F := fun s => vLs (vIs (clean s))) (src_Lm (by walk_at "pl_e")) (by omega) fun s hs => ev_cl (by walk_at "pl_a") (cb_pure (c := cClean) s (show s.length ≤ 10000 by have := (f4 s hs).1; omega) (.cons sle_d .nil))
  refine q_asgM (s := .d (vBox C (first.map clean))) (ev_new (ea_cons (ev_varD rfl) ea_nil) (cb_box first (fun q => by rw [q] at f1; simp at f1) (by omega) (by omega) (fun s hs => ⟨by have := (f4 s hs).1; omega, (f4 s hs).2⟩) (sle_s (sub_LQ fun s => sub_lq)))) ?_
  have a1 : ∀ s ∈ first.map clean, (s.Pairwise (· < ·) ∧ ∀ n ∈ s, 0 ≤ n) ∧ s.length ≤ 1000 := fun s hs => by
    obtain ⟨t, ht, rfl⟩ := List.mem_map.mp hs
    have := clean_len t; have := (f4 t ht).1
    exact ⟨⟨(clean_ok t).1, fun n hn => (f4 t ht).2 n (((clean_ok t).2 n).mp hn)⟩, by omega⟩
  have n1 : (first.map clean).length = first.length := List.length_map ..
  have q1 := prodP_clean first
  have c0 := (clean_ok oth)
  have co : (clean oth).Pairwise (· < ·) ∧ ∀ n ∈ clean oth, 0 ≤ n := ⟨c0.1, fun n hn => (o2 n ((c0.2 n).mp hn)).1⟩
  have cl4 : (clean oth).length ≤ 4 := Nat.le_trans (clean_len oth) o1
  -- list(other), lent
  refine q_asg (s := .c 2) (M' := [some cSrc, some cSrc, some (cLs (vIs oth))]) (ev_cb (ea_cons (ev_sub (ev_varD rfl) sub_lq) ea_nil) lc_Q) ?_
  -- what with_side gives
  have wb : ∀ {l : List (List Int)} {i : Nat} {sd : List Int}, i < l.length → l.length ≤ 1000 → prodP (l.set i sd) ≤ 1000000 → (∀ s ∈ l, (s.Pairwise (· < ·) ∧ ∀ n ∈ s, 0 ≤ n) ∧ s.length ≤ 1000) → sd.length ≤ 1000 → (∀ n ∈ sd, 0 ≤ n) →
      ∀ {M : List (Option CP)} {Γ : List Sl} {to tp ts : TE} {P : VP}, EV M Γ to M (.d (vBox C l)) → EV M Γ tp M (.d (vV (.int (i : Nat)))) → EV M Γ ts M (.d P) → Sub P (vQs (vIs sd)) → EV M Γ (tMeth C "with_side" (spC (cWith C)) [] E0 to (tCons tp (tCons ts tNil))) M (.d (vBox C (l.set i (clean sd)))) :=
    fun {l i sd} h1 h2 h3 h4 h5 h6 {M Γ to tp ts P} ho hp hs hP => ev_meth ho rfl (ea_cons hp (ea_cons hs ea_nil)) (cb_pure (c := cWith C) (l, i, sd) ⟨h1, h2, h3, h4, h5, h6⟩ (.cons sle_d (.cons sle_d (.cons (sle_s hP) .nil))))
  have ps4 : prodP ((first.map clean).set p oth) ≤ 96 * 4 := Nat.le_trans prodP_set_le (Nat.mul_le_mul (by omega) (show max 1 oth.length ≤ 4 by omega))
  have ps : prodP ((first.map clean).set p oth) ≤ 1000000 := by omega
  refine q_asgM (s := .d (vBox C ((first.map clean).set p (clean oth)))) (ev_meth (ev_varD rfl) rfl (ea_cons (ev_varD rfl) (ea_cons (ev_varC rfl) ea_nil)) (cb_lend (ss := [vBox C (first.map clean), vV (.int (p : Nat))]) (cb_pure (c := cWith C) (first.map clean, p, oth) ⟨by rw [n1]; exact hp, by rw [n1]; omega, ps, a1, show oth.length ≤ 1000 by omega, fun n hn => (o2 n hn).1⟩ (.cons sle_d (.cons sle_d (.cons (sle_s sub_lq) .nil)))) rfl (show (vIs oth).length ≤ 16777216 by rw [List.length_map]; omega) noL_box)) ?_
  refine q_skip (M' := [some cSrc, some cSrc, some (cLs (vIs oth))]) (et_is (et_test (ev_op (ev_varC rfl) (ev_varD rfl) (on_KC dkI rfl))) (by simp)) ?_
  refine q_append (ev_varC rfl) rfl ev_c (by rw [List.length_map]; omega) ?_
  show KV fx [some cSrc, some cSrc, some (cLs (vIs oth ++ [vV (.int 1)]))] [.d (vK K ns), .c 0, .c 1, .d (vV (.int span)), .d (vSides first), .d (vLs (vIs oth)), .d (vV (.int (p : Nat))), .d (vSides (first.map clean)), .d (vBox C (first.map clean)), .c 2, .d (vBox C ((first.map clean).set p (clean oth))), .u, .u, .u, .u, .u, .u] _
  have pt : prodP ((first.map clean).set p (clean oth)) ≤ 96 * 4 := Nat.le_trans (prodP_set (clean_len oth)) ps4
  have hp1 : p < (first.map clean).length := by omega
  have a2 : ∀ s ∈ (first.map clean).set p (clean oth), (s.Pairwise (· < ·) ∧ ∀ n ∈ s, 0 ≤ n) ∧ s.length ≤ 1000 := fun s hs => by
    rcases List.mem_or_eq_of_mem_set hs with hs | hs
    · exact a1 s hs
    · subst hs; exact ⟨co, by omega⟩
  have n2 : ((first.map clean).set p (clean oth)).length = first.length := by rw [List.length_set, n1]
  have hback : ((first.map clean).set p (clean oth)).set p (clean first[p]) = first.map clean := by
    rw [List.set_set]
    have : clean first[p] = (first.map clean)[p] := by rw [List.getElem_map]
    rw [this, List.set_getElem_self]
  have bk : prodP (((first.map clean).set p (clean oth)).set p first[p]) ≤ 1000000 := by
    rw [List.set_set]
    refine Nat.le_trans (prodP_set_le (s := first[p])) ?_
    have h39 := (f4 first[p] (List.getElem_mem hp)).1
    have : Nat.max 1 first[p].length ≤ 39 := show max 1 first[p].length ≤ 39 by omega
    exact Nat.le_trans (Nat.mul_le_mul (show prodP (first.map clean) ≤ 96 by omega) this) (by decide)
  have htw : ((first.map clean).take p ++ clean oth :: (first.map clean).drop (p + 1)) = (first.map clean).set p (clean oth) := set_cut hp1
  have hcl : ∀ (j : Nat) (h : j < first.length), (first.map clean)[j]? = some (clean first[j]) := fun j h => by rw [List.getElem?_map, List.getElem?_eq_getElem h] <;> rfl
  generalize htwo : (first.map clean).set p (clean oth) = two at *
  generalize hone : first.map clean = one at *
  have cl := ic.cl
  have isS : ∀ {M : List (Option CP)} {Γ : List Sl} {te tf : TE} {a b : List (List Int)}, EV M Γ te M (.d (vBox C a)) → EV M Γ tf M (.d (vSides b)) → a.length ≤ 1000 → b.length ≤ 1000 → (∀ s ∈ a, s.length ≤ 1000) → (∀ s ∈ b, s.length ≤ 1000) →
      EV M Γ (tCall (spC cIsSides) [] E0 (tCons (tFld K te "sides") (tCons tf tNil))) M (.d (vV (.bl (decide (a = b))))) := fun {M Γ te tf a b} hi hj h1 h2 h3 h4 =>
    ev_cl (ea_cons (ev_fld cl nS hi rfl) (ea_cons hj ea_nil)) (cb_pure (c := cIsSides) (a, b) ⟨⟨by show a.length ≤ _; omega, by show b.length ≤ _; omega⟩, fun s hs => by have := h3 s hs; omega, fun s hs => by have := h4 s hs; omega⟩ (.cons sle_d (.cons sle_d .nil)))
  have b1 : ∀ s ∈ one, s.length ≤ 1000 := fun s hs => (a1 s hs).2
  have b2 : ∀ s ∈ two, s.length ≤ 1000 := fun s hs => (a2 s hs).2
  generalize hM : [some cSrc, some cSrc, some (cLs (vIs oth ++ [vV (.int 1)]))] = M3
  refine q_asgM (s := .d (vSides two)) ?_ ?_
  · show EV _ _ _ _ (.d (vLs (two.map fun s => vLs (vIs s))))
    have e : (two.map fun s => vLs (vIs s)) = cutP (one.map fun s => vLs (vIs s)) none (some ((p : Nat) : Int)) ++ [vLs (vIs (clean oth))] ++ cutP (one.map fun s => vLs (vIs s)) (some ((p + 1 : Nat) : Int)) none := by rw [← htw, List.map_append, List.map_cons, List.append_cons, ← cutP_to, ← cutP_from]
    rw [e]
    have lt : (cutP (one.map fun s => vLs (vIs s)) none (some ((p : Nat) : Int))).length ≤ 8 := by rw [cutP_to, List.length_map, List.length_take]; omega
    have ld : (cutP (one.map fun s => vLs (vIs s)) (some (((p : Nat) : Int) + 1)) none).length ≤ 8 := by rw [show ((p : Nat) : Int) + 1 = ((p + 1 : Nat) : Int) from rfl, cutP_from, List.length_map, List.length_drop]; omega
    refine ev_op (ev_op (ev_sl (ev_varD rfl) eo_none (eo_some (ev_varD rfl)) sl_L) (ev_lst (Ps := [vLs (vIs (clean oth))]) (ea_cons (ev_cl (ea_cons (ev_varD rfl) ea_nil) (cb_pure (c := cClean) oth (show oth.length ≤ 10000 by omega) (.cons sle_d .nil))) ea_nil) (.cons .nil)) (oa_L ?_)) (ev_sl (ev_varD rfl) (eo_some (ev_is (ev_op (ev_varD rfl) ev_c oa_int) rfl)) eo_none sl_L) (oa_L ?_)
    · show _ + 1 ≤ _; omega
    · rw [List.length_append]; show _ + 1 + _ ≤ _; omega
  refine q_skip (M' := M3) (et_is (et_or (et_not (tr_B (ev_cb (ea_cons (ev_varD rfl) (ea_cons ev_c ea_nil)) (cb_isiC ic isIns)))) fun _ => et_not (tr_B (isS (a := two) (b := two) (ev_varD rfl) (ev_varD rfl) (by omega) (by omega) b2 b2))) (by simp)) ?_
  have c2 := combos_len two
  refine q_skip (M' := M3) (et_is (et_or (et_not (tr_B (ev_cl (ea_cons (ev_cb (ea_cons (ev_varD rfl) ea_nil) (cb_listB (Ps := (combos two).map vRow) rfl)) (ea_cons (ev_cl (ea_cons (ev_varD rfl) ea_nil) (cb_pure (c := cCombos 9) two ⟨by omega, by omega, by omega⟩ (.cons sle_d .nil))) ea_nil)) (cb_pure (c := cIsRows) (combos two, combos two) ⟨⟨?_, ?_⟩, ?_, ?_⟩ (.cons sle_d (.cons sle_d .nil)))))) fun _ => et_not (tr_B (isS (a := one) (b := one) (ev_varD rfl) (ev_varD rfl) (by omega) (by omega) b1 b1))) (by simp)) ?_
  · show (combos two).length ≤ _; omega
  · show (combos two).length ≤ _; omega
  · intro r hr; rw [combos_row hr]; omega
  · intro r hr; rw [combos_row hr]; omega
  refine q_skip (M' := M3) (et_is (et_not (tr_B (isS (a := one) (b := one) ?_ (ev_varD rfl) (by omega) (by omega) b1 b1))) (by simp)) ?_
  · rw [← hback]
    exact wb (by omega) (by omega) bk a2 (by have := (f4 first[p] (List.getElem_mem hp)).1; omega) (f4 first[p] (List.getElem_mem hp)).2 (ev_varD rfl) (ev_varD rfl) (ev_cb (ea_cons (ev_op (ev_varD rfl) (ev_varD rfl) (opv_ixL (at_map hp))) ea_nil) tu_L) sub_tq
  refine q_asgM (s := .d (vBox C two)) (ev_varD rfl) ?_
  have nf : ((first.map fun s => vLs (vIs s)).length : Int).toNat = first.length := by rw [List.length_map]; omega
  -- the first walk: single standings
  refine q_for (δ := List (List Int)) (src_R1 (n := ((first.map fun s => vLs (vIs s)).length : Int)) (ea_cons (ev_cb (ea_cons (ev_varD rfl) ea_nil) ln_L) ea_nil) (by rw [List.length_map]; omega)) (fun i d => d.length = first.length ∧ (∀ s ∈ d, (s.Pairwise (· < ·) ∧ ∀ n ∈ s, 0 ≤ n) ∧ s.length ≤ 1000) ∧ prodP d ≤ 96 * 4 ∧ ∀ j, j < i → ∃ x, d[j]? = some [x]) (fun _ => M3)
    (fun d => [.d (vK K ns), .c 0, .c 1, .d (vV (.int span)), .d (vSides first), .d (vLs (vIs oth)), .d (vV (.int (p : Nat))), .d (vSides one), .d (vBox C one), .c 2, .d (vBox C two), .d (vSides two), .d (vBox C d), .u, .u, .u, .u])
    (fun i d => [.d (vK K ns), .c 0, .c 1, .d (vV (.int span)), .d (vSides first), .d (vLs (vIs oth)), .d (vV (.int (p : Nat))), .d (vSides one), .d (vBox C one), .c 2, .d (vBox C two), .d (vSides two), .d (vBox C d), .d (vV (.int (i : Nat))), .u, .u, .u]) two ⟨n2, a2, pt, fun j hj => absurd hj (Nat.not_lt_zero _)⟩ rfl (by walk_at "pl_gle") (fun i d hi hI => ⟨_, gt_name⟩) (fun fx' le' hl' i d hi hI => ?_) (fun d hI => ?_)
  · obtain ⟨i1, i2, i3, i4⟩ := hI
    have hi : i < first.length := by rw [nf] at hi; exact hi
    refine k_asgM (s := .d (vBox C (d.set i (clean [(i : Int)])))) (wb (sd := [(i : Int)]) (by omega) (by omega) (Nat.le_trans prodP_one (by omega)) i2 (Nat.le_of_ble_eq_true rfl) (fun n hn => by rw [List.mem_singleton.mp hn]; omega) (ev_varD rfl) (ev_varD rfl) (ev_lst (Ps := vIs [(i : Int)]) (ea_cons (ev_varD rfl) ea_nil) (.cons .nil)) sub_lq) ?_
    dsimp only
    rw [clean_one]
    refine k_next' (d.set i [(i : Int)]) ⟨by rw [List.length_set]; exact i1, fun s hs => ?_, Nat.le_trans prodP_one i3, fun j hj => ?_⟩ CLe.rfl (by rw [hl']; exact Nat.le_refl _) (by walk_at "pl_gle") (low_all (by rw [← hM] <;> rfl))
    · rcases List.mem_or_eq_of_mem_set hs with hs | hs
      · exact i2 s hs
      · subst hs; exact ⟨⟨by simp, fun n hn => by rw [List.mem_singleton.mp hn]; omega⟩, Nat.le_of_ble_eq_true rfl⟩
    · by_cases e : j = i
      · subst e; exact ⟨_, List.getElem?_set_self (by omega)⟩
      · rw [List.getElem?_set_ne (by omega)]; exact i4 j (by omega)
  obtain ⟨i1, i2, _, i4⟩ := hI
  rw [nf] at i4
  clear nf
  have nf : ((first.map fun s => vLs (vIs s)).length : Int).toNat = first.length := by rw [List.length_map]; omega
  have rv : ∀ (i : Nat) (h : i < first.length), first.reverse[i]? = some (first[first.length - 1 - i]'(by omega)) := fun i h => by rw [List.getElem?_reverse h, List.getElem?_eq_getElem (by omega)]
  have rc : ∀ (i : Nat) (h : i < first.length), (first.reverse.map clean)[i]? = some (clean (first[first.length - 1 - i]'(by omega))) := fun i h => by rw [List.getElem?_map, rv i h] <;> rfl
  have rl : (first.reverse.map clean).length = first.length := by rw [List.length_map, List.length_reverse]
  have ra : ∀ s ∈ first.reverse.map clean, (s.Pairwise (· < ·) ∧ ∀ n ∈ s, 0 ≤ n) ∧ s.length ≤ 1000 := fun s hs => by
    obtain ⟨u, hu, rfl⟩ := List.mem_map.mp hs
    exact a1 _ (by rw [← hone]; exact List.mem_map.mpr ⟨u, List.mem_reverse.mp hu, rfl⟩)
  -- the second walk: the sides backwards
  refine q_for (δ := List (List Int)) (src_R1 (n := ((first.map fun s => vLs (vIs s)).length : Int)) (ea_cons (ev_cb (ea_cons (ev_varD rfl) ea_nil) ln_L) ea_nil) (by rw [List.length_map]; omega)) (fun i d => d.length = first.length ∧ (∀ s ∈ d, (s.Pairwise (· < ·) ∧ ∀ n ∈ s, 0 ≤ n) ∧ s.length ≤ 1000) ∧ (∀ j, i ≤ j → j < first.length → ∃ x, d[j]? = some [x]) ∧ ∀ j, j < i → d[j]? = (first.reverse.map clean)[j]?) (fun _ => M3)
    (fun d => [.d (vK K ns), .c 0, .c 1, .d (vV (.int span)), .d (vSides first), .d (vLs (vIs oth)), .d (vV (.int (p : Nat))), .d (vSides one), .d (vBox C one), .c 2, .d (vBox C two), .d (vSides two), .d (vBox C d), .u, .u, .u, .u])
    (fun i d => [.d (vK K ns), .c 0, .c 1, .d (vV (.int span)), .d (vSides first), .d (vLs (vIs oth)), .d (vV (.int (p : Nat))), .d (vSides one), .d (vBox C one), .c 2, .d (vBox C two), .d (vSides two), .d (vBox C d), .d (vV (.int (i : Nat))), .u, .u, .u]) d ⟨i1, i2, fun j _ h => i4 j h, fun j hj => absurd hj (Nat.not_lt_zero _)⟩ rfl (by walk_at "pl_gle") (fun i d hi hI => ⟨_, gt_name⟩) (fun fx' le' hl' i d hi hI => ?_) (fun d hI => ?_)
  · obtain ⟨j1, j2, j3, j4⟩ := hI
    have hi : i < first.length := by rw [nf] at hi; exact hi
    have hri : first.length - 1 - i < first.length := by omega
    have hf := f4 _ (List.getElem_mem hri)
    have hpr : prodP (d.set i first[first.length - 1 - i]) ≤ 1000000 := by
      refine Nat.le_trans (prodP_max (m := first.reverse) (by rw [List.length_set, List.length_reverse]; exact j1) fun j a b ha hb => ?_) (by rw [prodP_rev]; omega)
      have hj : j < first.length := by have := (List.getElem?_eq_some_iff.mp hb).1; rw [List.length_reverse] at this; exact this
      rcases Nat.lt_trichotomy j i with h | h | h
      · rw [List.getElem?_set_ne (by omega), j4 j h, rc j hj] at ha
        rw [rv j hj] at hb
        cases ha; cases hb
        have := clean_len (first[first.length - 1 - j]'(by omega))
        omega
      · subst h
        rw [List.getElem?_set_self (by omega)] at ha
        rw [rv j hj] at hb
        cases ha; cases hb; exact Nat.le_refl _
      · obtain ⟨x, hx⟩ := j3 j (by omega) hj
        rw [List.getElem?_set_ne (by omega), hx] at ha
        cases ha; exact Nat.le_max_left _ _
    refine k_asgM (s := .d (vBox C (d.set i (clean first[first.length - 1 - i])))) (wb (sd := first[first.length - 1 - i]) (by omega) (by omega) hpr j2 (by omega) hf.2 (ev_varD rfl) (ev_varD rfl) (ev_op (ev_varD rfl) (ev_op (ev_op (ev_cb (ea_cons (ev_varD rfl) ea_nil) ln_L) ev_c opv_I0) (ev_varD rfl) opv_I0) (opv_ixL (at_of' (j := first.length - 1 - i) (by rw [List.length_map]; omega) (by rw [List.getElem?_map, List.getElem?_eq_getElem hri] <;> rfl)))) sub_lq) ?_
    dsimp only
    refine k_next' (d.set i (clean first[first.length - 1 - i])) ⟨by rw [List.length_set]; exact j1, fun s hs => ?_, fun j hj1 hj2 => ?_, fun j hj => ?_⟩ CLe.rfl (by rw [hl']; exact Nat.le_refl _) (by walk_at "pl_gle") (low_all (by rw [← hM] <;> rfl))
    · rcases List.mem_or_eq_of_mem_set hs with hs | hs
      · exact j2 s hs
      · subst hs; exact a1 _ (by rw [← hone]; exact List.mem_map.mpr ⟨_, List.getElem_mem hri, rfl⟩)
    · rw [List.getElem?_set_ne (by omega)]; exact j3 j (by omega) hj2
    · by_cases e : j = i
      · subst e; rw [List.getElem?_set_self (by omega), rc j hi]
      · rw [List.getElem?_set_ne (by omega)]; exact j4 j (by omega)
  obtain ⟨j1, j2, _, j4⟩ := hI
  rw [nf] at j4
  have hd : d = first.reverse.map clean := List.ext_getElem? fun j => by
    by_cases h : j < first.length
    · exact j4 j h
    · rw [List.getElem?_eq_none (by omega), List.getElem?_eq_none (by omega)]
  subst hd
  refine q_asgM (s := .d (vSides (first.reverse.map clean))) ?_ ?_
  · have e : (first.reverse.map clean).map (fun s => vLs (vIs s)) = (List.range first.length).map fun i => vLs (vIs (clean (first.getD (first.length - 1 - i) []))) := by
      apply List.ext_getElem?
      intro j
      by_cases h : j < first.length
      · rw [List.getElem?_map, rc j h, List.getElem?_map, List.getElem?_range h]
        simp [List.getD_eq_getElem?_getD, show first.length - 1 - j < first.length by omega]
      · rw [List.getElem?_eq_none (by rw [List.length_map]; omega), List.getElem?_eq_none (by rw [List.length_map, List.length_range]; omega)]
    show EV _ _ _ _ (.d (vLs ((first.reverse.map clean).map fun s => vLs (vIs s))))
    rw [e]
    refine ev_lcR (n := first.length) (by rw [← hfl]; exact ea_cons (ev_cb (ea_cons (ev_varD rfl) ea_nil) ln_L) ea_nil) (by omega) fun i hi => ?_
    have hri : first.length - 1 - i < first.length := by omega
    rw [show first.getD (first.length - 1 - i) [] = first[first.length - 1 - i] by simp [List.getD_eq_getElem?_getD, hri]]
    exact ev_op (ev_varD rfl) (ev_op (ev_op (ev_cb (ea_cons (ev_varD rfl) ea_nil) ln_L) ev_c opv_I0) (ev_varD rfl) opv_I0) (opv_ixL (at_of' (j := first.length - 1 - i) (by rw [List.length_map]; omega) (by rw [List.getElem?_map, hcl _ hri] <;> rfl)))
  apply k_retM hq
  · exact ev_is (y := V.bl true) (ev_andV (isS (ev_varD rfl) (ev_varD rfl) (by omega) (by omega) (fun s hs => (ra s hs).2) (fun s hs => (ra s hs).2)) fun _ => isS (ev_varD rfl) (ev_varD rfl) (by omega) (by omega) b2 b2) (by simp)
  · rw [← hM]; walk_at "pl_cle"
  · exact sle_d
end
theorem all_mk {l : PySem.W.OpenLaw} {w : World} {K : PySem.W.Frag} {h : Heap} {mg : Str → Option Value} {fa f_is_integer f_is_natural f_every_combination f_tidy f_missing f_l_cell f_l_source f_l_draw f_l_is_integer f_l_is_numbers f_l_combos f_l_draw_sides f_l_clean f_l_is_sides f_l_is_rows f_law C_Box f_Box_init f_Box_iter f_Box_with_side : Addr} (X : K.In h) (G : h.Ns mainGlobals mg) (hfa : mg "law" = some (.ref fa))
    {od_is_integer an_is_integer od_is_natural an_is_natural od_every_combination an_every_combination od_tidy an_tidy od_missing an_missing od_l_cell an_l_cell od_l_source an_l_source od_l_draw an_l_draw od_l_is_integer an_l_is_integer od_l_is_numbers an_l_is_numbers od_l_combos an_l_combos od_l_draw_sides an_l_draw_sides od_l_clean an_l_clean od_l_is_sides an_l_is_sides od_l_is_rows an_l_is_rows od_law an_law od_Box_init an_Box_init od_Box_iter an_Box_iter od_Box_with_side an_Box_with_side : Option Addr} {sl_is_integer sl_is_natural sl_every_combination sl_tidy sl_missing sl_l_cell sl_l_source sl_l_draw sl_l_is_integer sl_l_is_numbers sl_l_combos sl_l_draw_sides sl_l_clean sl_l_is_sides sl_l_is_rows sl_law sl_Box_init sl_Box_iter sl_Box_with_side : Array (Option Value)} {oc_is_integer kV_is_integer dc_is_integer pm_is_integer cd_is_integer ct_is_integer oc_is_natural kV_is_natural dc_is_natural pm_is_natural cd_is_natural ct_is_natural oc_every_combination kV_every_combination dc_every_combination pm_every_combination cd_every_combination ct_every_combination oc_tidy kV_tidy dc_tidy pm_tidy cd_tidy ct_tidy oc_missing kV_missing dc_missing pm_missing cd_missing ct_missing oc_l_cell kV_l_cell dc_l_cell pm_l_cell cd_l_cell ct_l_cell oc_l_source kV_l_source dc_l_source pm_l_source cd_l_source ct_l_source oc_l_draw kV_l_draw dc_l_draw pm_l_draw cd_l_draw ct_l_draw oc_l_is_integer kV_l_is_integer dc_l_is_integer pm_l_is_integer cd_l_is_integer ct_l_is_integer oc_l_is_numbers kV_l_is_numbers dc_l_is_numbers pm_l_is_numbers cd_l_is_numbers ct_l_is_numbers oc_l_combos kV_l_combos dc_l_combos pm_l_combos cd_l_combos ct_l_combos oc_l_draw_sides kV_l_draw_sides dc_l_draw_sides pm_l_draw_sides cd_l_draw_sides ct_l_draw_sides oc_l_clean kV_l_clean dc_l_clean pm_l_clean cd_l_clean ct_l_clean oc_l_is_sides kV_l_is_sides dc_l_is_sides pm_l_is_sides cd_l_is_sides ct_l_is_sides oc_l_is_rows kV_l_is_rows dc_l_is_rows pm_l_is_rows cd_l_is_rows ct_l_is_rows oc_law kV_law dc_law pm_law cd_law ct_law oc_Box_init kV_Box_init dc_Box_init pm_Box_init cd_Box_init ct_Box_init oc_Box_iter kV_Box_iter dc_Box_iter pm_Box_iter cd_Box_iter ct_Box_iter oc_Box_with_side kV_Box_with_side dc_Box_with_side pm_Box_with_side cd_Box_with_side ct_Box_with_side : Value}
    (a_is_integer : PySem.W.nsIn K mainGlobals "is_integer" = some (some (.ref f_is_integer)))
    (l_is_integer : K.lookup f_is_integer = some ⟨oc_is_integer, od_is_integer, .func (PySem.W.fnOf "is_integer" "is_integer" (defArgs s_is_integer) (defBody s_is_integer) (defScope s_is_integer) .none kV_is_integer dc_is_integer pm_is_integer an_is_integer cd_is_integer ct_is_integer), sl_is_integer⟩)
    (c_is_integer : PySem.W.codeIn K cd_is_integer "is_integer" = true)
    (k_is_integer : PySem.W.keepIn K (.ref f_is_integer) = true)
    (a_is_natural : PySem.W.nsIn K mainGlobals "is_natural" = some (some (.ref f_is_natural)))
    (l_is_natural : K.lookup f_is_natural = some ⟨oc_is_natural, od_is_natural, .func (PySem.W.fnOf "is_natural" "is_natural" (defArgs s_is_natural) (defBody s_is_natural) (defScope s_is_natural) .none kV_is_natural dc_is_natural pm_is_natural an_is_natural cd_is_natural ct_is_natural), sl_is_natural⟩)
    (c_is_natural : PySem.W.codeIn K cd_is_natural "is_natural" = true)
    (k_is_natural : PySem.W.keepIn K (.ref f_is_natural) = true)
    (a_every_combination : PySem.W.nsIn K mainGlobals "every_combination" = some (some (.ref f_every_combination)))
    (l_every_combination : K.lookup f_every_combination = some ⟨oc_every_combination, od_every_combination, .func (PySem.W.fnOf "every_combination" "every_combination" (defArgs s_every_combination) (defBody s_every_combination) (defScope s_every_combination) .none kV_every_combination dc_every_combination pm_every_combination an_every_combination cd_every_combination ct_every_combination), sl_every_combination⟩)
    (c_every_combination : PySem.W.codeIn K cd_every_combination "every_combination" = true)
    (k_every_combination : PySem.W.keepIn K (.ref f_every_combination) = true)
    (a_tidy : PySem.W.nsIn K mainGlobals "tidy" = some (some (.ref f_tidy)))
    (l_tidy : K.lookup f_tidy = some ⟨oc_tidy, od_tidy, .func (PySem.W.fnOf "tidy" "tidy" (defArgs s_tidy) (defBody s_tidy) (defScope s_tidy) .none kV_tidy dc_tidy pm_tidy an_tidy cd_tidy ct_tidy), sl_tidy⟩)
    (c_tidy : PySem.W.codeIn K cd_tidy "tidy" = true)
    (k_tidy : PySem.W.keepIn K (.ref f_tidy) = true)
    (a_missing : PySem.W.nsIn K mainGlobals "missing" = some (some (.ref f_missing)))
    (l_missing : K.lookup f_missing = some ⟨oc_missing, od_missing, .func (PySem.W.fnOf "missing" "missing" (defArgs s_missing) (defBody s_missing) (defScope s_missing) .none kV_missing dc_missing pm_missing an_missing cd_missing ct_missing), sl_missing⟩)
    (c_missing : PySem.W.codeIn K cd_missing "missing" = true)
    (k_missing : PySem.W.keepIn K (.ref f_missing) = true)
    (a_l_cell : PySem.W.nsIn K mainGlobals "_law_cell" = some (some (.ref f_l_cell)))
    (l_l_cell : K.lookup f_l_cell = some ⟨oc_l_cell, od_l_cell, .func (PySem.W.fnOf "_law_cell" "_law_cell" (defArgs s_l_cell) (defBody s_l_cell) (defScope s_l_cell) .none kV_l_cell dc_l_cell pm_l_cell an_l_cell cd_l_cell ct_l_cell), sl_l_cell⟩)
    (c_l_cell : PySem.W.codeIn K cd_l_cell "_law_cell" = true)
    (k_l_cell : PySem.W.keepIn K (.ref f_l_cell) = true)
    (a_l_source : PySem.W.nsIn K mainGlobals "_law_source" = some (some (.ref f_l_source)))
    (l_l_source : K.lookup f_l_source = some ⟨oc_l_source, od_l_source, .func (PySem.W.fnOf "_law_source" "_law_source" (defArgs s_l_source) (defBody s_l_source) (defScope s_l_source) .none kV_l_source dc_l_source pm_l_source an_l_source cd_l_source ct_l_source), sl_l_source⟩)
    (c_l_source : PySem.W.codeIn K cd_l_source "_law_source" = true)
    (k_l_source : PySem.W.keepIn K (.ref f_l_source) = true)
    (a_l_draw : PySem.W.nsIn K mainGlobals "_law_draw" = some (some (.ref f_l_draw)))
    (l_l_draw : K.lookup f_l_draw = some ⟨oc_l_draw, od_l_draw, .func (PySem.W.fnOf "_law_draw" "_law_draw" (defArgs s_l_draw) (defBody s_l_draw) (defScope s_l_draw) .none kV_l_draw dc_l_draw pm_l_draw an_l_draw cd_l_draw ct_l_draw), sl_l_draw⟩)
    (c_l_draw : PySem.W.codeIn K cd_l_draw "_law_draw" = true)
    (k_l_draw : PySem.W.keepIn K (.ref f_l_draw) = true)
    (a_l_is_integer : PySem.W.nsIn K mainGlobals "_law_is_integer" = some (some (.ref f_l_is_integer)))
    (l_l_is_integer : K.lookup f_l_is_integer = some ⟨oc_l_is_integer, od_l_is_integer, .func (PySem.W.fnOf "_law_is_integer" "_law_is_integer" (defArgs s_l_is_integer) (defBody s_l_is_integer) (defScope s_l_is_integer) .none kV_l_is_integer dc_l_is_integer pm_l_is_integer an_l_is_integer cd_l_is_integer ct_l_is_integer), sl_l_is_integer⟩)
    (c_l_is_integer : PySem.W.codeIn K cd_l_is_integer "_law_is_integer" = true)
    (k_l_is_integer : PySem.W.keepIn K (.ref f_l_is_integer) = true)
    (a_l_is_numbers : PySem.W.nsIn K mainGlobals "_law_is_numbers" = some (some (.ref f_l_is_numbers)))
    (l_l_is_numbers : K.lookup f_l_is_numbers = some ⟨oc_l_is_numbers, od_l_is_numbers, .func (PySem.W.fnOf "_law_is_numbers" "_law_is_numbers" (defArgs s_l_is_numbers) (defBody s_l_is_numbers) (defScope s_l_is_numbers) .none kV_l_is_numbers dc_l_is_numbers pm_l_is_numbers an_l_is_numbers cd_l_is_numbers ct_l_is_numbers), sl_l_is_numbers⟩)
    (c_l_is_numbers : PySem.W.codeIn K cd_l_is_numbers "_law_is_numbers" = true)
    (k_l_is_numbers : PySem.W.keepIn K (.ref f_l_is_numbers) = true)
    (a_l_combos : PySem.W.nsIn K mainGlobals "_law_combos" = some (some (.ref f_l_combos)))
    (l_l_combos : K.lookup f_l_combos = some ⟨oc_l_combos, od_l_combos, .func (PySem.W.fnOf "_law_combos" "_law_combos" (defArgs s_l_combos) (defBody s_l_combos) (defScope s_l_combos) .none kV_l_combos dc_l_combos pm_l_combos an_l_combos cd_l_combos ct_l_combos), sl_l_combos⟩)
    (c_l_combos : PySem.W.codeIn K cd_l_combos "_law_combos" = true)
    (k_l_combos : PySem.W.keepIn K (.ref f_l_combos) = true)
    (a_l_draw_sides : PySem.W.nsIn K mainGlobals "_law_draw_sides" = some (some (.ref f_l_draw_sides)))
    (l_l_draw_sides : K.lookup f_l_draw_sides = some ⟨oc_l_draw_sides, od_l_draw_sides, .func (PySem.W.fnOf "_law_draw_sides" "_law_draw_sides" (defArgs s_l_draw_sides) (defBody s_l_draw_sides) (defScope s_l_draw_sides) .none kV_l_draw_sides dc_l_draw_sides pm_l_draw_sides an_l_draw_sides cd_l_draw_sides ct_l_draw_sides), sl_l_draw_sides⟩)
    (c_l_draw_sides : PySem.W.codeIn K cd_l_draw_sides "_law_draw_sides" = true)
    (k_l_draw_sides : PySem.W.keepIn K (.ref f_l_draw_sides) = true)
    (a_l_clean : PySem.W.nsIn K mainGlobals "_law_clean" = some (some (.ref f_l_clean)))
    (l_l_clean : K.lookup f_l_clean = some ⟨oc_l_clean, od_l_clean, .func (PySem.W.fnOf "_law_clean" "_law_clean" (defArgs s_l_clean) (defBody s_l_clean) (defScope s_l_clean) .none kV_l_clean dc_l_clean pm_l_clean an_l_clean cd_l_clean ct_l_clean), sl_l_clean⟩)
    (c_l_clean : PySem.W.codeIn K cd_l_clean "_law_clean" = true)
    (k_l_clean : PySem.W.keepIn K (.ref f_l_clean) = true)
    (a_l_is_sides : PySem.W.nsIn K mainGlobals "_law_is_sides" = some (some (.ref f_l_is_sides)))
    (l_l_is_sides : K.lookup f_l_is_sides = some ⟨oc_l_is_sides, od_l_is_sides, .func (PySem.W.fnOf "_law_is_sides" "_law_is_sides" (defArgs s_l_is_sides) (defBody s_l_is_sides) (defScope s_l_is_sides) .none kV_l_is_sides dc_l_is_sides pm_l_is_sides an_l_is_sides cd_l_is_sides ct_l_is_sides), sl_l_is_sides⟩)
    (c_l_is_sides : PySem.W.codeIn K cd_l_is_sides "_law_is_sides" = true)
    (k_l_is_sides : PySem.W.keepIn K (.ref f_l_is_sides) = true)
    (a_l_is_rows : PySem.W.nsIn K mainGlobals "_law_is_rows" = some (some (.ref f_l_is_rows)))
    (l_l_is_rows : K.lookup f_l_is_rows = some ⟨oc_l_is_rows, od_l_is_rows, .func (PySem.W.fnOf "_law_is_rows" "_law_is_rows" (defArgs s_l_is_rows) (defBody s_l_is_rows) (defScope s_l_is_rows) .none kV_l_is_rows dc_l_is_rows pm_l_is_rows an_l_is_rows cd_l_is_rows ct_l_is_rows), sl_l_is_rows⟩)
    (c_l_is_rows : PySem.W.codeIn K cd_l_is_rows "_law_is_rows" = true)
    (k_l_is_rows : PySem.W.keepIn K (.ref f_l_is_rows) = true)
    (a_law : PySem.W.nsIn K mainGlobals "law" = some (some (.ref f_law)))
    (l_law : K.lookup f_law = some ⟨oc_law, od_law, .func (PySem.W.fnOf "law" "law" (defArgs s_law) (defBody s_law) (defScope s_law) .none kV_law dc_law pm_law an_law cd_law ct_law), sl_law⟩)
    (c_law : PySem.W.codeIn K cd_law "law" = true)
    (k_law : PySem.W.keepIn K (.ref f_law) = true)
    (a_Box : PySem.W.nsIn K mainGlobals "Box" = some (some (.ref C_Box)))
    (a_Box_init : PySem.W.findIn K (.ref C_Box) "__init__" = some (some (.ref f_Box_init)))
    (i_Box_init : PySem.W.isFn K (.ref f_Box_init) = true)
    (l_Box_init : K.lookup f_Box_init = some ⟨oc_Box_init, od_Box_init, .func (PySem.W.fnOf "__init__" "Box.__init__" (defArgs s_Box_init) (defBody s_Box_init) (defScope s_Box_init) .none kV_Box_init dc_Box_init pm_Box_init an_Box_init cd_Box_init ct_Box_init), sl_Box_init⟩)
    (c_Box_init : PySem.W.codeIn K cd_Box_init "Box.__init__" = true)
    (k_Box_init : PySem.W.keepIn K (.ref f_Box_init) = true)
    (a_Box_iter : PySem.W.findIn K (.ref C_Box) "__iter__" = some (some (.ref f_Box_iter)))
    (i_Box_iter : PySem.W.isFn K (.ref f_Box_iter) = true)
    (l_Box_iter : K.lookup f_Box_iter = some ⟨oc_Box_iter, od_Box_iter, .func (PySem.W.fnOf "__iter__" "Box.__iter__" (defArgs s_Box_iter) (defBody s_Box_iter) (defScope s_Box_iter) .none kV_Box_iter dc_Box_iter pm_Box_iter an_Box_iter cd_Box_iter ct_Box_iter), sl_Box_iter⟩)
    (c_Box_iter : PySem.W.codeIn K cd_Box_iter "Box.__iter__" = true)
    (k_Box_iter : PySem.W.keepIn K (.ref f_Box_iter) = true)
    (a_Box_with_side : PySem.W.findIn K (.ref C_Box) "with_side" = some (some (.ref f_Box_with_side)))
    (i_Box_with_side : PySem.W.isFn K (.ref f_Box_with_side) = true)
    (l_Box_with_side : K.lookup f_Box_with_side = some ⟨oc_Box_with_side, od_Box_with_side, .func (PySem.W.fnOf "with_side" "Box.with_side" (defArgs s_Box_with_side) (defBody s_Box_with_side) (defScope s_Box_with_side) .none kV_Box_with_side dc_Box_with_side pm_Box_with_side an_Box_with_side cd_Box_with_side ct_Box_with_side), sl_Box_with_side⟩)
    (c_Box_with_side : PySem.W.codeIn K cd_Box_with_side "Box.with_side" = true)
    (k_Box_with_side : PySem.W.keepIn K (.ref f_Box_with_side) = true)
    (pg_Box : PySem.W.plainGet K C_Box Str.empty = true)
    (hd_Box : PySem.W.hasDictIn K C_Box = true)
    (po_Box : PySem.W.plainOver K C_Box = true)
    (sa_Box : PySem.W.findIn K (.ref C_Box) "__setattr__" = some (some (.builtin "object.__setattr__")))
    (mk_Box : PySem.W.makesIn K C_Box = true)
    (kc_Box : PySem.W.keepIn K (.ref C_Box) = true)
    (n_Box_sides : PySem.W.findIn K (.ref C_Box) "sides" = some none)
    (n_Box_members : PySem.W.findIn K (.ref C_Box) "members" = some none)
    (ca_Box : PySem.W.findIn K (.ref C_Box) "__class__" = some (some (.builtin "object.__class__")))
    (sp_Box : PySem.W.specialIn K (.builtin "object.__class__") "__get__" = some (some (.builtin "getset_descriptor.__get__")))
    (tk_Box : PySem.W.takesIn K (.builtin "object.__class__") = some true)
    (mr_Box : PySem.W.mroIn K C_Box (.type "object") = some true)
    (nl_Box : PySem.W.findIn K (.ref C_Box) "__len__" = some none)
    (nh_Box : PySem.W.findIn K (.ref C_Box) "__length_hint__" = some none)
    (z_len : PySem.W.nsIn K mainGlobals "len" = some none)
    (z_range : PySem.W.nsIn K mainGlobals "range" = some none)
    (z_max : PySem.W.nsIn K mainGlobals "max" = some none)
    (z_min : PySem.W.nsIn K mainGlobals "min" = some none)
    (z_int : PySem.W.nsIn K mainGlobals "int" = some none)
    (z_list : PySem.W.nsIn K mainGlobals "list" = some none)
    (z_tuple : PySem.W.nsIn K mainGlobals "tuple" = some none)
    (z_sorted : PySem.W.nsIn K mainGlobals "sorted" = some none)
    (z_all : PySem.W.nsIn K mainGlobals "all" = some none)
    (z_any : PySem.W.nsIn K mainGlobals "any" = some none)
    (z_isinstance : PySem.W.nsIn K mainGlobals "isinstance" = some none)
    (z_bool : PySem.W.nsIn K mainGlobals "bool" = some none)
    (z_zip : PySem.W.nsIn K mainGlobals "zip" = some none)
    (z_enumerate : PySem.W.nsIn K mainGlobals "enumerate" = some none)
    (z_set : PySem.W.nsIn K mainGlobals "set" = some none)
    (z_sum : PySem.W.nsIn K mainGlobals "sum" = some none)
    (z_iter : PySem.W.nsIn K mainGlobals "iter" = some none)
    : ∃ fd : FuncData, (∀ (s : Shared) (v : Value), BindsTo s fd ⟨[v], []⟩ [("_law_script", v)]) ∧ ∀ base : Heap, K.In base → base.Ns mainGlobals mg → FnOk l.prog w K mg base CX0 11 fa fd ["_law_script"] (spLaw K) := by
  have e := hfa.symm.trans (PySem.W.mg_of X G a_law)
  cases e
  have F_is_integer := fun_mk (st := s_is_integer) l_is_integer c_is_integer k_is_integer
  have b_is_integer := F_is_integer.binds (ps := ["value"]) fun _ _ _ _ _ _ us hl => match us, hl with | [_], _ => rfl
  have m_is_integer := PySem.W.mg_of X G a_is_integer
  have F_is_natural := fun_mk (st := s_is_natural) l_is_natural c_is_natural k_is_natural
  have b_is_natural := F_is_natural.binds (ps := ["value"]) fun _ _ _ _ _ _ us hl => match us, hl with | [_], _ => rfl
  have m_is_natural := PySem.W.mg_of X G a_is_natural
  have F_every_combination := fun_mk (st := s_every_combination) l_every_combination c_every_combination k_every_combination
  have b_every_combination := F_every_combination.binds (ps := ["sides"]) fun _ _ _ _ _ _ us hl => match us, hl with | [_], _ => rfl
  have m_every_combination := PySem.W.mg_of X G a_every_combination
  have F_tidy := fun_mk (st := s_tidy) l_tidy c_tidy k_tidy
  have b_tidy := F_tidy.binds (ps := ["side"]) fun _ _ _ _ _ _ us hl => match us, hl with | [_], _ => rfl
  have m_tidy := PySem.W.mg_of X G a_tidy
  have F_missing := fun_mk (st := s_missing) l_missing c_missing k_missing
  have b_missing := F_missing.binds (ps := ["side", "other"]) fun _ _ _ _ _ _ us hl => match us, hl with | [_, _], _ => rfl
  have m_missing := PySem.W.mg_of X G a_missing
  have F_l_cell := fun_mk (st := s_l_cell) l_l_cell c_l_cell k_l_cell
  have b_l_cell := F_l_cell.binds (ps := ["_law_script", "_law_k"]) fun _ _ _ _ _ _ us hl => match us, hl with | [_, _], _ => rfl
  have m_l_cell := PySem.W.mg_of X G a_l_cell
  have F_l_source := fun_mk (st := s_l_source) l_l_source c_l_source k_l_source
  have b_l_source := F_l_source.binds (ps := ["_law_cell_here"]) fun _ _ _ _ _ _ us hl => match us, hl with | [_], _ => rfl
  have m_l_source := PySem.W.mg_of X G a_l_source
  have F_l_draw := fun_mk (st := s_l_draw) l_l_draw c_l_draw k_l_draw
  have b_l_draw := F_l_draw.binds (ps := ["_law_source_here", "_law_limit"]) fun _ _ _ _ _ _ us hl => match us, hl with | [_, _], _ => rfl
  have m_l_draw := PySem.W.mg_of X G a_l_draw
  have F_l_is_integer := fun_mk (st := s_l_is_integer) l_l_is_integer c_l_is_integer k_l_is_integer
  have b_l_is_integer := F_l_is_integer.binds (ps := ["_law_actual"]) fun _ _ _ _ _ _ us hl => match us, hl with | [_], _ => rfl
  have m_l_is_integer := PySem.W.mg_of X G a_l_is_integer
  have F_l_is_numbers := fun_mk (st := s_l_is_numbers) l_l_is_numbers c_l_is_numbers k_l_is_numbers
  have b_l_is_numbers := F_l_is_numbers.binds (ps := ["_law_actual", "_law_expected"]) fun _ _ _ _ _ _ us hl => match us, hl with | [_, _], _ => rfl
  have m_l_is_numbers := PySem.W.mg_of X G a_l_is_numbers
  have F_l_combos := fun_mk (st := s_l_combos) l_l_combos c_l_combos k_l_combos
  have b_l_combos := F_l_combos.binds (ps := ["_law_sides"]) fun _ _ _ _ _ _ us hl => match us, hl with | [_], _ => rfl
  have m_l_combos := PySem.W.mg_of X G a_l_combos
  have F_l_draw_sides := fun_mk (st := s_l_draw_sides) l_l_draw_sides c_l_draw_sides k_l_draw_sides
  have b_l_draw_sides := F_l_draw_sides.binds (ps := ["_law_shape", "_law_source_here", "_law_many", "_law_span"]) fun _ _ _ _ _ _ us hl => match us, hl with | [_, _, _, _], _ => rfl
  have m_l_draw_sides := PySem.W.mg_of X G a_l_draw_sides
  have F_l_clean := fun_mk (st := s_l_clean) l_l_clean c_l_clean k_l_clean
  have b_l_clean := F_l_clean.binds (ps := ["_law_side"]) fun _ _ _ _ _ _ us hl => match us, hl with | [_], _ => rfl
  have m_l_clean := PySem.W.mg_of X G a_l_clean
  have F_l_is_sides := fun_mk (st := s_l_is_sides) l_l_is_sides c_l_is_sides k_l_is_sides
  have b_l_is_sides := F_l_is_sides.binds (ps := ["_law_actual", "_law_expected"]) fun _ _ _ _ _ _ us hl => match us, hl with | [_, _], _ => rfl
  have m_l_is_sides := PySem.W.mg_of X G a_l_is_sides
  have F_l_is_rows := fun_mk (st := s_l_is_rows) l_l_is_rows c_l_is_rows k_l_is_rows
  have b_l_is_rows := F_l_is_rows.binds (ps := ["_law_actual", "_law_expected"]) fun _ _ _ _ _ _ us hl => match us, hl with | [_, _], _ => rfl
  have m_l_is_rows := PySem.W.mg_of X G a_l_is_rows
  have F_law := fun_mk (st := s_law) l_law c_law k_law
  have F_Box_init := fun_mk (st := s_Box_init) l_Box_init c_Box_init k_Box_init
  have b_Box_init := F_Box_init.binds (ps := ["self", "sides"]) fun _ _ _ _ _ _ us hl => match us, hl with | [_, _], _ => rfl
  have F_Box_iter := fun_mk (st := s_Box_iter) l_Box_iter c_Box_iter k_Box_iter
  have b_Box_iter := F_Box_iter.binds (ps := ["self"]) fun _ _ _ _ _ _ us hl => match us, hl with | [_], _ => rfl
  have F_Box_with_side := fun_mk (st := s_Box_with_side) l_Box_with_side c_Box_with_side k_Box_with_side
  have b_Box_with_side := F_Box_with_side.binds (ps := ["self", "party", "side"]) fun _ _ _ _ _ _ us hl => match us, hl with | [_, _, _], _ => rfl
  have cl_Box : Cls K C_Box := ⟨pg_Box, hd_Box, po_Box, sa_Box⟩
  have ic_Box : IsiC K C_Box := ⟨cl_Box, ca_Box, sp_Box, tk_Box, mr_Box⟩
  have mg_Box := PySem.W.mg_of X G a_Box
  have Biter := PySem.W.mg_none_of X G z_iter
  have B : Bl mg := ⟨PySem.W.mg_none_of X G z_len, PySem.W.mg_none_of X G z_range, PySem.W.mg_none_of X G z_max, PySem.W.mg_none_of X G z_min, PySem.W.mg_none_of X G z_int, PySem.W.mg_none_of X G z_list, PySem.W.mg_none_of X G z_tuple, PySem.W.mg_none_of X G z_sorted, PySem.W.mg_none_of X G z_all, PySem.W.mg_none_of X G z_any, PySem.W.mg_none_of X G z_isinstance, PySem.W.mg_none_of X G z_bool, PySem.W.mg_none_of X G z_zip, PySem.W.mg_none_of X G z_enumerate, PySem.W.mg_none_of X G z_set, PySem.W.mg_none_of X G z_sum⟩
  refine ⟨PySem.W.fnOf "law" "law" (defArgs s_law) (defBody s_law) (defScope s_law) .none kV_law dc_law pm_law an_law cd_law ct_law, fun s v => .of_eq rfl, fun base _ _ => ?_⟩
  have h_is_integer : Has l.prog w K mg base "is_integer" ["value"] 1 cIsInt := ⟨_, _, ok_is_integer B F_is_integer, m_is_integer, k_is_integer, b_is_integer⟩
  have h_is_natural : Has l.prog w K mg base "is_natural" ["value"] 2 cIsNat := ⟨_, _, ok_is_natural B h_is_integer F_is_natural, m_is_natural, k_is_natural, b_is_natural⟩
  have h_every_combination : Has l.prog w K mg base "every_combination" ["sides"] 1 cEvery := ⟨_, _, ok_every B F_every_combination, m_every_combination, k_every_combination, b_every_combination⟩
  have h_tidy : Has l.prog w K mg base "tidy" ["side"] 3 cTidy := ⟨_, _, ok_tidy B h_is_natural F_tidy, m_tidy, k_tidy, b_tidy⟩
  have h_missing : Has l.prog w K mg base "missing" ["side", "other"] 1 cMissing := ⟨_, _, ok_missing B F_missing, m_missing, k_missing, b_missing⟩
  have h_l_cell : Has l.prog w K mg base "_law_cell" ["_law_script", "_law_k"] 1 (cCell K) := ⟨_, _, ok_cell B F_l_cell, m_l_cell, k_l_cell, b_l_cell⟩
  have h_l_source : Has l.prog w K mg base "_law_source" ["_law_cell_here"] 1 cSource := ⟨_, _, ok_source F_l_source, m_l_source, k_l_source, b_l_source⟩
  have h_l_draw : Has l.prog w K mg base "_law_draw" ["_law_source_here", "_law_limit"] 1 cDraw := ⟨_, _, ok_draw B F_l_draw, m_l_draw, k_l_draw, b_l_draw⟩
  have h_l_draw_sides : Has l.prog w K mg base "_law_draw_sides" ["_law_shape", "_law_source_here", "_law_many", "_law_span"] 2 cDrawSides := ⟨_, _, ok_draw_sides B h_l_draw F_l_draw_sides, m_l_draw_sides, k_l_draw_sides, b_l_draw_sides⟩
  have h_l_clean : Has l.prog w K mg base "_law_clean" ["_law_side"] 1 cClean := ⟨_, _, ok_clean B F_l_clean, m_l_clean, k_l_clean, b_l_clean⟩
  have h_l_combos : Has l.prog w K mg base "_law_combos" ["_law_sides"] 9 (cCombos 9) := combos_has B F_l_combos m_l_combos k_l_combos b_l_combos 9
  have h_l_is_integer : Has l.prog w K mg base "_law_is_integer" ["_law_actual"] 1 cIsInt := ⟨_, _, ok_l_is_integer B F_l_is_integer, m_l_is_integer, k_l_is_integer, b_l_is_integer⟩
  have h_l_is_numbers : Has l.prog w K mg base "_law_is_numbers" ["_law_actual", "_law_expected"] 2 cNums := ⟨_, _, ok_is_numbers B h_l_is_integer F_l_is_numbers, m_l_is_numbers, k_l_is_numbers, b_l_is_numbers⟩
  have h_l_is_sides : Has l.prog w K mg base "_law_is_sides" ["_law_actual", "_law_expected"] 3 cIsSides := ⟨_, _, ok_is_sides B h_l_is_numbers F_l_is_sides, m_l_is_sides, k_l_is_sides, b_l_is_sides⟩
  have h_l_is_rows : Has l.prog w K mg base "_law_is_rows" ["_law_actual", "_law_expected"] 3 cIsRows := ⟨_, _, ok_is_rows B h_l_is_numbers F_l_is_rows, m_l_is_rows, k_l_is_rows, b_l_is_rows⟩
  have h_Box_init : HasNew l.prog w K mg base "Box" C_Box ["self", "sides"] 4 (cInit C_Box) := ⟨_, _, ⟨mk_Box, a_Box_init, i_Box_init, kc_Box⟩, ok_init B cl_Box n_Box_sides n_Box_members h_tidy h_every_combination F_Box_init, mg_Box, b_Box_init⟩
  have h_Box_with_side : HasMeth l.prog w K mg base C_Box "with_side" ["self", "party", "side"] 6 (cWith C_Box) := ⟨_, _, cl_Box, ⟨a_Box_with_side, i_Box_with_side, k_Box_with_side⟩, ok_with B cl_Box n_Box_sides h_Box_init F_Box_with_side, b_Box_with_side⟩
  have h_Box_iter : HasIter l.prog w K mg base C_Box 1 := ⟨_, _, ⟨a_Box_iter, i_Box_iter, nl_Box, nh_Box⟩, ok_iter Biter cl_Box n_Box_members F_Box_iter, b_Box_iter⟩
  exact (ok_law B h_l_source h_l_cell h_l_draw h_l_draw_sides h_l_clean h_l_combos h_l_is_sides h_l_is_rows mg_Box ic_Box n_Box_sides h_Box_init h_Box_with_side h_Box_iter F_law).imp law_sp
theorem walk {l : PySem.W.OpenLaw} {q : Program} {loose : List Str} {XP : (Str → Option Value) → Heap → Prop} {YP : World → Heap → Prop} {d : DefRec} {K : Params → PySem.W.Frag} (hn : l.most = some 63) (hdf : d.params.defaults = [])
    (hY : ∀ (w : World) (h : Heap), YP w h → (K w.params).In h)
    (F : ∀ (w : World) (mg : Str → Option Value) (fa : Addr) (h : Heap), (K w.params).In h → h.Ns mainGlobals mg → mg d.name = some (.ref fa) →
      ∃ fd : FuncData, (∀ (s : Shared) (u : Value), BindsTo s fd ⟨[u], []⟩ [("_law_script", u)]) ∧ ∀ base : Heap, (K w.params).In base → base.Ns mainGlobals mg → FnOk l.prog w (K w.params) mg base CX0 11 fa fd ["_law_script"] (spLaw (K w.params))) :
    PySem.W.WalkO q loose XP YP l.row.toRowW d [] (fun f vs => PySem.call f vs) :=
  L2.walk_of (n := 63) (k := 11) (x := "_law_script") (CX := fun _ => CX0) (sp := fun w => spLaw (K w.params)) hn (by decide) hdf ⟨rfl, by decide, by decide⟩ hY F (fun _ _ a ns hl _ hS => ⟨a, ns, rfl, hS, hl, fun _ => rfl⟩) fun _ _ _ _ _ z => z
end Pl

open PySem PySem.W PyProof.Rows in
set_option maxRecDepth 100000 in
set_option maxHeartbeats 0 in
theorem PySem.Challenge.cw_plainask_k07_box_with_side_holds : PySem.Challenge.rw_plainask_k07_box_with_side.Holds := by
  w_on; o_law; k_head; (case hw => w_witness2)
  k_fill
  refine Pl.walk (l := PySem.Challenge.rw_plainask_k07_box_with_side) rfl rfl (fun w h Y => PySem.W.kIn_of Y) ?F
  case F =>
    intro w mg fa h KX G hmg
    refine' Pl.all_mk KX G hmg ?a_is_integer ?l_is_integer ?c_is_integer ?k_is_integer ?a_is_natural ?l_is_natural ?c_is_natural ?k_is_natural ?a_every_combination ?l_every_combination ?c_every_combination ?k_every_combination ?a_tidy ?l_tidy ?c_tidy ?k_tidy ?a_missing ?l_missing ?c_missing ?k_missing ?a_l_cell ?l_l_cell ?c_l_cell ?k_l_cell ?a_l_source ?l_l_source ?c_l_source ?k_l_source ?a_l_draw ?l_l_draw ?c_l_draw ?k_l_draw ?a_l_is_integer ?l_l_is_integer ?c_l_is_integer ?k_l_is_integer ?a_l_is_numbers ?l_l_is_numbers ?c_l_is_numbers ?k_l_is_numbers ?a_l_combos ?l_l_combos ?c_l_combos ?k_l_combos ?a_l_draw_sides ?l_l_draw_sides ?c_l_draw_sides ?k_l_draw_sides ?a_l_clean ?l_l_clean ?c_l_clean ?k_l_clean ?a_l_is_sides ?l_l_is_sides ?c_l_is_sides ?k_l_is_sides ?a_l_is_rows ?l_l_is_rows ?c_l_is_rows ?k_l_is_rows ?a_law ?l_law ?c_law ?k_law ?a_Box ?a_Box_init ?i_Box_init ?l_Box_init ?c_Box_init ?k_Box_init ?a_Box_iter ?i_Box_iter ?l_Box_iter ?c_Box_iter ?k_Box_iter ?a_Box_with_side ?i_Box_with_side ?l_Box_with_side ?c_Box_with_side ?k_Box_with_side ?pg_Box ?hd_Box ?po_Box ?sa_Box ?mk_Box ?kc_Box ?n_Box_sides ?n_Box_members ?ca_Box ?sp_Box ?tk_Box ?mr_Box ?nl_Box ?nh_Box ?z_len ?z_range ?z_max ?z_min ?z_int ?z_list ?z_tuple ?z_sorted ?z_all ?z_any ?z_isinstance ?z_bool ?z_zip ?z_enumerate ?z_set ?z_sum ?z_iter
    (case a_is_integer => k_is)
    (case l_is_integer => k_is)
    (case c_is_integer => k_is)
    (case k_is_integer => k_is)
    (case a_is_natural => k_is)
    (case l_is_natural => k_is)
    (case c_is_natural => k_is)
    (case k_is_natural => k_is)
    (case a_every_combination => k_is)
    (case l_every_combination => k_is)
    (case c_every_combination => k_is)
    (case k_every_combination => k_is)
    (case a_tidy => k_is)
    (case l_tidy => k_is)
    (case c_tidy => k_is)
    (case k_tidy => k_is)
    (case a_missing => k_is)
    (case l_missing => k_is)
    (case c_missing => k_is)
    (case k_missing => k_is)
    (case a_l_cell => k_is)
    (case l_l_cell => k_is)
    (case c_l_cell => k_is)
    (case k_l_cell => k_is)
    (case a_l_source => k_is)
    (case l_l_source => k_is)
    (case c_l_source => k_is)
    (case k_l_source => k_is)
    (case a_l_draw => k_is)
    (case l_l_draw => k_is)
    (case c_l_draw => k_is)
    (case k_l_draw => k_is)
    (case a_l_is_integer => k_is)
    (case l_l_is_integer => k_is)
    (case c_l_is_integer => k_is)
    (case k_l_is_integer => k_is)
    (case a_l_is_numbers => k_is)
    (case l_l_is_numbers => k_is)
    (case c_l_is_numbers => k_is)
    (case k_l_is_numbers => k_is)
    (case a_l_combos => k_is)
    (case l_l_combos => k_is)
    (case c_l_combos => k_is)
    (case k_l_combos => k_is)
    (case a_l_draw_sides => k_is)
    (case l_l_draw_sides => k_is)
    (case c_l_draw_sides => k_is)
    (case k_l_draw_sides => k_is)
    (case a_l_clean => k_is)
    (case l_l_clean => k_is)
    (case c_l_clean => k_is)
    (case k_l_clean => k_is)
    (case a_l_is_sides => k_is)
    (case l_l_is_sides => k_is)
    (case c_l_is_sides => k_is)
    (case k_l_is_sides => k_is)
    (case a_l_is_rows => k_is)
    (case l_l_is_rows => k_is)
    (case c_l_is_rows => k_is)
    (case k_l_is_rows => k_is)
    (case a_law => k_is)
    (case l_law => k_is)
    (case c_law => k_is)
    (case k_law => k_is)
    (case a_Box => k_is)
    (case a_Box_init => k_is)
    (case i_Box_init => k_is)
    (case l_Box_init => k_is)
    (case c_Box_init => k_is)
    (case k_Box_init => k_is)
    (case a_Box_iter => k_is)
    (case i_Box_iter => k_is)
    (case l_Box_iter => k_is)
    (case c_Box_iter => k_is)
    (case k_Box_iter => k_is)
    (case a_Box_with_side => k_is)
    (case i_Box_with_side => k_is)
    (case l_Box_with_side => k_is)
    (case c_Box_with_side => k_is)
    (case k_Box_with_side => k_is)
    (case pg_Box => k_is)
    (case hd_Box => k_is)
    (case po_Box => k_is)
    (case sa_Box => k_is)
    (case mk_Box => k_is)
    (case kc_Box => k_is)
    (case n_Box_sides => k_is)
    (case n_Box_members => k_is)
    (case ca_Box => k_is)
    (case sp_Box => k_is)
    (case tk_Box => k_is)
    (case mr_Box => k_is)
    (case nl_Box => k_is)
    (case nh_Box => k_is)
    (case z_len => k_is)
    (case z_range => k_is)
    (case z_max => k_is)
    (case z_min => k_is)
    (case z_int => k_is)
    (case z_list => k_is)
    (case z_tuple => k_is)
    (case z_sorted => k_is)
    (case z_all => k_is)
    (case z_any => k_is)
    (case z_isinstance => k_is)
    (case z_bool => k_is)
    (case z_zip => k_is)
    (case z_enumerate => k_is)
    (case z_set => k_is)
    (case z_sum => k_is)
    (case z_iter => k_is)
