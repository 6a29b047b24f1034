import PyProof.Rows.All
import Wide.All
import OpenK.AllK
import Wide.FinOn
import HandS.ForMost
import HandS.Wide
import HandS.EndBits
import HandS.Conv
import HandS.Style
import HandS.Zip
import HandS.IsInst
import KE.DatumOrd
import HandS.GenList
import PyProof.Rows.RegStrFacts
import PySem.Challenge.RW_peakpeel_k07_relations_of_short_rows
set_option Elab.async false
set_option linter.all false
set_option maxRecDepth 100000
set_option maxHeartbeats 20000000
/-! PXa: readings by typed data: states, expressions. -/
namespace PX
open PySem L2

/-! ### heaps -/
def Ex (H H' : Hp) : Prop := ∀ a o, H a = some o → H' a = some o
theorem Ex.refl (H : Hp) : Ex H H := fun _ _ h => h
theorem Ex.trans {H H1 H2 : Hp} (a : Ex H H1) (b : Ex H1 H2) : Ex H H2 := fun x o h => b x o (a x o h)
theorem Ex.new {H : Hp} {p : Addr} {o : HO} (h : H p = none) : Ex H (upd H p o) := fun a u e => by
  rw [upd_ne (ne_of_none e h)]
  exact e
theorem Ex.upd_sub {G H : Hp} {p : Addr} {o : HO} (e : Ex G H) (h : H p = some o) : Ex (upd G p o) H := fun a u q => by
  by_cases c : a = p
  · subst c
    rw [upd_same] at q
    cases q
    exact h
  · rw [upd_ne c] at q
    exact e a u q
theorem none_back {H H' : Hp} {p : Addr} (e : Ex H H') (h : H' p = none) : H p = none := by
  cases h1 : H p with
  | none => rfl
  | some o =>
    rw [e p o h1] at h
    cases h

def Nt (u : HO) : Prop := ∀ xs, u ≠ .tup xs
/-- a step from (H, G) to (H', G'): G what stands for good, H all that is tracked; only m may change -/
structure Rc (m : List Addr) (H G H' G' : Hp) : Prop where
  ex : Ex G G'
  sub : Ex G' H'
  keep : ∀ b u, b ∉ m → H b = some u → H' b = some u
  dom : ∀ b u, H b = some u → ∃ u', H' b = some u'
  fr : ∀ b u, H b = some u → Nt u → G b = none → G' b = none
  tp : ∀ b u, H b = some u → Nt u → ∀ u', H' b = some u' → Nt u'
theorem Rc.refl {m : List Addr} {H G : Hp} (h : Ex G H) : Rc m H G H G := ⟨Ex.refl G, h, fun _ _ _ e => e, fun _ u e => ⟨u, e⟩, fun _ _ _ _ e => e, fun _ u e n u' e' => by rw [e] at e'; cases e'; exact n⟩
theorem Rc.trans {m : List Addr} {H G H1 G1 H2 G2 : Hp} (a : Rc m H G H1 G1) (b : Rc m H1 G1 H2 G2) : Rc m H G H2 G2 where
  ex := a.ex.trans b.ex
  sub := b.sub
  keep := fun x u n e => b.keep x u n (a.keep x u n e)
  dom := fun x u e => by
    obtain ⟨u1, e1⟩ := a.dom x u e
    exact b.dom x u1 e1
  fr := fun x u e t n => by
    obtain ⟨u1, e1⟩ := a.dom x u e
    exact b.fr x u1 e1 (a.tp x u e t u1 e1) (a.fr x u e t n)
  tp := fun x u e t u' e' => by
    obtain ⟨u1, e1⟩ := a.dom x u e
    exact b.tp x u1 e1 (a.tp x u e t u1 e1) u' e'
theorem Rc.mono {m m' : List Addr} {H G H1 G1 : Hp} (a : Rc m H G H1 G1) (h : ∀ b, b ∈ m → b ∈ m') : Rc m' H G H1 G1 :=
  ⟨a.ex, a.sub, fun b u n e => a.keep b u (fun z => n (h b z)) e, a.dom, a.fr, a.tp⟩
theorem Rc.any {m : List Addr} {H G H1 G1 : Hp} (a : Rc [] H G H1 G1) : Rc m H G H1 G1 := a.mono fun _ h => nomatch h
/-- a step without changes behind one with changes -/
theorem Rc.then {m : List Addr} {H G H1 G1 H2 G2 : Hp} (a : Rc m H G H1 G1) (b : Rc [] H1 G1 H2 G2) : Rc m H G H2 G2 := a.trans b.any
theorem Rc.exH {H G H1 G1 : Hp} (a : Rc [] H G H1 G1) : Ex H H1 := fun b u e => a.keep b u (fun z => nomatch z) e
theorem Rc.new {m : List Addr} {H G : Hp} {p : Addr} {o : HO} (h : Ex G H) (n : H p = none) : Rc m H G (upd H p o) G :=
  ⟨Ex.refl G, h.trans (Ex.new n), fun b u _ e => Ex.new n b u e, fun b u e => ⟨u, Ex.new n b u e⟩, fun _ _ _ _ e => e, fun b u e t u' e' => by rw [Ex.new n b u e] at e'; cases e'; exact t⟩
/-- a new thing that stands for good -/
theorem Rc.newG {m : List Addr} {H G : Hp} {p : Addr} {o : HO} (h : Ex G H) (n : H p = none) : Rc m H G (upd H p o) (upd G p o) where
  ex := Ex.new (none_back h n)
  sub := fun a u q => by
    by_cases c : a = p
    · subst c
      rw [upd_same] at q ⊢
      exact q
    · rw [upd_ne c] at q ⊢
      exact h a u q
  keep := fun b u _ e => Ex.new n b u e
  dom := fun b u e => ⟨u, Ex.new n b u e⟩
  fr := fun b u e _ g => by
    rw [upd_ne (ne_of_none e n)]
    exact g
  tp := fun b u e t u' e' => by
    rw [Ex.new n b u e] at e'
    cases e'
    exact t
/-- what is ours, and new since (H, G), may be made to stand for good -/
theorem Rc.freeze {m : List Addr} {H G H1 G1 : Hp} {p : Addr} {o : HO} (a : Rc m H G H1 G1) (n : H p = none) (g : G1 p = none) (h : H1 p = some o) : Rc m H G H1 (upd G1 p o) :=
  ⟨a.ex.trans (Ex.new g), a.sub.upd_sub h, a.keep, a.dom, fun b u e t q => by
    rw [upd_ne (ne_of_none e n)]
    exact a.fr b u e t q, a.tp⟩
/-- a tuple that is tracked may stand for good -/
theorem Rc.adopt {m : List Addr} {H G H1 G1 : Hp} {p : Addr} {xs : List V} (a : Rc m H G H1 G1) (h : H1 p = some (.tup xs)) : Rc m H G H1 (upd G1 p (.tup xs)) :=
  ⟨fun b u e => by
    by_cases c : b = p
    · subst c
      have := a.sub _ _ (a.ex _ _ e)
      rw [h] at this
      rw [upd_same]
      exact this
    · rw [upd_ne c]
      exact a.ex b u e, a.sub.upd_sub h, a.keep, a.dom, fun b u e t q => by
    by_cases c : b = p
    · subst c
      exact absurd rfl (a.tp _ _ e t _ h xs)
    · rw [upd_ne c]
      exact a.fr b u e t q, a.tp⟩
/-- a write at p, which is new since (H, G), or in m -/
theorem Rc.write {m : List Addr} {H G H1 G1 : Hp} {p : Addr} {o : HO} (a : Rc m H G H1 G1) (n : H p = none ∨ p ∈ m) (g : G1 p = none) (ht : Nt o := by intro _ z; cases z) : Rc m H G (upd H1 p o) G1 where
  ex := a.ex
  sub := fun b u e => by
    rw [upd_ne (ne_of_none e g)]
    exact a.sub b u e
  keep := fun b u nb e => by
    have hb : b ≠ p := fun z => by
      subst z
      rcases n with n | n
      · rw [n] at e
        cases e
      · exact nb n
    rw [upd_ne hb]
    exact a.keep b u nb e
  dom := fun b u e => by
    by_cases c : b = p
    · subst c
      exact ⟨o, upd_same⟩
    · obtain ⟨u', e'⟩ := a.dom b u e
      exact ⟨u', by rw [upd_ne c]; exact e'⟩
  fr := a.fr
  tp := fun b u e t u' e' => by
    by_cases c : b = p
    · subst c
      rw [upd_same] at e'
      cases e'
      exact ht
    · rw [upd_ne c] at e'
      exact a.tp b u e t u' e'

/-! ### typed data -/
class Rep (α : Type) where
  rel : PySem.W.Frag → Hp → V → α → Prop
  mono : ∀ {K : PySem.W.Frag} {G G' : Hp} {v : V} {x : α}, Ex G G' → rel K G v x → rel K G' v x
/-- data without addresses -/
class Scal (α : Type) extends Rep α where
  enc : α → V
  is : ∀ {K : PySem.W.Frag} {G : Hp} {v : V} {x : α}, rel K G v x ↔ v = enc x
instance : Scal Int where
  rel := fun _ _ v x => v = .int x
  mono := fun _ h => h
  enc := .int
  is := Iff.rfl
instance : Scal Bool where
  rel := fun _ _ v x => v = .bl x
  mono := fun _ h => h
  enc := .bl
  is := Iff.rfl
instance : Scal Str where
  rel := fun _ _ v x => v = .str x
  mono := fun _ h => h
  enc := .str
  is := Iff.rfl
instance : Scal Unit where
  rel := fun _ _ v _ => v = .non
  mono := fun _ h => h
  enc := fun _ => .non
  is := Iff.rfl
theorem scal_any {α : Type} [Scal α] {K : PySem.W.Frag} {G G' : Hp} {v : V} {x : α} (h : Rep.rel K G v x) : Rep.rel K G' v x := Scal.is.mpr (Scal.is.mp h)
theorem Paired.imp {α β : Type} {F F' : α → β → Prop} (h : ∀ a b, F a b → F' a b) : ∀ {l : List α} {r : List β}, Paired F l r → Paired F' l r
  | _, _, .nil => .nil
  | _, _, .cons a b => .cons (h _ _ a) (Paired.imp h b)
theorem Paired.len {α β : Type} {F : α → β → Prop} : ∀ {l : List α} {r : List β}, Paired F l r → l.length = r.length
  | _, _, .nil => rfl
  | _, _, .cons _ b => by rw [List.length_cons, List.length_cons, Paired.len b]
theorem Paired.get {α β : Type} {F : α → β → Prop} : ∀ {l : List α} {r : List β} {i : Nat} {y : β}, Paired F l r → r[i]? = some y → ∃ x, l[i]? = some x ∧ F x y
  | _, _, _, _, .nil, e => by simp at e
  | _, _, 0, _, .cons a _, e => by
    simp at e
    subst e
    exact ⟨_, rfl, a⟩
  | _, _, i + 1, y, .cons _ b, e => by
    obtain ⟨x, h1, h2⟩ := Paired.get (i := i) (y := y) b (by simpa using e)
    exact ⟨x, by simpa using h1, h2⟩
theorem Paired.getL {α β : Type} {F : α → β → Prop} : ∀ {l : List α} {r : List β} {i : Nat} {x : α}, Paired F l r → l[i]? = some x → ∃ y, r[i]? = some y ∧ F x y
  | _, _, _, _, .nil, e => by simp at e
  | _, _, 0, _, .cons a _, e => by
    simp at e
    subst e
    exact ⟨_, rfl, a⟩
  | _, _, i + 1, x, .cons _ b, e => by
    obtain ⟨y, h1, h2⟩ := Paired.getL (i := i) (x := x) b (by simpa using e)
    exact ⟨y, by simpa using h1, h2⟩
theorem Paired.append {α β : Type} {F : α → β → Prop} : ∀ {l l' : List α} {r r' : List β}, Paired F l r → Paired F l' r' → Paired F (l ++ l') (r ++ r')
  | _, _, _, _, .nil, s => s
  | _, _, _, _, .cons a b, s => .cons a (Paired.append b s)
theorem Paired.take {α β : Type} {F : α → β → Prop} : ∀ {l : List α} {r : List β} (n : Nat), Paired F l r → Paired F (l.take n) (r.take n)
  | _, _, 0, _ => by rw [List.take_zero, List.take_zero]; exact .nil
  | _, _, _ + 1, .nil => .nil
  | _, _, n + 1, .cons a b => .cons a (Paired.take n b)
theorem Paired.drop {α β : Type} {F : α → β → Prop} : ∀ {l : List α} {r : List β} (n : Nat), Paired F l r → Paired F (l.drop n) (r.drop n)
  | _, _, 0, h => h
  | _, _, _ + 1, .nil => .nil
  | _, _, n + 1, .cons _ b => Paired.drop n b
theorem Paired.reverse {α β : Type} {F : α → β → Prop} : ∀ {l : List α} {r : List β}, Paired F l r → Paired F l.reverse r.reverse
  | _, _, .nil => .nil
  | _, _, .cons a b => by
    rw [List.reverse_cons, List.reverse_cons]
    exact Paired.append (Paired.reverse b) (.cons a .nil)
theorem Paired.set {α β : Type} {F : α → β → Prop} {x : α} {y : β} (h : F x y) : ∀ {l : List α} {r : List β} (i : Nat), Paired F l r → Paired F (l.set i x) (r.set i y)
  | _, _, _, .nil => .nil
  | _, _, 0, .cons _ b => .cons h b
  | _, _, i + 1, .cons a b => .cons a (Paired.set h i b)
abbrev Rels {α : Type} [Rep α] (K : PySem.W.Frag) (G : Hp) : List V → List α → Prop := Paired (Rep.rel K G)
theorem Rels.mono {α : Type} [Rep α] {K : PySem.W.Frag} {G G' : Hp} {vs : List V} {xs : List α} (e : Ex G G') (h : Rels K G vs xs) : Rels K G' vs xs := Paired.imp (fun _ _ q => Rep.mono e q) h
instance {α : Type} [Rep α] : Rep (List α) where
  rel := fun K G v xs => ∃ a vs, v = .ref a ∧ G a = some (.lst vs) ∧ Rels K G vs xs
  mono := fun e ⟨a, vs, h1, h2, h3⟩ => ⟨a, vs, h1, e a _ h2, Rels.mono e h3⟩
instance {α β : Type} [Rep α] [Rep β] : Rep (α × β) where
  rel := fun K G v x => ∃ a u w, v = .ref a ∧ G a = some (.tup [u, w]) ∧ Rep.rel K G u x.1 ∧ Rep.rel K G w x.2
  mono := fun e ⟨a, u, w, h1, h2, h3, h4⟩ => ⟨a, u, w, h1, e a _ h2, Rep.mono e h3, Rep.mono e h4⟩
/-- the law's script: it may stand locked -/
structure Scr where
  l : List Int
instance : Rep Scr where
  rel := fun K G v x => ∃ a, v = .ref a ∧ SqL K G a (x.l.map .int)
  mono := fun e ⟨a, h1, h2⟩ => ⟨a, h1, by
    rcases h2 with (h2 | ⟨o, h2⟩) | h2
    · exact .inl (.inl (e _ _ h2))
    · exact .inl (.inr ⟨o, e _ _ h2⟩)
    · exact .inr h2⟩
theorem rels_int {K : PySem.W.Frag} {G : Hp} : ∀ {vs : List V} {xs : List Int}, Rels K G vs xs → vs = xs.map .int
  | _, _, .nil => rfl
  | _, _, .cons h t => by
    rw [List.map_cons, rels_int t, show _ = V.int _ from h]
theorem rels_of_int {K : PySem.W.Frag} {G : Hp} : ∀ (xs : List Int), Rels K G (xs.map .int) xs
  | [] => .nil
  | _ :: t => .cons rfl (rels_of_int t)
theorem rels_bl {K : PySem.W.Frag} {G : Hp} : ∀ {vs : List V} {xs : List Bool}, Rels K G vs xs → vs = xs.map .bl
  | _, _, .nil => rfl
  | _, _, .cons h t => by
    rw [List.map_cons, rels_bl t, show _ = V.bl _ from h]

/-- a list at p that is ours -/
def Own {α : Type} [Rep α] (K : PySem.W.Frag) (H G : Hp) (p : Addr) (xs : List α) : Prop := ∃ vs, H p = some (.lst vs) ∧ G p = none ∧ Rels K G vs xs
theorem Own.step {α : Type} [Rep α] {K : PySem.W.Frag} {m : List Addr} {H G H1 G1 : Hp} {p : Addr} {xs : List α} (h : Own K H G p xs) (s : Rc m H G H1 G1) (n : p ∉ m) : Own K H1 G1 p xs := by
  obtain ⟨vs, h1, h2, h3⟩ := h
  exact ⟨vs, s.keep p _ n h1, s.fr p _ h1 (fun _ z => by cases z) h2, Rels.mono s.ex h3⟩
theorem Own.step0 {α : Type} [Rep α] {K : PySem.W.Frag} {H G H1 G1 : Hp} {p : Addr} {xs : List α} (h : Own K H G p xs) (s : Rc [] H G H1 G1) : Own K H1 G1 p xs := h.step s fun z => nomatch z
theorem Own.ne {α : Type} [Rep α] {K : PySem.W.Frag} {H G : Hp} {p q : Addr} {xs : List α} (h : Own K H G p xs) (n : H q = none) : p ≠ q := by
  obtain ⟨vs, h1, _⟩ := h
  exact ne_of_none h1 n

/-! ### what runs, told by what is wanted behind -/
section
variable {X : Cx} {σ : L2.St} {H : Hp}
def wpE (X : Cx) (e : Expr) : TE := fun σ H Q => ∀ (pins : List (Addr × Obj)) (s : Shared), Inv X pins σ H s → wpAny (model X.prog X.w) X.A (eval e X.env) (EP X pins σ Q) X.xe s
def wpT (X : Cx) (e : Expr) : TT := fun σ H Q => ∀ (pins : List (Addr × Obj)) (s : Shared), Inv X pins σ H s → wpAny (model X.prog X.w) X.A (isTrue e X.env (eval e X.env)) (TP X pins σ Q) X.xe s
def wpW (X : Cx) (e : Expr) : TT := fun σ H Q => ∀ (whole : Sem Value) (pins : List (Addr × Obj)) (s : Shared), Inv X pins σ H s → wpAny (model X.prog X.w) X.A (isTrue e X.env whole) (TP X pins σ Q) X.xe s
def wpA (X : Cx) (es : List Expr) : TA := fun σ H Q => ∀ (pos : Pos) (pins : List (Addr × Obj)) (s : Shared), Inv X pins σ H s → wpAny (model X.prog X.w) X.A (spliced (backTo pos (starEach es X.env))) (AP X pins σ Q) X.xe s
def wpS (X : Cx) (st : Stmt) : TS := fun D σ H => ∀ (pins : List (Addr × Obj)) (s : Shared), Inv X pins σ H s → wpAny (model X.prog X.w) X.A (exec st X.env) (SP X pins D) X.xe s
def wpB (X : Cx) (st : List Stmt) : TS := fun D σ H => ∀ (pins : List (Addr × Obj)) (s : Shared), Inv X pins σ H s → wpAny (model X.prog X.w) X.A (execs st X.env) (SP X pins D) X.xe s
theorem pe_wp {e : Expr} : PE X e (wpE X e) := ⟨fun pins s _ _ _ I h => h pins s I⟩
theorem pt_wp {e : Expr} : PT X e (wpT X e) := ⟨fun pins s _ _ _ I h => h pins s I⟩
theorem pw_wp {e : Expr} : PW X e (wpW X e) := ⟨fun w pins s _ _ _ I h => h w pins s I⟩
theorem pa_wp {es : List Expr} : PA X es (wpA X es) := ⟨fun pos pins s _ _ _ I h => h pos pins s I⟩
theorem ps_wp {st : Stmt} : PS X st (wpS X st) := ⟨fun pins s _ _ _ I h => h pins s I⟩
theorem pss_wp {st : List Stmt} : PSs X st (wpB X st) := ⟨fun pins s _ _ _ I h => h pins s I⟩
theorem toE {e : Expr} {t : TE} {Q : VK} (h : PE X e t) (q : t σ H Q) : wpE X e σ H Q := fun pins s I => h.run pins s σ H Q I q
theorem toT {e : Expr} {t : TT} {Q : Bool → Hp → Prop} (h : PT X e t) (q : t σ H Q) : wpT X e σ H Q := fun pins s I => h.run pins s σ H Q I q
theorem toW {e : Expr} {t : TT} {Q : Bool → Hp → Prop} (h : PW X e t) (q : t σ H Q) : wpW X e σ H Q := fun w pins s I => h.run w pins s σ H Q I q
theorem toA {es : List Expr} {t : TA} {Q : List V → Hp → Prop} (h : PA X es t) (q : t σ H Q) : wpA X es σ H Q := fun pos pins s I => h.run pos pins s σ H Q I q
theorem toS {st : Stmt} {t : TS} {D : Ends} (h : PS X st t) (q : t D σ H) : wpS X st D σ H := fun pins s I => h.run pins s σ H D I q
theorem toB {st : List Stmt} {t : TS} {D : Ends} (h : PSs X st t) (q : t D σ H) : wpB X st D σ H := fun pins s I => h.run pins s σ H D I q
theorem wpE_mono {e : Expr} {Q Q' : VK} (k : ∀ v H, Q v H → Q' v H) (h : wpE X e σ H Q) : wpE X e σ H Q' := fun pins s I => thn (h pins s I) fun _ _ ⟨v, H', I', r, q⟩ => ⟨v, H', I', r, k v H' q⟩
theorem wpT_mono {e : Expr} {Q Q' : Bool → Hp → Prop} (k : ∀ v H, Q v H → Q' v H) (h : wpT X e σ H Q) : wpT X e σ H Q' := fun pins s I => thn (h pins s I) fun b _ ⟨H', I', q⟩ => ⟨H', I', k b H' q⟩
/-- every list that is tracked has a length that Python allows -/
theorem wpE_len {e : Expr} {Q : VK} (h : (∀ a vs, H a = some (.lst vs) → vs.length ≤ sizeLine) → wpE X e σ H Q) : wpE X e σ H Q := fun pins s I => h (fun a vs e => (I.hok a _ e).1) pins s I
theorem wpS_len {st : Stmt} {D : Ends} (h : (∀ a vs, H a = some (.lst vs) → vs.length ≤ sizeLine) → wpS X st D σ H) : wpS X st D σ H := fun pins s I => h (fun a vs e => (I.hok a _ e).1) pins s I

/-! ### what an expression gives -/
variable {G : Hp}
/-- a value; nothing changes -/
def EvX {α : Type} [Rep α] (X : Cx) (e : Expr) (σ : L2.St) (H G : Hp) (x : α) : Prop := ∀ H1 G1, Rc [] H G H1 G1 → ∀ Q : VK, (∀ v H2 G2, Rc [] H1 G1 H2 G2 → Rep.rel X.K G2 v x → Q v H2) → wpE X e σ H1 Q
/-- a new list -/
def EvN {α : Type} [Rep α] (X : Cx) (e : Expr) (σ : L2.St) (H G : Hp) (xs : List α) : Prop := ∀ H1 G1, Rc [] H G H1 G1 → ∀ Q : VK, (∀ p H2 G2, Rc [] H1 G1 H2 G2 → H1 p = none → Own X.K H2 G2 p xs → Q (.ref p) H2) → wpE X e σ H1 Q
/-- a test -/
def EvT (X : Cx) (e : Expr) (σ : L2.St) (H G : Hp) (b : Bool) : Prop := ∀ H1 G1, Rc [] H G H1 G1 → ∀ Q : Bool → Hp → Prop, (∀ H2 G2, Rc [] H1 G1 H2 G2 → Q b H2) → wpT X e σ H1 Q
def EvW (X : Cx) (e : Expr) (σ : L2.St) (H G : Hp) (b : Bool) : Prop := ∀ H1 G1, Rc [] H G H1 G1 → ∀ Q : Bool → Hp → Prop, (∀ H2 G2, Rc [] H1 G1 H2 G2 → Q b H2) → wpW X e σ H1 Q
/-- arguments -/
class ArgsR (τ : Type) where
  n : Nat
  rel : PySem.W.Frag → Hp → List V → τ → Prop
  mono : ∀ {K : PySem.W.Frag} {G G' : Hp} {vs : List V} {x : τ}, Ex G G' → rel K G vs x → rel K G' vs x
  len : ∀ {K : PySem.W.Frag} {G : Hp} {vs : List V} {x : τ}, rel K G vs x → vs.length = n
instance : ArgsR Unit where
  n := 0
  len := fun h => by rw [show _ = [] from h]; rfl
  rel := fun _ _ vs _ => vs = []
  mono := fun _ h => h
instance {α τ : Type} [Rep α] [ArgsR τ] : ArgsR (α × τ) where
  n := ArgsR.n τ + 1
  len := fun ⟨_, _, h1, _, h3⟩ => by rw [h1, List.length_cons, ArgsR.len h3]
  rel := fun K G vs x => ∃ v r, vs = v :: r ∧ Rep.rel K G v x.1 ∧ ArgsR.rel K G r x.2
  mono := fun e ⟨v, r, h1, h2, h3⟩ => ⟨v, r, h1, Rep.mono e h2, ArgsR.mono e h3⟩
def EvA {τ : Type} [ArgsR τ] (X : Cx) (es : List Expr) (σ : L2.St) (H G : Hp) (x : τ) : Prop := ∀ H1 G1, Rc [] H G H1 G1 → ∀ Q : List V → Hp → Prop, (∀ vs H2 G2, Rc [] H1 G1 H2 G2 → ArgsR.rel X.K G2 vs x → Q vs H2) → wpA X es σ H1 Q
section
variable {α β : Type} [Rep α] [Rep β] {a b c e : Expr} {pos : Pos} {x : α} {y : β}
theorem EvX.go {Q : VK} (h : EvX X e σ H G x) (g : Ex G H) (k : ∀ v H2 G2, Rc [] H G H2 G2 → Rep.rel X.K G2 v x → Q v H2) : wpE X e σ H Q := h H G (Rc.refl g) Q k
theorem EvN.go {xs : List α} {Q : VK} (h : EvN X e σ H G xs) (g : Ex G H) (k : ∀ p H2 G2, Rc [] H G H2 G2 → H p = none → Own X.K H2 G2 p xs → Q (.ref p) H2) : wpE X e σ H Q := h H G (Rc.refl g) Q k
theorem EvT.go {t : Bool} {Q : Bool → Hp → Prop} (h : EvT X e σ H G t) (g : Ex G H) (k : ∀ H2 G2, Rc [] H G H2 G2 → Q t H2) : wpT X e σ H Q := h H G (Rc.refl g) Q k
theorem EvX.mono {H1 G1 : Hp} (h : EvX X e σ H G x) (s : Rc [] H G H1 G1) : EvX X e σ H1 G1 x := fun H2 G2 r => h H2 G2 (s.trans r)
theorem EvN.mono {xs : List α} {H1 G1 : Hp} (h : EvN X e σ H G xs) (s : Rc [] H G H1 G1) : EvN X e σ H1 G1 xs := fun H2 G2 r => h H2 G2 (s.trans r)
theorem EvT.mono {t : Bool} {H1 G1 : Hp} (h : EvT X e σ H G t) (s : Rc [] H G H1 G1) : EvT X e σ H1 G1 t := fun H2 G2 r => h H2 G2 (s.trans r)
/-- a new list, taken as a value -/
theorem EvN.val {xs : List α} (h : EvN X e σ H G xs) : EvX X e σ H G xs := fun H1 G1 s Q k => h H1 G1 s Q fun p H2 G2 r np ⟨vs, h1, h2, h3⟩ =>
  k (.ref p) H2 (upd G2 p (.lst vs)) (r.freeze np h2 h1) ⟨p, vs, rfl, upd_same, Rels.mono (Ex.new h2) h3⟩
theorem EvX.is {x' : α} (h : EvX X e σ H G x) (q : x = x') : EvX X e σ H G x' := q ▸ h
theorem EvN.is {xs xs' : List α} (h : EvN X e σ H G xs) (q : xs = xs') : EvN X e σ H G xs' := q ▸ h
theorem EvT.is {t t' : Bool} (h : EvT X e σ H G t) (q : t = t') : EvT X e σ H G t' := q ▸ h
/-- a list of ours is read (as one that stands), and what comes out has no address -/
theorem EvX.lend {γ : Type} [Scal γ] {z : γ} {p : Addr} {vs : List V} (h1 : H p = some (.lst vs)) (h2 : G p = none) (h : EvX X e σ H (upd G p (.lst vs)) z) : EvX X e σ H G z := fun H1 G1 s Q k => by
  have h3 : H1 p = some (.lst vs) := s.exH p _ h1
  have h4 : G1 p = none := s.fr p _ h1 (fun _ z => by cases z) h2
  have s' : Rc [] H (upd G p (.lst vs)) H1 (upd G1 p (.lst vs)) := ⟨fun b u q => by
      by_cases c : b = p
      · subst c
        rw [upd_same] at q ⊢
        exact q
      · rw [upd_ne c] at q ⊢
        exact s.ex b u q, s.sub.upd_sub h3, s.keep, s.dom, fun b u q t n => by
      by_cases c : b = p
      · subst c
        rw [upd_same] at n
        cases n
      · rw [upd_ne c] at n ⊢
        exact s.fr b u q t n, s.tp⟩
  refine h H1 _ s' Q fun v H2 G2 r q => k v H2 G1 ⟨Ex.refl G1, s.sub.trans r.exH, r.keep, r.dom, fun _ _ _ _ n => n, r.tp⟩ (scal_any q)
theorem EvT.lend {t : Bool} {p : Addr} {vs : List V} (h1 : H p = some (.lst vs)) (h2 : G p = none) (h : EvT X e σ H (upd G p (.lst vs)) t) : EvT X e σ H G t := fun H1 G1 s Q k => by
  have h3 : H1 p = some (.lst vs) := s.exH p _ h1
  have h4 : G1 p = none := s.fr p _ h1 (fun _ z => by cases z) h2
  have s' : Rc [] H (upd G p (.lst vs)) H1 (upd G1 p (.lst vs)) := ⟨fun b u q => by
      by_cases c : b = p
      · subst c
        rw [upd_same] at q ⊢
        exact q
      · rw [upd_ne c] at q ⊢
        exact s.ex b u q, s.sub.upd_sub h3, s.keep, s.dom, fun b u q t n => by
      by_cases c : b = p
      · subst c
        rw [upd_same] at n
        cases n
      · rw [upd_ne c] at n ⊢
        exact s.fr b u q t n, s.tp⟩
  refine h H1 _ s' Q fun H2 G2 r => k H2 G1 ⟨Ex.refl G1, s.sub.trans r.exH, r.keep, r.dom, fun _ _ _ _ n => n, r.tp⟩
/-- .. and what comes out is a new list of such -/
theorem EvN.lend {γ : Type} [Scal γ] {zs : List γ} {p : Addr} {vs : List V} (h1 : H p = some (.lst vs)) (h2 : G p = none) (h : EvN X e σ H (upd G p (.lst vs)) zs) : EvN X e σ H G zs := fun H1 G1 s Q k => by
  have h3 : H1 p = some (.lst vs) := s.exH p _ h1
  have h4 : G1 p = none := s.fr p _ h1 (fun _ z => by cases z) h2
  have s' : Rc [] H (upd G p (.lst vs)) H1 (upd G1 p (.lst vs)) := ⟨fun b u q => by
      by_cases c : b = p
      · subst c
        rw [upd_same] at q ⊢
        exact q
      · rw [upd_ne c] at q ⊢
        exact s.ex b u q, s.sub.upd_sub h3, s.keep, s.dom, fun b u q t n => by
      by_cases c : b = p
      · subst c
        rw [upd_same] at n
        cases n
      · rw [upd_ne c] at n ⊢
        exact s.fr b u q t n, s.tp⟩
  refine h H1 _ s' Q fun q H2 G2 r nq ⟨ws, w1, w2, w3⟩ => k q H2 G1 ⟨Ex.refl G1, s.sub.trans r.exH, r.keep, r.dom, fun _ _ _ _ n => n, r.tp⟩ nq ⟨ws, w1, none_back s.sub nq, Paired.imp (fun _ _ z => scal_any z) w3⟩
/-- a list of ours as it stands in the lent heap -/
theorem lent {xs : List α} {p : Addr} {vs : List V} (h2 : G p = none) (h3 : Rels X.K G vs xs) : Rep.rel X.K (upd G p (.lst vs)) (.ref p) xs := ⟨p, vs, rfl, upd_same, Rels.mono (Ex.new h2) h3⟩
end
end
end PX

/-! PXb: expressions. -/
namespace PX
open PySem L2

/-! ### partial operations of the mirror -/
def mulO (i j : Int) : Option Int := if i.natAbs.log2 + j.natAbs.log2 < 1000000 then some (i * j) else none
def fdivO (i j : Int) : Option Int := if 0 < j ∧ j.natAbs.log2 < 9000 then some (i / j) else none
def modO (i j : Int) : Option Int := if 0 < j then some (i % j) else none
def powO (i j : Int) : Option Int := if 0 ≤ j ∧ (Builtin.Int.intBits i : Int) * j ≤ 2 ^ 27 then some (i ^ j.toNat) else none
def ix {α : Type} (xs : List α) (i : Int) : Option α := atI xs i
def cut {α : Type} (xs : List α) (lo hi : Option Int) : List α := (xs.drop (HT.sIx xs.length 0 lo)).take (HT.sIx xs.length xs.length hi - HT.sIx xs.length 0 lo)
def guardO (b : Bool) : Option Unit := if b then some () else none
def line : Nat := 16000000
def catO {α : Type} (xs ys : List α) : Option (List α) := if xs.length + ys.length ≤ line then some (xs ++ ys) else none
def repO {α : Type} (xs : List α) (k : Int) : Option (List α) := if -(2 ^ 63) ≤ k ∧ k < 2 ^ 63 ∧ xs.length * k.toNat ≤ line then some (List.replicate k.toNat xs).flatten else none
def rng (a b : Int) : List Int := (List.range (b - a).toNat).map fun i => a + (i : Nat)
def rngO (a b : Int) : Option (List Int) := if -(line : Int) ≤ a ∧ a ≤ line ∧ -(line : Int) ≤ b ∧ b ≤ line ∧ (b - a).toNat ≤ line then some (rng a b) else none
def setO {α : Type} (xs : List α) (i : Int) (x : α) : Option (List α) := (ixN xs.length i).map fun j => xs.set j x
def appO {α : Type} (xs : List α) (x : α) : Option (List α) := if xs.length < line then some (xs ++ [x]) else none
def extO {α : Type} (xs ys : List α) : Option (List α) := if xs.length + ys.length ≤ line then some (xs ++ ys) else none
def enumI {α : Type} (xs : List α) : List (Int × α) := xs.zipIdx.map fun p => ((p.2 : Int), p.1)
theorem line_le {n : Nat} (h : n ≤ line) : n ≤ sizeLine := Nat.le_trans h (by decide)
theorem line_lt {n : Nat} (h : n < line) : n < sizeLine := Nat.lt_of_lt_of_le h (by decide)
theorem dite_some {α : Type} {c : Prop} [Decidable c] {x y : α} (h : (if c then some x else none) = some y) : c ∧ x = y := by
  by_cases k : c
  · rw [if_pos k] at h
    exact ⟨k, Option.some.inj h⟩
  · rw [if_neg k] at h
    cases h
theorem cond_some {α : Type} {b : Bool} {x y : Option α} {z : α} (h : cond b x y = some z) : (b = true ∧ x = some z) ∨ (b = false ∧ y = some z) := by
  cases b
  · exact .inr ⟨rfl, h⟩
  · exact .inl ⟨rfl, h⟩
theorem bind_some {α β : Type} {x : Option α} {f : α → Option β} {z : β} (h : x.bind f = some z) : ∃ a, x = some a ∧ f a = some z := by
  cases x with
  | none => cases h
  | some a => exact ⟨a, rfl, h⟩
theorem paired_cut {α : Type} {F : V → α → Prop} {vs : List V} {xs : List α} (h : Paired F vs xs) (lo hi : Option Int) : Paired F (cutV vs lo hi) (cut xs lo hi) := by
  unfold cutV cut
  rw [Paired.len h]
  exact Paired.take _ (Paired.drop _ h)
theorem atI_paired {α : Type} {F : V → α → Prop} {vs : List V} {xs : List α} {i : Int} {x : α} (h : Paired F vs xs) (e : atI xs i = some x) : ∃ v, atI vs i = some v ∧ F v x := by
  unfold atI at e ⊢
  rw [Paired.len h]
  cases q : ixN xs.length i with
  | none => rw [q] at e; cases e
  | some j =>
    rw [q] at e
    exact Paired.get h e
theorem paired_rep {α : Type} {F : V → α → Prop} {vs : List V} {xs : List α} (h : Paired F vs xs) : ∀ n : Nat, Paired F (List.replicate n vs).flatten (List.replicate n xs).flatten
  | 0 => .nil
  | n + 1 => by
    rw [List.replicate_succ, List.replicate_succ, List.flatten_cons, List.flatten_cons]
    exact Paired.append h (paired_rep h n)

section
variable {X : Cx} {σ : L2.St} {H G : Hp} {α β γ : Type} [Rep α] [Rep β] [Rep γ] {a b c e : Expr} {pos : Pos} {x : α} {y : β} {z : γ}
/-! ### names, constants -/
theorem ev_var {i : Nat} {nm : Str} {v : V} (hs : σ[i]? = some (some v)) (hr : Rep.rel X.K G v x) (hN : X.N[i]? = some nm := by rfl) (hv : Vis X.env.scope nm := by first | exact Or.inl rfl | exact Or.inr (Or.inl rfl) | exact Or.inr (Or.inr rfl))
    (hd : (nm == ("__debug__" : Str)) = false := by decide) (hcd : (nm == ("__classdict__" : Str)) = false := by decide) : EvX X (.Name nm pos) σ H G x := fun H1 G1 s Q k =>
  toE (pv i hN hv hd hcd) ⟨v, hs, k v H1 G1 (Rc.refl s.sub) (Rep.mono s.ex hr)⟩
theorem ev_int {i : Int} {j} : EvX X (.Constant (.int i) j pos) σ H G i := fun H1 G1 s Q k => toE pe_int (k _ H1 G1 (Rc.refl s.sub) rfl)
theorem ev_bl {i : Bool} {j} : EvX X (.Constant (.bool i) j pos) σ H G i := fun H1 G1 s Q k => toE pe_bl (k _ H1 G1 (Rc.refl s.sub) rfl)
theorem ev_str {i : Str} {j} : EvX X (.Constant (.str i) j pos) σ H G i := fun H1 G1 s Q k => toE pe_str (k _ H1 G1 (Rc.refl s.sub) rfl)
theorem ev_non {j} : EvX X (.Constant .none j pos) σ H G () := fun H1 G1 s Q k => toE pe_non (k _ H1 G1 (Rc.refl s.sub) rfl)

/-! ### operators -/
/-- an operation on values -/
def Opv (K : PySem.W.Frag) (r : R2) (H G : Hp) (x : α) (y : β) (z : γ) : Prop := ∀ v w H1 G1, Rc [] H G H1 G1 → Rep.rel K G1 v x → Rep.rel K G1 w y → ∀ Q : VK, (∀ u H2 G2, Rc [] H1 G1 H2 G2 → Rep.rel K G2 u z → Q u H2) → r v w H1 Q
def OpvN (K : PySem.W.Frag) (r : R2) (H G : Hp) (x : α) (y : β) (zs : List γ) : Prop := ∀ v w H1 G1, Rc [] H G H1 G1 → Rep.rel K G1 v x → Rep.rel K G1 w y → ∀ Q : VK, (∀ p H2 G2, Rc [] H1 G1 H2 G2 → H1 p = none → Own K H2 G2 p zs → Q (.ref p) H2) → r v w H1 Q
theorem ev_op {op : Operator} {r : R2} (ho : OpR X (binaryOp op) r) (ha : EvX X a σ H G x) (hb : EvX X b σ H G y) (hz : Opv X.K r H G x y z) : EvX X (.BinOp a op b pos) σ H G z := fun H1 G1 s Q k =>
  toE (pe_op ho pe_wp pe_wp) (show tOp r (wpE X a) (wpE X b) σ H1 Q from ha H1 G1 s _ fun v H2 G2 s2 r2 => hb H2 G2 (s.trans s2) _ fun w H3 G3 s3 r3 =>
    hz v w H3 G3 ((s.trans s2).trans s3) (Rep.mono s3.ex r2) r3 Q fun u H4 G4 s4 r4 => k u H4 G4 ((s2.trans s3).trans s4) r4)
theorem ev_opN {op : Operator} {r : R2} {zs : List γ} (ho : OpR X (binaryOp op) r) (ha : EvX X a σ H G x) (hb : EvX X b σ H G y) (hz : OpvN X.K r H G x y zs) : EvN X (.BinOp a op b pos) σ H G zs := fun H1 G1 s Q k =>
  toE (pe_op ho pe_wp pe_wp) (show tOp r (wpE X a) (wpE X b) σ H1 Q from ha H1 G1 s _ fun v H2 G2 s2 r2 => hb H2 G2 (s.trans s2) _ fun w H3 G3 s3 r3 =>
    hz v w H3 G3 ((s.trans s2).trans s3) (Rep.mono s3.ex r2) r3 Q fun p H4 G4 s4 np o4 => k p H4 G4 ((s2.trans s3).trans s4) (none_back s2.exH (none_back s3.exH np)) o4)
theorem ev_cmp {op : CmpOp} {r : R2} (ho : OpR X (compareOp op) r) (hm : behindInMarks op b = false) (ha : EvX X a σ H G x) (hb : EvX X b σ H G y) (hz : Opv X.K r H G x y z) : EvX X (.Compare a [op] [b] pos) σ H G z := fun H1 G1 s Q k =>
  toE (pe_cmpR ho pe_wp pe_wp hm) (show tOp r (wpE X a) (wpE X b) σ H1 Q from ha H1 G1 s _ fun v H2 G2 s2 r2 => hb H2 G2 (s.trans s2) _ fun w H3 G3 s3 r3 =>
    hz v w H3 G3 ((s.trans s2).trans s3) (Rep.mono s3.ex r2) r3 Q fun u H4 G4 s4 r4 => k u H4 G4 ((s2.trans s3).trans s4) r4)
theorem et_cmp {op : CmpOp} {r : R2} {t : Bool} (ho : OpR X (compareOp op) r) (hm : behindInMarks op b = false) (ha : EvX X a σ H G x) (hb : EvX X b σ H G y) (hz : Opv X.K r H G x y t) : EvT X (.Compare a [op] [b] pos) σ H G t := fun H1 G1 s Q k =>
  toT (pt_cmpR ho pe_wp pe_wp hm) (show tTest (tOp r (wpE X a) (wpE X b)) σ H1 Q from ha H1 G1 s _ fun v H2 G2 s2 r2 => hb H2 G2 (s.trans s2) _ fun w H3 G3 s3 r3 =>
    hz v w H3 G3 ((s.trans s2).trans s3) (Rep.mono s3.ex r2) r3 _ fun u H4 G4 s4 r4 => ⟨t, r4, k H4 G4 ((s2.trans s3).trans s4)⟩)
theorem opI0 {g : Int → Int → V} {i j : Int} (hz : ∀ G, Rep.rel X.K G (g i j) z) : Opv X.K (rI0 g) H G i j z := fun v w H1 G1 s hv hw Q k => ⟨i, j, hv, hw, k _ H1 G1 (Rc.refl s.sub) (hz G1)⟩
theorem opIC {C : Int → Int → Prop} {g : Int → Int → V} {i j : Int} (hc : C i j) (hz : ∀ G, Rep.rel X.K G (g i j) z) : Opv X.K (rI C g) H G i j z := fun v w H1 G1 s hv hw Q k => ⟨i, j, hv, hw, hc, k _ H1 G1 (Rc.refl s.sub) (hz G1)⟩
section
variable {i j k : Int}
theorem ev_add (ha : EvX X a σ H G i) (hb : EvX X b σ H G j) : EvX X (.BinOp a .Add b pos) σ H G (i + j) := ev_op op_add ha hb (opI0 fun _ => rfl)
theorem ev_sub (ha : EvX X a σ H G i) (hb : EvX X b σ H G j) : EvX X (.BinOp a .Sub b pos) σ H G (i - j) := ev_op op_sub ha hb (opI0 fun _ => rfl)
theorem ev_mul (h : mulO i j = some k) (ha : EvX X a σ H G i) (hb : EvX X b σ H G j) : EvX X (.BinOp a .Mult b pos) σ H G k := by
  obtain ⟨h1, h2⟩ := dite_some h
  subst h2
  exact ev_op op_mulW ha hb (opIC h1 fun _ => rfl)
theorem ev_fdiv (h : fdivO i j = some k) (ha : EvX X a σ H G i) (hb : EvX X b σ H G j) : EvX X (.BinOp a .FloorDiv b pos) σ H G k := by
  obtain ⟨h1, h2⟩ := dite_some h
  subst h2
  exact ev_op op_fdivW ha hb (opIC h1 fun _ => rfl)
theorem ev_mod (h : modO i j = some k) (ha : EvX X a σ H G i) (hb : EvX X b σ H G j) : EvX X (.BinOp a .Mod b pos) σ H G k := by
  obtain ⟨h1, h2⟩ := dite_some h
  subst h2
  exact ev_op op_mod ha hb (opIC h1 fun _ => rfl)
theorem op_powW : OpR X (binaryOp .Pow) (rI (fun i j => 0 ≤ j ∧ (Builtin.Int.intBits i : Int) * j ≤ 2 ^ 27) fun i j => .int (i ^ j.toNat)) := opI fun _ _ _ _ _ _ _ hc q => PyProof.Rows.pow_int hc.1 hc.2 q
theorem ev_pow (h : powO i j = some k) (ha : EvX X a σ H G i) (hb : EvX X b σ H G j) : EvX X (.BinOp a .Pow b pos) σ H G k := by
  obtain ⟨h1, h2⟩ := dite_some h
  subst h2
  exact ev_op op_powW ha hb (opIC h1 fun _ => rfl)
theorem ev_neg (ha : EvX X a σ H G i) : EvX X (.UnaryOp .USub a pos) σ H G (-i) := fun H1 G1 s Q k =>
  toE (pe_un un_neg pe_wp) (show wpE X a σ H1 _ from ha H1 G1 s _ fun v H2 G2 s2 r2 => ⟨i, r2, k _ H2 G2 s2 rfl⟩)
theorem ev_lt (ha : EvX X a σ H G i) (hb : EvX X b σ H G j) : EvX X (.Compare a [.Lt] [b] pos) σ H G (decide (i < j)) := ev_cmp op_lt (nomark _) ha hb (opI0 fun _ => rfl)
theorem ev_le (ha : EvX X a σ H G i) (hb : EvX X b σ H G j) : EvX X (.Compare a [.LtE] [b] pos) σ H G (decide (i ≤ j)) := ev_cmp op_le (nomark _) ha hb (opI0 fun _ => rfl)
theorem ev_gt (ha : EvX X a σ H G i) (hb : EvX X b σ H G j) : EvX X (.Compare a [.Gt] [b] pos) σ H G (decide (j < i)) := ev_cmp op_gt (nomark _) ha hb (opI0 fun _ => rfl)
theorem ev_ge (ha : EvX X a σ H G i) (hb : EvX X b σ H G j) : EvX X (.Compare a [.GtE] [b] pos) σ H G (decide (j ≤ i)) := ev_cmp op_ge (nomark _) ha hb (opI0 fun _ => rfl)
theorem et_lt (ha : EvX X a σ H G i) (hb : EvX X b σ H G j) : EvT X (.Compare a [.Lt] [b] pos) σ H G (decide (i < j)) := et_cmp op_lt (nomark _) ha hb (opI0 fun _ => rfl)
theorem et_le (ha : EvX X a σ H G i) (hb : EvX X b σ H G j) : EvT X (.Compare a [.LtE] [b] pos) σ H G (decide (i ≤ j)) := et_cmp op_le (nomark _) ha hb (opI0 fun _ => rfl)
theorem et_gt (ha : EvX X a σ H G i) (hb : EvX X b σ H G j) : EvT X (.Compare a [.Gt] [b] pos) σ H G (decide (j < i)) := et_cmp op_gt (nomark _) ha hb (opI0 fun _ => rfl)
theorem et_ge (ha : EvX X a σ H G i) (hb : EvX X b σ H G j) : EvT X (.Compare a [.GtE] [b] pos) σ H G (decide (j ≤ i)) := et_cmp op_ge (nomark _) ha hb (opI0 fun _ => rfl)
end

/-! ### == and != -/
/-- data that == tells apart as Lean does -/
class Eqs (α : Type) extends Rep α where
  dec : DecidableEq α
  eq : ∀ {X : Cx} {H G : Hp} {x y : α}, X.A.units + 64 < cLine → Opv X.K (fun v w H Q => rEq v w H Q ∨ rEqD X.K v w H Q) H G x y (decide (x = y))
  ne : ∀ {X : Cx} {H G : Hp} {x y : α}, X.A.units + 64 < cLine → Opv X.K (fun v w H Q => rNe v w H Q ∨ rNeD X.K v w H Q) H G x y (!decide (x = y))
instance {α : Type} [e : Eqs α] : DecidableEq α := e.dec
theorem op_eqS (hu : X.A.units + 64 < cLine) : OpR X (compareOp .Eq) (fun v w H Q => rEq v w H Q ∨ rEqD X.K v w H Q) := by
  intro pins s σ H x y v u Q I rx ry h
  rcases h with h | h
  · exact op_eq pins s σ H x y v u Q I rx ry h
  · exact op_eqD hu pins s σ H x y v u Q I rx ry h
theorem op_neS (hu : X.A.units + 64 < cLine) : OpR X (compareOp .NotEq) (fun v w H Q => rNe v w H Q ∨ rNeD X.K v w H Q) := by
  intro pins s σ H x y v u Q I rx ry h
  rcases h with h | h
  · exact op_ne pins s σ H x y v u Q I rx ry h
  · exact op_neD hu pins s σ H x y v u Q I rx ry h
theorem ev_eq {α : Type} [Eqs α] {x y : α} (hu : X.A.units + 64 < cLine) (ha : EvX X a σ H G x) (hb : EvX X b σ H G y) : EvX X (.Compare a [.Eq] [b] pos) σ H G (decide (x = y)) := ev_cmp (op_eqS hu) (nomark _) ha hb (Eqs.eq hu)
theorem ev_ne {α : Type} [Eqs α] {x y : α} (hu : X.A.units + 64 < cLine) (ha : EvX X a σ H G x) (hb : EvX X b σ H G y) : EvX X (.Compare a [.NotEq] [b] pos) σ H G (!decide (x = y)) := ev_cmp (op_neS hu) (nomark _) ha hb (Eqs.ne hu)
theorem et_eq {α : Type} [Eqs α] {x y : α} (hu : X.A.units + 64 < cLine) (ha : EvX X a σ H G x) (hb : EvX X b σ H G y) : EvT X (.Compare a [.Eq] [b] pos) σ H G (decide (x = y)) := et_cmp (op_eqS hu) (nomark _) ha hb (Eqs.eq hu)
theorem et_ne {α : Type} [Eqs α] {x y : α} (hu : X.A.units + 64 < cLine) (ha : EvX X a σ H G x) (hb : EvX X b σ H G y) : EvT X (.Compare a [.NotEq] [b] pos) σ H G (!decide (x = y)) := et_cmp (op_neS hu) (nomark _) ha hb (Eqs.ne hu)
theorem dec_congr {p q : Prop} [Decidable p] [Decidable q] (h : p ↔ q) : decide p = decide q := by
  by_cases k : p
  · rw [decide_eq_true k, decide_eq_true (h.mp k)]
  · rw [decide_eq_false k, decide_eq_false fun z => k (h.mpr z)]
instance : Eqs Int where
  dec := inferInstance
  eq := fun _ v w H1 G1 s hv hw Q k => by
    cases hv
    cases hw
    exact .inl ⟨rfl, k _ H1 G1 (Rc.refl s.sub) (congrArg V.bl (dec_congr ⟨V.int.inj, congrArg _⟩))⟩
  ne := fun _ v w H1 G1 s hv hw Q k => by
    cases hv
    cases hw
    exact .inl ⟨rfl, k _ H1 G1 (Rc.refl s.sub) (congrArg (fun b => V.bl (!b)) (dec_congr ⟨V.int.inj, congrArg _⟩))⟩
instance : Eqs Bool where
  dec := inferInstance
  eq := fun _ v w H1 G1 s hv hw Q k => by
    cases hv
    cases hw
    exact .inl ⟨rfl, k _ H1 G1 (Rc.refl s.sub) (congrArg V.bl (dec_congr ⟨V.bl.inj, congrArg _⟩))⟩
  ne := fun _ v w H1 G1 s hv hw Q k => by
    cases hv
    cases hw
    exact .inl ⟨rfl, k _ H1 G1 (Rc.refl s.sub) (congrArg (fun b => V.bl (!b)) (dec_congr ⟨V.bl.inj, congrArg _⟩))⟩
instance : Eqs Str where
  dec := inferInstance
  eq := fun _ v w H1 G1 s hv hw Q k => by
    cases hv
    cases hw
    exact .inl ⟨rfl, k _ H1 G1 (Rc.refl s.sub) (congrArg V.bl (dec_congr ⟨V.str.inj, congrArg _⟩))⟩
  ne := fun _ v w H1 G1 s hv hw Q k => by
    cases hv
    cases hw
    exact .inl ⟨rfl, k _ H1 G1 (Rc.refl s.sub) (congrArg (fun b => V.bl (!b)) (dec_congr ⟨V.str.inj, congrArg _⟩))⟩
/-- data that Python's own data follow -/
class PyD (α : Type) extends Rep α where
  dq : DecidableEq α
  py : α → PyData
  dep : Nat
  dp : ∀ {K : PySem.W.Frag} {G : Hp} {v : V} {x : α}, Rep.rel K G v x → Dp K G v (py x)
  depOk : ∀ x, (py x).depth ≤ dep
  lay : ∀ x, (py x).canLay0 = true
  eqv : ∀ x y, PyData.eqv (py x) (py y) = @decide (x = y) (dq x y)
instance : PyD Int where
  dq := inferInstance
  py := .int
  dep := 0
  dp := fun h => by
    cases h
    exact .int _
  depOk := fun x => by simp [PyData.depth]
  lay := fun x => by simp [PyData.canLay0]
  eqv := fun x y => by
    rw [Bool.eq_iff_iff]
    simp [PyData.eqv]
instance : PyD Bool where
  dq := inferInstance
  py := .bool
  dep := 0
  dp := fun h => by
    cases h
    exact .bl _
  depOk := fun x => by simp [PyData.depth]
  lay := fun x => by simp [PyData.canLay0]
  eqv := fun x y => by
    rw [Bool.eq_iff_iff]
    simp [PyData.eqv]
section
variable {α β : Type} [PyD α] [PyD β]
theorem dp_all {K : PySem.W.Frag} {G : Hp} : ∀ {vs : List V} {xs : List α}, Rels K G vs xs → DpAll K G vs (xs.map PyD.py)
  | _, _, .nil => .nil
  | _, _, .cons h t => .cons (PyD.dp h) (dp_all t)
theorem depAll_le : ∀ xs : List α, PyData.depthAll (xs.map PyD.py) ≤ PyD.dep α
  | [] => by simp [PyData.depthAll]
  | x :: t => by
    have h1 := PyD.depOk x
    have h2 := depAll_le t
    simp only [List.map_cons, PyData.depthAll]
    omega
theorem layAll : ∀ xs : List α, PyData.canLayAll0 (xs.map PyD.py) = true
  | [] => by simp [PyData.canLayAll0]
  | x :: t => by simp [PyData.canLayAll0, PyD.lay x, layAll t]
theorem eqvAll_dec : ∀ xs ys : List α, PyData.eqvAll (xs.map PyD.py) (ys.map PyD.py) = @decide (xs = ys) (@instDecidableEqList α PyD.dq xs ys)
  | [], [] => by simp [PyData.eqvAll]
  | [], _ :: _ => by simp [PyData.eqvAll]
  | _ :: _, [] => by simp [PyData.eqvAll]
  | x :: t, y :: u => by
    have h1 := PyD.eqv x y
    have h2 := eqvAll_dec t u
    simp only [List.map_cons, PyData.eqvAll, h1, h2]
    rw [Bool.eq_iff_iff]
    simp
end
instance {α : Type} [PyD α] : PyD (List α) where
  dq := @instDecidableEqList α PyD.dq
  py := fun xs => .list (xs.map PyD.py)
  dep := PyD.dep α + 1
  dp := fun ⟨_, _, h1, h2, h3⟩ => by
    subst h1
    exact .lst (.inl (.inl h2)) (dp_all h3)
  depOk := fun xs => by
    have h := depAll_le xs
    simp only [PyData.depth]
    omega
  lay := fun xs => by
    simp only [PyData.canLay0]
    exact layAll xs
  eqv := fun xs ys => by
    simp only [PyData.eqv]
    exact eqvAll_dec xs ys
instance {α β : Type} [PyD α] [PyD β] : PyD (α × β) where
  dq := @instDecidableEqProd α β PyD.dq PyD.dq
  py := fun x => .tuple [PyD.py x.1, PyD.py x.2]
  dep := max (PyD.dep α) (PyD.dep β) + 1
  dp := fun ⟨_, _, _, h1, h2, h3, h4⟩ => by
    subst h1
    exact .tup (.inl (.inl h2)) (.cons (PyD.dp h3) (.cons (PyD.dp h4) .nil))
  depOk := fun x => by
    have h1 := PyD.depOk x.1
    have h2 := PyD.depOk x.2
    simp only [PyData.depth, PyData.depthAll]
    omega
  lay := fun x => by simp [PyData.canLay0, PyData.canLayAll0, PyD.lay x.1, PyD.lay x.2]
  eqv := fun x y => by
    simp only [PyData.eqv, PyData.eqvAll, PyD.eqv]
    rw [Bool.eq_iff_iff]
    simp [Prod.ext_iff]
/-- .. and is not deeper than Python's own walk goes -/
class Shal (α : Type) [PyD α] : Prop where
  le : PyD.dep α ≤ 60
instance : Shal Int := ⟨by decide⟩
theorem shaped_py {α : Type} [PyD α] (h : PyD.dep α ≤ 60) (x : α) : SeqAt.shaped (PyD.py x) = true := by
  unfold SeqAt.shaped
  rw [PyD.lay x, decide_eq_true (Nat.le_trans (PyD.depOk x) (Nat.le_trans h (by decide)))]
  rfl
theorem opD_eq {α : Type} [PyD α] {X : Cx} {H G : Hp} {x y : α} (h : PyD.dep α ≤ 60) : Opv X.K (fun v w H Q => rEq v w H Q ∨ rEqD X.K v w H Q) H G x y (@decide (x = y) (PyD.dq x y)) := fun v w H1 G1 s hv hw Q k =>
  .inr ⟨_, _, PyD.dp (Rep.mono s.sub hv), PyD.dp (Rep.mono s.sub hw), shaped_py h x, shaped_py h y, k _ H1 G1 (Rc.refl s.sub) (congrArg V.bl (PyD.eqv x y))⟩
theorem opD_ne {α : Type} [PyD α] {X : Cx} {H G : Hp} {x y : α} (h : PyD.dep α ≤ 60) : Opv X.K (fun v w H Q => rNe v w H Q ∨ rNeD X.K v w H Q) H G x y (!@decide (x = y) (PyD.dq x y)) := fun v w H1 G1 s hv hw Q k =>
  .inr ⟨_, _, PyD.dp (Rep.mono s.sub hv), PyD.dp (Rep.mono s.sub hw), shaped_py h x, shaped_py h y, k _ H1 G1 (Rc.refl s.sub) (congrArg (fun b => V.bl (!b)) (PyD.eqv x y))⟩
instance : Eqs (List Int) where
  dec := inferInstance
  eq := fun _ => opD_eq (α := List Int) (by decide)
  ne := fun _ => opD_ne (α := List Int) (by decide)
instance : Eqs (List (List Int)) where
  dec := inferInstance
  eq := fun _ => opD_eq (α := List (List Int)) (by decide)
  ne := fun _ => opD_ne (α := List (List Int)) (by decide)
instance : Eqs (List Bool) where
  dec := inferInstance
  eq := fun _ => opD_eq (α := List Bool) (by decide)
  ne := fun _ => opD_ne (α := List Bool) (by decide)
instance : Eqs (Int × Int) where
  dec := inferInstance
  eq := fun _ => opD_eq (α := Int × Int) (by decide)
  ne := fun _ => opD_ne (α := Int × Int) (by decide)
instance : Eqs (List (Int × Int)) where
  dec := inferInstance
  eq := fun _ => opD_eq (α := List (Int × Int)) (by decide)
  ne := fun _ => opD_ne (α := List (Int × Int)) (by decide)
end
end PX

/-! PXg: defs whose surroundings hold no repr that is under way; the law's end. -/
namespace PX
open PySem L2
open PySem.Spec PyProof.Rows

/-- a def keeps its promise wherever no guard stands around -/
structure FnG (P : Program) (w : World) (K : PySem.W.Frag) (mg : Str → Option Value) (base : Heap) (CX : CXT) (k : Nat) (f : Addr) (fd : FuncData) (ps : List Str) (sp : Sp) : Prop where
  len : ∀ vs H Q E, sp vs H Q E → vs.length = ps.length
  run : ∀ (A : Around) (outer : List Env) (s : Shared) (H : Hp) (args : Args) (us : List Value) (vs : List V) (Q : VK) (E : XK), A.guards = some [] → Room k A → Env0 P w K mg base A outer s H →
    BindsTo s fd args (ps.zip us) → L2.Vals vs us → sp vs H Q E → codeAny (model P w) A (.call (.ref f) args) (CR CX outer P w H s Q E) s
section
variable {P : Program} {w : World} {K : PySem.W.Frag} {mg : Str → Option Value} {base : Heap} {CX : CXT} {j k : Nat} {f : Addr} {fd : FuncData} {ps : List Str} {sp : Sp}
theorem FnG.mono (F : FnG P w K mg base CX j f fd ps sp) (h : j ≤ k) : FnG P w K mg base CX k f fd ps sp := ⟨F.len, fun A o s H a us vs Q E g r => F.run A o s H a us vs Q E g (r.mono h)⟩
theorem FnG.imp {sp' : Sp} (F : FnG P w K mg base CX k f fd ps sp) (h : ∀ vs H Q E, sp' vs H Q E → sp vs H Q E) : FnG P w K mg base CX k f fd ps sp' :=
  ⟨fun vs H Q E q => F.len vs H Q E (h _ _ _ _ q), fun A o s H a us vs Q E g r e b v q => F.run A o s H a us vs Q E g r e b v (h _ _ _ _ q)⟩
theorem fnG_of {name qual : Str} {params : Arguments} {body : List Stmt} {scope : Scope} {dV kV doc pm cdv ct oc : Value} {an od : Option Addr} {osl : Array (Option Value)} {N : List Str}
    (lk : K.lookup f = some ⟨oc, od, .func (PySem.W.fnOf name qual params body scope dV kV doc pm an cdv ct), osl⟩) (hcd : PySem.W.codeIn K cdv qual = true) (S : FnScope N ps scope)
    (len : ∀ vs H Q E, sp vs H Q E → vs.length = ps.length)
    (hbody : ∀ (A : Around) (outer : List Env) (s : Shared) (H : Hp) (vs : List V) (Q : VK) (E : XK), A.guards = some [] → Room k (A.deeper (envOfC qual scope s.heap.objs.size f cdv)) → sp vs H Q E →
      wpB (cxOf CX P w K mg base N qual scope f cdv A outer s H E) body { nx := fun _ H' => Q .non H', rt := Q } (start N vs) H) :
    FnG P w K mg base CX (k + 1) f (PySem.W.fnOf name qual params body scope dV kV doc pm an cdv ct) ps sp := by
  constructor
  · exact len
  intro A outer s H args us vs Q E hG hr e0 hb rv hsp
  have hlen := len _ _ _ _ hsp
  have KX : K.In s.heap := e0.mod.kin.keeps fun c z q => (e0.bs c z q).1
  have unl : s.heap.NoLimit := e0.mod.nolimit.keeps fun c z q => (e0.bs c z q).1
  have kinds : ∀ y ∈ ps.zip us, scope.names.lookup y.1 = some .local ∨
      (scope.names.lookup y.1 = some .cell ∧ ((cellsFrom (s.heap.objs.size + 1) scope.names []).lookup y.1).isSome = true) := by
    rintro ⟨nm, val⟩ hy
    cases S.par nm (List.of_mem_zip hy).1 with
    | inl q => exact .inl q
    | inr q => exact .inr ⟨q, PySem.W.cellsFrom_some _ _ _ (.inl q)⟩
  have lk' := KX _ _ lk
  have rec' := PySem.W.codeRec_of KX hcd
  refine codeAny_call_function hr.depth lk' rfl S.co S.gen rfl rec' (hb _ _ _ _ ?_)
  refine wpAny_newFunctionEnv_cells S.kind kinds fun env henv s1 new => ?_
  subst henv
  refine ⟨unl.keeps new.toInCall.keep, codeAny_func ?_⟩
  have q0 := hbody A outer s H vs Q E hG (hr.deeper _) hsp
  have I := inv_start (CX := CX) (P := P) (w := w) (mg := mg) (E := E) S hr.hd e0 hlen rv new
  refine wpAny_mono (q0 [] s1 I) (fun fl s' told => ?_) fun e s' told => told
  cases fl with
  | brk => exact told.elim fun _ z => z.elim fun _ z => z.2.elim
  | cont => exact told.elim fun _ z => z.elim fun _ z => z.2.elim
  | ret u =>
    obtain ⟨v, _, H', J, r1, q1⟩ := told
    exact ⟨v, H', J.os, J.bare, J.base, J.hok, r1, q1⟩
  | next =>
    obtain ⟨_, H', J, q1⟩ := told
    exact ⟨V.non, H', J.os, J.bare, J.base, J.hok, rfl, q1⟩
theorem nox_B {X : Cx} {sts : List Stmt} {D : Ends} {σ : L2.St} {H : Hp} (h : wpB X.nox sts D σ H) : wpB X sts D σ H := toB (PSs.nox pss_wp) h
/-- .. for a def as it stands behind the top; its body raises nothing -/
theorem defG {x qual : Str} {st : Stmt} {N : List Str} (F : Fun K x qual st f fd) (S : FnScope N ps (defScope st)) (len : ∀ vs H Q E, sp vs H Q E → vs.length = ps.length)
    (hbody : ∀ (cdv : Value) (A : Around) (outer : List Env) (s : Shared) (H : Hp) (vs : List V) (Q : VK) (E : XK), A.guards = some [] → Room k (A.deeper (envOfC qual (defScope st) s.heap.objs.size f cdv)) → sp vs H Q E →
      wpB (cxOf CX P w K mg base N qual (defScope st) f cdv A outer s H E).nox (defBody st) { nx := fun _ H' => Q .non H', rt := Q } (start N vs) H) : FnG P w K mg base CX (k + 1) f fd ps sp := by
  obtain ⟨oc, od, kV, doc, pm, an, cdv, ct, osl, rfl, lk, hcd⟩ := F.ex
  exact fnG_of lk hcd S len fun A outer s H vs Q E g r q => nox_B (hbody cdv A outer s H vs Q E g r q)
/-- .. its body may raise -/
theorem defX {x qual : Str} {st : Stmt} {N : List Str} (F : Fun K x qual st f fd) (S : FnScope N ps (defScope st)) (len : ∀ vs H Q E, sp vs H Q E → vs.length = ps.length)
    (hbody : ∀ (cdv : Value) (A : Around) (outer : List Env) (s : Shared) (H : Hp) (vs : List V) (Q : VK) (E : XK), A.guards = some [] → Room k (A.deeper (envOfC qual (defScope st) s.heap.objs.size f cdv)) → sp vs H Q E →
      wpB (cxOf CX P w K mg base N qual (defScope st) f cdv A outer s H E) (defBody st) { nx := fun _ H' => Q .non H', rt := Q } (start N vs) H) : FnG P w K mg base CX (k + 1) f fd ps sp := by
  obtain ⟨oc, od, kV, doc, pm, an, cdv, ct, osl, rfl, lk, hcd⟩ := F.ex
  exact fnG_of lk hcd S len fun A outer s H vs Q E => hbody cdv A outer s H vs Q E
theorem deeper_guards {A : Around} {env : Env} : (A.deeper env).guards = A.guards := rfl
end
section
variable {X : Cx} {CX : CXT} {k : Nat} {f : Addr} {fd : FuncData} {ps : List Str} {sp : Sp} {E : XK} {x : Str} {p pos : Pos} {e : Expr} {es : List Expr} {t : TA}
/-- the callee runs -/
theorem runG {pins : List (Addr × Obj)} {σ : L2.St} {H : Hp} {s : Shared} {Q : VK} {us : List Value} {vs : List V} (F : FnG X.prog X.w X.K X.mg X.base CX k f fd ps sp) (hG : X.A.guards = some []) (hr : Room k X.A) (hb : Binds X.K fd ps []) (hx : Passes CX X E)
    (I : Inv X pins σ H s) (r : L2.Vals vs us) (h : sp vs H Q E) : wpAny (model X.prog X.w) X.A (call (.ref f) us) (EP X pins σ Q) X.xe s := by
  have hlen : us.length = ps.length := by
    rw [← r.length]
    exact F.len _ _ _ _ h
  have bd := hb s us I.kIn (by rw [List.append_nil]; exact hlen)
  rw [List.append_nil] at bd
  refine wpAny_call (codeAny_mono (F.run X.A X.stack s H ⟨us, []⟩ us vs Q E hG hr I.env0 bd r h) ?_)
  intro res s' hq
  match res, hq with
  | .error er, hq => exact hx pins σ H s er s' I hq
  | .ok (.ret u), ⟨v, H', q1, q2, q3, q4, q5, q6⟩ => exact ⟨v, H', I.call' (ch := []) q1 q3 q4 q2 (fun _ z => nomatch z), q5, q6⟩
theorem pe_callG (F : FnG X.prog X.w X.K X.mg X.base CX k f fd ps sp) (hG : X.A.guards = some []) (hr : Room k X.A) (hg : Gl X x) (hm : X.mg x = some (.ref f)) (hk : PySem.W.keepIn X.K (.ref f) = true) (hb : Binds X.K fd ps []) (hx : Passes CX X E) (ha : PA X (e :: es) t)
    (hdb : (x == ("__debug__" : Str)) = false := by decide) (he : starEach (e :: es) X.env = (false, eval e X.env) :: starEach es X.env := by rfl) (hpl : (backTo pos (starEach es X.env)).any (·.1) = false := by rfl) :
    PE X (.Call (.Name x p) (e :: es) [] pos) (fun σ H Q => t σ H fun vs H1 => sp vs H1 Q E) := by
  constructor
  intro pins s σ H Q I h
  refine wpAny_Call_Name_kw (ld_glob I hg hm ?_ hdb)
  refine PySem.W.callWith_K (h₀ := X.base) I.ok.mod.kin hk ?_ he hpl
  exact thn (ha.run pos pins s σ H _ I h) fun us s1 ⟨vs, H1, I1, r, q⟩ => ⟨I1.kIn, runG F hG hr hb hx I1 r q⟩
theorem pe_callG0 (F : FnG X.prog X.w X.K X.mg X.base CX k f fd ps sp) (hG : X.A.guards = some []) (hr : Room k X.A) (hg : Gl X x) (hm : X.mg x = some (.ref f)) (hk : PySem.W.keepIn X.K (.ref f) = true) (hb : Binds X.K fd ps []) (hx : Passes CX X E)
    (hdb : (x == ("__debug__" : Str)) = false := by decide) : PE X (.Call (.Name x p) [] [] pos) (fun σ H Q => sp [] H Q E) := by
  constructor
  intro pins s σ H Q I h
  refine wpAny_Call_Name_kw (ld_glob I hg hm ?_ hdb)
  exact PySem.W.callWith_K0 I.kIn hk (runG (us := []) F hG hr hb hx I .nil h)
end

/-! ### the law's end -/
section
variable {P : Program} {w : World} {K : PySem.W.Frag} {mg mb : Str → Option Value} {CX : CXT} {k : Nat} {fa a : Addr} {fd : FuncData} {x : Str} {sp : Sp} {s₁ : Shared} {vs : List Value} {ns : List Int}
theorem law_callG (KX : K.In s₁.heap) (hns : s₁.heap.Ns mainGlobals mg) (hb : s₁.heap.Ns builtinsNs mb) (hbb : ∀ x : Str, x ≠ "__name__" → mb x = bootBuiltins x) (hlim : s₁.heap.NoLimit) (hg : s₁.gens = #[])
    (ha : s₁.heap.get? a = some { cls := .type "list", data := .seq vs.toArray }) (hi : IntsAre vs ns) (hl : ns.length ≤ sizeLine) (hr : Room k callerA)
    (F : ∀ base : Heap, K.In base → base.Ns mainGlobals mg → FnG P w K mg base CX k fa fd [x] sp) (hbind : ∀ (s : Shared) (u : Value), BindsTo s fd ⟨[u], []⟩ [(x, u)])
    (hsp : ∀ H : Hp, Only H → SqL K H a (ns.map V.int) → sp [.ref a] H (fun v _ => v = .bl true) fun _ _ _ => False)
    (hCX : ∀ H e s', CX [] H s₁ (fun _ _ _ => False) e s' → False) :
    codeAny (model P w) callerA (.call (.ref fa) ⟨[.ref a], []⟩) (fun r s' => r = .ok (.ret (.bool true)) ∧ OldK s₁.heap s'.heap ∧ s'.os = s₁.os ∧ AllBare s'.gens) s₁ := by
  have rv := vals_ints hi
  have sized := hi.length
  -- told for a heap that tracks the script at most
  suffices core : ∀ H : Hp, Only H → SqL K H a (ns.map V.int) → HOk P w H s₁.heap → (∀ b, H b ≠ none → b = a) → (H a ≠ none → K.lookup a = none) →
      codeAny (model P w) callerA (.call (.ref fa) ⟨[.ref a], []⟩) (fun r s' => r = .ok (.ret (.bool true)) ∧ OldK s₁.heap s'.heap ∧ s'.os = s₁.os ∧ AllBare s'.gens) s₁ by
    cases known : K.lookup a with
    | some o =>
      have same := KX a o known
      rw [ha] at same
      cases same
      exact core (fun _ => none) (fun _ => .inl rfl) (.inr ⟨_, vs.toArray, _, known, rfl, rfl, rfl, by rw [List.size_toArray, sized]; exact hl, by simpa using rv⟩) (fun _ _ z => nomatch z) (fun _ z => absurd rfl z) (fun z => absurd rfl z)
    | none =>
      let H0 : Hp := fun b => if b = a then some (.frz { cls := .type "list", data := .seq vs.toArray } (.lst (ns.map V.int))) else none
      have at_a : H0 a = some (.frz { cls := .type "list", data := .seq vs.toArray } (.lst (ns.map V.int))) := if_pos rfl
      have off : ∀ b, b ≠ a → H0 b = none := fun b hb => if_neg hb
      refine core H0 (fun b => ?_) (.inl (.inr ⟨_, at_a⟩)) (fun b u z => ?_) (fun b z => ?_) fun _ => known
      · by_cases c : b = a
        · rw [c]
          exact .inr ⟨_, _, at_a⟩
        · exact .inl (off b c)
      · by_cases c : b = a
        · rw [c, at_a] at z
          cases z
          rw [c]
          exact ⟨ha, by rw [List.length_map]; exact hl, vs, _, rv, ha⟩
        · rw [off b c] at z
          cases z
      · by_cases c : b = a
        · exact c
        · exact absurd (off b c) z
  intro H only hS hok hA hK
  have seen : ∀ {b : Addr} {o : Obj}, s₁.heap.get? b = some o → H b = none → (hidT s₁.heap H).get? b = some o := fun q n => hidT_get q n
  have untr : ∀ {b : Addr} {o : Obj} {es : Array DictEntry} {ep : Nat}, s₁.heap.get? b = some o → o.data = .dict es ep → H b = none := by
    intro b o es ep q d
    cases c : H b with
    | none => rfl
    | some u =>
      have same : b = a := hA b (by rw [c]; exact fun z => nomatch z)
      rw [same, ha] at q
      cases q
      cases (show Data.seq vs.toArray _ = Data.dict es ep from d)
  have spaces : ∀ {b : Addr} {m : Str → Option Value}, s₁.heap.Ns b m → (hidT s₁.heap H).Ns b m := by
    rintro b m ⟨o, es, ep, q, d, r⟩
    exact ⟨o, es, ep, seen q (untr q d), d, r⟩
  have KB : K.In (hidT s₁.heap H) := by
    intro b o q
    refine seen (KX b o q) ?_
    cases c : H b with
    | none => rfl
    | some u =>
      have same : b = a := hA b (by rw [c]; exact fun z => nomatch z)
      rw [same, hK (by rw [← same, c]; exact fun z => nomatch z)] at q
      cases q
  obtain ⟨mc, l1, l2⟩ := hlim
  have M : Mod K mg (hidT s₁.heap H) := ⟨KB, spaces hns, ⟨mb, spaces hb, hbb⟩, ⟨mc, spaces l1, l2⟩⟩
  have e0 : Env0 P w K mg (hidT s₁.heap H) callerA [] s₁ H := ⟨rfl, M, fun b o q => of_hidT q, Nat.le_of_eq (hidT_size _ _), trivial, fun b q => absurd (show b ∈ ([] : List Addr) from q) (by simp), hok, .of_eq hg⟩
  refine codeAny_mono ((F _ KB (spaces hns)).run callerA [] s₁ H ⟨[.ref a], []⟩ [.ref a] [.ref a] _ _ rfl hr e0 (hbind s₁ (.ref a)) (.cons rfl .nil) (hsp H only hS)) ?_
  intro res s' told
  match res, told with
  | .error er, told => exact (hCX H er s' told).elim
  | .ok (.ret u), ⟨v, H', q1, q2, q3, q4, q5, q6⟩ =>
    cases (show v = .bl true from q6)
    cases (show u = Value.bool true from q5)
    refine ⟨rfl, OldK.of_keep fun b o q => ?_, q1, q2⟩
    cases c : H b with
    | none => exact q3.keep b o q c (by intro z; exact absurd (show b ∈ ([] : List Addr) from z) (by simp)) (by simp)
    | some u =>
      rcases only b with z | ⟨ob, xs, z⟩
      · rw [c] at z
        cases z
      · obtain ⟨w1, _⟩ := hok b _ z
        obtain ⟨w2, _⟩ := q4 b _ (q3.frzs b ob _ z)
        rw [q] at w1
        cases w1
        exact w2
end
theorem walkG {l : PySem.W.OpenLaw} {n k : Nat} {q : Program} {loose : List Str} {XP : (Str → Option Value) → Heap → Prop} {YP : World → Heap → Prop} {d : DefRec} {K : Params → PySem.W.Frag} {CX : World → CXT} {sp : World → Sp} {x : Str}
    (hn : l.most = some n) (hn2 : n ≤ sizeLine) (hdf : d.params.defaults = []) (hr : Room k callerA)
    (hY : ∀ (w : World) (h : Heap), YP w h → (K w.params).In h)
    (F : ∀ (w : World) (mg : Str → Option Value) (fa : Addr) (h : Heap), (K w.params).In h → h.Ns mainGlobals mg → mg d.name = some (.ref fa) →
      ∃ fd : FuncData, (∀ (s : Shared) (u : Value), BindsTo s fd ⟨[u], []⟩ [(x, u)]) ∧
        ∀ base : Heap, (K w.params).In base → base.Ns mainGlobals mg → FnG l.prog w (K w.params) mg base (CX w) k fa fd [x] (sp w))
    (hsp : ∀ (w : World) (H : Hp) (a : Addr) (ns : List Int), ns.length ≤ n → (∀ z ∈ ns, Builtin.Int.intBits z ≤ 1048576) → Only H → SqL (K w.params) H a (ns.map V.int) → sp w [.ref a] H (fun v _ => v = .bl true) fun _ _ _ => False)
    (hCX : ∀ (w : World) (H : Hp) (s : Shared) (e : Value) (s' : Shared), CX w [] H s (fun _ _ _ => False) e s' → False) :
    PySem.W.WalkO q loose XP YP l.row.toRowW d [] (fun f vs => PySem.call f vs) := by
  refine Att.attach_callB hn hdf fun w s₀ s₁ mg mb fa o pm cd doc a vs ns G Y ho hd hcd hmg hobj hints hlen hbits hg => ?_
  obtain ⟨fd, hb, hF⟩ := F w mg fa _ (hY w _ Y) G.T.g hmg
  exact law_callG (hY w _ Y) G.T.g G.T.b G.T.builtins G.T.nolimit hg hobj hints (Nat.le_trans hlen hn2) hr hF hb (fun H h1 h2 => hsp w H a ns hlen hbits h1 h2) fun H e s' => hCX w H s₁ e s'
end PX

/-! PXc: tests, items, displays, calls. -/
namespace PX
open PySem L2
section
variable {X : Cx} {σ : L2.St} {H G : Hp} {α β γ : Type} [Rep α] [Rep β] [Rep γ] {a b c e : Expr} {es rest : List Expr} {pos p2 : Pos} {x : α} {y : β} {z : γ} {t u : Bool}
theorem sql_mono {K : PySem.W.Frag} {G G' : Hp} {p : Addr} {vs : List V} (e : Ex G G') (h : SqL K G p vs) : SqL K G' p vs := by
  rcases h with (h | ⟨o, h⟩) | h
  · exact .inl (.inl (e _ _ h))
  · exact .inl (.inr ⟨o, e _ _ h⟩)
  · exact .inr h
/-! ### tests -/
theorem et_val (h : EvX X e σ H G t) (he : ∀ whole, isTrue e X.env whole = (do let v ← whole; standAt e.pos; holding [v] (truthy v)) := by intro _; rfl) : EvT X e σ H G t := fun H1 G1 s Q k =>
  toT (pt_val pe_wp he) (show wpE X e σ H1 _ from h H1 G1 s _ fun v H2 G2 s2 r => ⟨t, r, k H2 G2 s2⟩)
theorem et_not (h : EvT X a σ H G t) : EvT X (.UnaryOp .Not a pos) σ H G (!t) := fun H1 G1 s Q k => toT (pt_not pt_wp) (show wpT X a σ H1 _ from h H1 G1 s _ k)
theorem ev_not (h : EvX X a σ H G t) : EvX X (.UnaryOp .Not a pos) σ H G (!t) := fun H1 G1 s Q k =>
  toE (pe_not pe_wp) (show wpE X a σ H1 _ from h H1 G1 s _ fun v H2 G2 s2 r => ⟨t, r, k _ H2 G2 s2 rfl⟩)
theorem et_w (h : EvW X e σ H G t) : EvT X e σ H G t := fun H1 G1 s Q k pins s0 I => h H1 G1 s Q k _ pins s0 I
theorem ew_and1 (h : EvT X a σ H G t) : EvW X (.BoolOp .And [a] pos) σ H G t := fun H1 G1 s Q k => toW (pw_and1 pt_wp) (h H1 G1 s Q k)
theorem ew_or1 (h : EvT X a σ H G t) : EvW X (.BoolOp .Or [a] pos) σ H G t := fun H1 G1 s Q k => toW (pw_or1 pt_wp) (h H1 G1 s Q k)
theorem ew_and (h : EvT X a σ H G t) (h2 : t = true → EvW X (.BoolOp .And (b :: rest) pos) σ H G u) (h3 : t = false → u = false) : EvW X (.BoolOp .And (a :: b :: rest) pos) σ H G u := fun H1 G1 s Q k =>
  toW (pw_and pt_wp pw_wp) (show wpT X a σ H1 _ from h H1 G1 s _ fun H2 G2 s2 => by
    cases t with
    | true => exact h2 rfl H2 G2 (s.trans s2) Q fun H3 G3 s3 => k H3 G3 (s2.trans s3)
    | false =>
      rw [h3 rfl] at k
      exact k H2 G2 s2)
theorem ew_or (h : EvT X a σ H G t) (h2 : t = false → EvW X (.BoolOp .Or (b :: rest) pos) σ H G u) (h3 : t = true → u = true) : EvW X (.BoolOp .Or (a :: b :: rest) pos) σ H G u := fun H1 G1 s Q k =>
  toW (pw_or pt_wp pw_wp) (show wpT X a σ H1 _ from h H1 G1 s _ fun H2 G2 s2 => by
    cases t with
    | false => exact h2 rfl H2 G2 (s.trans s2) Q fun H3 G3 s3 => k H3 G3 (s2.trans s3)
    | true =>
      rw [h3 rfl] at k
      exact k H2 G2 s2)
theorem ev_one {op} (h : EvX X a σ H G x) : EvX X (.BoolOp op [a] pos) σ H G x := fun H1 G1 s Q k => toE (pe_one pe_wp) (h H1 G1 s Q k)
theorem ev_and (h : EvX X a σ H G t) (h2 : t = true → EvX X (.BoolOp .And (b :: rest) pos) σ H G u) (h3 : t = false → u = false) : EvX X (.BoolOp .And (a :: b :: rest) pos) σ H G u := fun H1 G1 s Q k =>
  toE (pe_and pe_wp pe_wp) (show wpE X a σ H1 _ from h H1 G1 s _ fun v H2 G2 s2 r => ⟨t, r, by
    cases t with
    | true => exact h2 rfl H2 G2 (s.trans s2) Q fun v H3 G3 s3 => k v H3 G3 (s2.trans s3)
    | false =>
      rw [h3 rfl] at k
      exact k _ H2 G2 s2 rfl⟩)
theorem ev_or (h : EvX X a σ H G t) (h2 : t = false → EvX X (.BoolOp .Or (b :: rest) pos) σ H G u) (h3 : t = true → u = true) : EvX X (.BoolOp .Or (a :: b :: rest) pos) σ H G u := fun H1 G1 s Q k =>
  toE (pe_or pe_wp pe_wp) (show wpE X a σ H1 _ from h H1 G1 s _ fun v H2 G2 s2 r => ⟨t, r, by
    cases t with
    | false => exact h2 rfl H2 G2 (s.trans s2) Q fun v H3 G3 s3 => k v H3 G3 (s2.trans s3)
    | true =>
      rw [h3 rfl] at k
      exact k _ H2 G2 s2 rfl⟩)
theorem ev_if (h : EvT X c σ H G t) (h1 : t = true → EvX X a σ H G x) (h2 : t = false → EvX X b σ H G x) : EvX X (.IfExp c a b pos) σ H G x := fun H1 G1 s Q k =>
  toE (pe_ifExp pt_wp pe_wp pe_wp) (show wpT X c σ H1 _ from h H1 G1 s _ fun H2 G2 s2 => by
    cases t with
    | true => exact h1 rfl H2 G2 (s.trans s2) Q fun v H3 G3 s3 => k v H3 G3 (s2.trans s3)
    | false => exact h2 rfl H2 G2 (s.trans s2) Q fun v H3 G3 s3 => k v H3 G3 (s2.trans s3))
theorem ev_ifN {xs : List α} (h : EvT X c σ H G t) (h1 : t = true → EvN X a σ H G xs) (h2 : t = false → EvN X b σ H G xs) : EvN X (.IfExp c a b pos) σ H G xs := fun H1 G1 s Q k =>
  toE (pe_ifExp pt_wp pe_wp pe_wp) (show wpT X c σ H1 _ from h H1 G1 s _ fun H2 G2 s2 => by
    cases t with
    | true => exact h1 rfl H2 G2 (s.trans s2) Q fun p H3 G3 s3 n => k p H3 G3 (s2.trans s3) (none_back s2.exH n)
    | false => exact h2 rfl H2 G2 (s.trans s2) Q fun p H3 G3 s3 n => k p H3 G3 (s2.trans s3) (none_back s2.exH n))
/-- is True, is False -/
theorem et_is (ha : EvX X a σ H G t) (hb : EvX X b σ H G u) : EvT X (.Compare a [.Is] [b] pos) σ H G (decide (t = u)) := et_cmp op_isBl (nomark _) ha hb fun v w H1 G1 s hv hw Q k => ⟨t, u, hv, hw, k _ H1 G1 (Rc.refl s.sub) rfl⟩
theorem et_isnot (ha : EvX X a σ H G t) (hb : EvX X b σ H G u) : EvT X (.Compare a [.IsNot] [b] pos) σ H G (!decide (t = u)) := et_cmp op_notBl (nomark _) ha hb fun v w H1 G1 s hv hw Q k => ⟨t, u, hv, hw, k _ H1 G1 (Rc.refl s.sub) rfl⟩
theorem ev_isv (ha : EvX X a σ H G t) (hb : EvX X b σ H G u) : EvX X (.Compare a [.Is] [b] pos) σ H G (decide (t = u)) := ev_cmp op_isBl (nomark _) ha hb fun v w H1 G1 s hv hw Q k => ⟨t, u, hv, hw, k _ H1 G1 (Rc.refl s.sub) rfl⟩
/-- a op b op' c, on whole numbers -/
theorem et_chain {op op' : CmpOp} {g g' : Int → Int → Bool} {i j k : Int} (ho : OpR X (compareOp op) (rI0 fun i j => .bl (g i j))) (ho' : OpR X (compareOp op') (rI0 fun i j => .bl (g' i j))) (ha : EvX X a σ H G i) (hb : EvX X b σ H G j) (hc : EvX X c σ H G k)
    (hm : lastMarks [op, op'] [b, c] = false := by with_unfolding_all rfl) : EvT X (.Compare a [op, op'] [b, c] pos) σ H G (g i j && g' j k) := fun H1 G1 s Q q =>
  toT (pt_chain ho ho' pe_wp pe_wp pe_wp hm) (show wpE X a σ H1 _ from ha H1 G1 s _ fun v H2 G2 s2 r2 => hb H2 G2 (s.trans s2) _ fun w H3 G3 s3 r3 => ⟨i, j, r2, r3, g i j, rfl, by
    cases hg : g i j with
    | true => exact hc H3 G3 ((s.trans s2).trans s3) _ fun u H4 G4 s4 r4 => ⟨j, k, r3, r4, _, rfl, by
        rw [hg, Bool.true_and] at q
        exact q H4 G4 ((s2.trans s3).trans s4)⟩
    | false =>
      rw [hg, Bool.false_and] at q
      exact ⟨false, rfl, q H3 G3 (s2.trans s3)⟩⟩)
theorem ev_chain {op op' : CmpOp} {g g' : Int → Int → Bool} {i j k : Int} (ho : OpR X (compareOp op) (rI0 fun i j => .bl (g i j))) (ho' : OpR X (compareOp op') (rI0 fun i j => .bl (g' i j))) (ha : EvX X a σ H G i) (hb : EvX X b σ H G j) (hc : EvX X c σ H G k)
    (hm : lastMarks [op, op'] [b, c] = false := by with_unfolding_all rfl) : EvX X (.Compare a [op, op'] [b, c] pos) σ H G (g i j && g' j k) := fun H1 G1 s Q q =>
  toE (pe_chain ho ho' pe_wp pe_wp pe_wp hm) (show wpE X a σ H1 _ from ha H1 G1 s _ fun v H2 G2 s2 r2 => hb H2 G2 (s.trans s2) _ fun w H3 G3 s3 r3 => ⟨i, j, r2, r3, g i j, rfl, by
    cases hg : g i j with
    | true => exact hc H3 G3 ((s.trans s2).trans s3) _ fun u H4 G4 s4 r4 => ⟨j, k, r3, r4, by
        rw [hg, Bool.true_and] at q
        exact q _ H4 G4 ((s2.trans s3).trans s4) rfl⟩
    | false =>
      rw [hg, Bool.false_and] at q
      exact q _ H3 G3 (s2.trans s3) rfl⟩)

/-! ### items, slices -/
theorem ev_ix {xs : List α} {i : Int} (h : ix xs i = some x) (ha : EvX X a σ H G xs) (hb : EvX X b σ H G i) (hs : PlainIx b := by exact fun _ _ => rfl) : EvX X (.Subscript a b pos) σ H G x := fun H1 G1 s Q k =>
  toE (pe_ix ix_list pe_wp pe_wp hs) (show wpE X a σ H1 _ from ha H1 G1 s _ fun v H2 G2 s2 r2 => hb H2 G2 (s.trans s2) _ fun w H3 G3 s3 r3 => by
    obtain ⟨p, vs, q1, q2, q3⟩ := Rep.mono s3.ex r2
    obtain ⟨v', e1, e2⟩ := atI_paired q3 h
    exact ⟨p, vs, i, v', q1, r3, .inl (.inl (s3.sub _ _ q2)), e1, k v' H3 G3 (s2.trans s3) e2⟩)
/-- an item of the script -/
theorem ev_ixS {xs : Scr} {i j : Int} (h : ix xs.l i = some j) (ha : EvX X a σ H G xs) (hb : EvX X b σ H G i) (hs : PlainIx b := by exact fun _ _ => rfl) : EvX X (.Subscript a b pos) σ H G j := fun H1 G1 s Q k =>
  toE (pe_ix ix_list pe_wp pe_wp hs) (show wpE X a σ H1 _ from ha H1 G1 s _ fun v H2 G2 s2 r2 => hb H2 G2 (s.trans s2) _ fun w H3 G3 s3 r3 => by
    obtain ⟨p, q1, q2⟩ := Rep.mono s3.ex r2
    obtain ⟨v', e1, e2⟩ := atI_paired (rels_of_int (K := X.K) (G := G3) xs.l) h
    exact ⟨p, _, i, v', q1, r3, sql_mono s3.sub q2, e1, k v' H3 G3 (s2.trans s3) e2⟩)
theorem ev_fst {x : α × β} {j p3 p4} (ha : EvX X a σ H G x) : EvX X (.Subscript a (.Constant (.int 0) j p3) p4) σ H G x.1 := fun H1 G1 s Q k =>
  toE (pe_ix ix_tup pe_wp pe_int (fun _ _ => rfl)) (show wpE X a σ H1 _ from ha H1 G1 s _ fun v H2 G2 s2 ⟨p, u, w, q1, q2, q3, q4⟩ => ⟨p, _, 0, u, q1, rfl, .inl (.inl (s2.sub _ _ q2)), rfl, k u H2 G2 s2 q3⟩)
theorem ev_snd {x : α × β} {j p3 p4} (ha : EvX X a σ H G x) : EvX X (.Subscript a (.Constant (.int 1) j p3) p4) σ H G x.2 := fun H1 G1 s Q k =>
  toE (pe_ix ix_tup pe_wp pe_int (fun _ _ => rfl)) (show wpE X a σ H1 _ from ha H1 G1 s _ fun v H2 G2 s2 ⟨p, u, w, q1, q2, q3, q4⟩ => ⟨p, _, 1, w, q1, rfl, .inl (.inl (s2.sub _ _ q2)), rfl, k w H2 G2 s2 q4⟩)
/-- an end of a slice -/
def EvO (X : Cx) (e : Option Expr) (σ : L2.St) (H G : Hp) (o : Option Int) : Prop := ∃ t : TO, PO X e t ∧ ∀ H1 G1, Rc [] H G H1 G1 → ∀ Q : Option Int → Hp → Prop, (∀ H2 G2, Rc [] H1 G1 H2 G2 → Q o H2) → t σ H1 Q
theorem eo_none : EvO X none σ H G none := ⟨_, po_none, fun H1 G1 s Q k => k H1 G1 (Rc.refl s.sub)⟩
theorem eo_some {i : Int} (h : EvX X e σ H G i) : EvO X (some e) σ H G (some i) := ⟨_, po_some pe_wp, fun H1 G1 s Q k => h H1 G1 s _ fun v H2 G2 s2 r => ⟨i, r, k H2 G2 s2⟩⟩
theorem Own.mk {K : PySem.W.Frag} {p : Addr} {vs : List V} {xs : List α} (e : Ex G H) (n : H p = none) (h : Rels K G vs xs) : Own K (upd H p (.lst vs)) G p xs := ⟨vs, upd_same, none_back e n, h⟩
theorem ev_slice {xs : List α} {lo hi : Option Expr} {l h : Option Int} (ha : EvX X a σ H G xs) (hl : EvO X lo σ H G l) (hh : EvO X hi σ H G h) : EvN X (.Subscript a (.Slice lo hi none p2) pos) σ H G (cut xs l h) := fun H1 G1 s Q k => by
  obtain ⟨tl, pl, ql⟩ := hl
  obtain ⟨th, ph, qh⟩ := hh
  refine toE (pe_slice sl_list pe_wp pl ph) (show wpE X a σ H1 _ from ha H1 G1 s _ fun v H2 G2 s2 r2 => ql H2 G2 (s.trans s2) _ fun H3 G3 s3 => qh H3 G3 ((s.trans s2).trans s3) _ fun H4 G4 s4 => ?_)
  obtain ⟨p, vs, q1, q2, q3⟩ := Rep.mono (s3.trans s4).ex r2
  refine ⟨p, vs, q1, .inl (.inl (s4.sub _ _ q2)), fun d nd => k d _ G4 (((s2.trans s3).trans s4).trans (Rc.new s4.sub nd)) (none_back s2.exH (none_back s3.exH (none_back s4.exH nd))) (Own.mk s4.sub nd (paired_cut q3 l h))⟩
theorem ev_rev {xs : List α} {k : Nat} {p1 p3 : Pos} (ha : EvX X a σ H G xs) : EvN X (.Subscript a (.Slice none none (some (.UnaryOp .USub (.Constant (.int 1) k p1) p2)) p3) pos) σ H G xs.reverse := fun H1 G1 s Q q =>
  toE (pe_revL pe_wp) (show wpE X a σ H1 _ from ha H1 G1 s _ fun v H2 G2 s2 ⟨p, vs, q1, q2, q3⟩ => ⟨p, vs, q1, .inl (.inl (s2.sub _ _ q2)), fun d nd => q d _ G2 (s2.trans (Rc.new s2.sub nd)) (none_back s2.exH nd) (Own.mk s2.sub nd (Paired.reverse q3))⟩)

/-! ### displays -/
def EvL (X : Cx) (es : List Expr) (σ : L2.St) (H G : Hp) (xs : List α) : Prop := ∀ H1 G1, Rc [] H G H1 G1 → ∀ Q : List V → Hp → Prop, (∀ vs H2 G2, Rc [] H1 G1 H2 G2 → Rels X.K G2 vs xs → Q vs H2) → wpA X es σ H1 Q
theorem el_nil : EvL (α := α) X [] σ H G [] := fun H1 G1 s Q k => toA pa_nil (k [] H1 G1 (Rc.refl s.sub) .nil)
theorem el_cons {xs : List α} (h : EvX X e σ H G x) (r : EvL X es σ H G xs) (hs : starEach (e :: es) X.env = (false, eval e X.env) :: starEach es X.env := by rfl) : EvL X (e :: es) σ H G (x :: xs) := fun H1 G1 s Q k =>
  toA (pa_cons pe_wp pa_wp hs) (show wpE X e σ H1 _ from h H1 G1 s _ fun v H2 G2 s2 r2 => r H2 G2 (s.trans s2) _ fun vs H3 G3 s3 r3 => k _ H3 G3 (s2.trans s3) (.cons (Rep.mono s3.ex r2) r3))
theorem ev_lst {xs : List α} (h : EvL X es σ H G xs) (hz : xs.length ≤ 100000 := by decide) : EvN X (.List es pos) σ H G xs := fun H1 G1 s Q k =>
  toE (pe_lst pa_wp) (show wpA X es σ H1 _ from h H1 G1 s _ fun vs H2 G2 s2 r2 => ⟨by rw [Paired.len r2]; exact Nat.le_trans hz (by decide), fun p np => k p _ G2 (s2.trans (Rc.new s2.sub np)) (none_back s2.exH np) (Own.mk s2.sub np r2)⟩)
theorem ev_pair {k1} (ha : EvX X a σ H G x) (hb : EvX X b σ H G y) (hs : starEach [a, b] X.env = (false, eval a X.env) :: starEach [b] X.env := by rfl) (hs2 : starEach [b] X.env = (false, eval b X.env) :: starEach [] X.env := by rfl) : EvX X (.Tuple [a, b] k1 pos) σ H G (x, y) := fun H1 G1 s Q k =>
  toE (pe_tup (pa_cons pe_wp (pa_cons pe_wp pa_nil hs2) hs)) (show wpE X a σ H1 _ from ha H1 G1 s _ fun v H2 G2 s2 r2 => hb H2 G2 (s.trans s2) _ fun w H3 G3 s3 r3 => ⟨(by show 2 ≤ sizeLine; decide), fun p np =>
    k _ _ (upd G3 p (.tup [v, w])) ((s2.trans s3).trans (Rc.newG s3.sub np)) ⟨p, v, w, rfl, upd_same, Rep.mono (s3.ex.trans (Ex.new (none_back s3.sub np))) r2, Rep.mono (Ex.new (none_back s3.sub np)) r3⟩⟩)
theorem ev_cat {xs ys zs : List α} (h : catO xs ys = some zs) (ha : EvX X a σ H G xs) (hb : EvX X b σ H G ys) : EvN X (.BinOp a .Add b pos) σ H G zs := by
  obtain ⟨h1, h2⟩ := dite_some h
  subst h2
  refine ev_opN op_cat ha hb fun v w H1 G1 s hv hw Q k => ?_
  obtain ⟨p, vs, q1, q2, q3⟩ := hv
  obtain ⟨p', ws, w1, w2, w3⟩ := hw
  exact ⟨p, p', vs, ws, q1, w1, s.sub _ _ q2, s.sub _ _ w2, by rw [Paired.len q3, Paired.len w3]; exact line_le h1, fun d nd => k d _ G1 (Rc.new s.sub nd) nd (Own.mk s.sub nd (Paired.append q3 w3))⟩
theorem ev_rep {xs zs : List α} {k : Int} (h : repO xs k = some zs) (ha : EvX X a σ H G xs) (hb : EvX X b σ H G k) : EvN X (.BinOp a .Mult b pos) σ H G zs := by
  obtain ⟨h1, h2⟩ := dite_some h
  subst h2
  refine ev_opN op_rep ha hb fun v w H1 G1 s hv hw Q q => ?_
  obtain ⟨p, vs, q1, q2, q3⟩ := hv
  exact ⟨p, k, vs, q1, hw, s.sub _ _ q2, h1.1, h1.2.1, by rw [Paired.len q3]; exact line_le h1.2.2, fun d nd => q d _ G1 (Rc.new s.sub nd) nd (Own.mk s.sub nd (paired_rep q3 _))⟩

/-! ### calls -/
variable {τ : Type} [ArgsR τ]
theorem ea_nil : EvA X [] σ H G () := fun H1 G1 s Q k => toA pa_nil (k [] H1 G1 (Rc.refl s.sub) rfl)
theorem ea_cons {w : τ} (h : EvX X e σ H G x) (r : EvA X es σ H G w) (hs : starEach (e :: es) X.env = (false, eval e X.env) :: starEach es X.env := by rfl) : EvA X (e :: es) σ H G (x, w) := fun H1 G1 s Q k =>
  toA (pa_cons pe_wp pa_wp hs) (show wpE X e σ H1 _ from h H1 G1 s _ fun v H2 G2 s2 r2 => r H2 G2 (s.trans s2) _ fun vs H3 G3 s3 r3 => k _ H3 G3 (s2.trans s3) ⟨v, vs, rfl, Rep.mono s3.ex r2, r3⟩)
/-- a built-in's call -/
theorem ev_bi {id : String} {r : List V → Hp → VK → Prop} {nm : Str} {p : Pos} {w : τ} (hc : CallR X (.builtin id) r) (hm : X.mg nm = none) (hv : bootBuiltins nm = some (.builtin id)) (ha : EvA X (e :: es) σ H G w)
    (hz : ∀ vs H1 G1, Rc [] H G H1 G1 → ArgsR.rel X.K G1 vs w → ∀ Q : VK, (∀ u H2 G2, Rc [] H1 G1 H2 G2 → Rep.rel X.K G2 u z → Q u H2) → r vs H1 Q) (hg : Gl X nm := by rfl) (hn : nm ≠ "__name__" := by decide) (hdb : (nm == ("__debug__" : Str)) = false := by decide)
    (he : starEach (e :: es) X.env = (false, eval e X.env) :: starEach es X.env := by rfl) (hpl : (backTo pos (starEach es X.env)).any (·.1) = false := by rfl) : EvX X (.Call (.Name nm p) (e :: es) [] pos) σ H G z := fun H1 G1 s Q k =>
  toE (pe_callB hc hg hm hv pa_wp hn hdb he hpl) (show wpA X (e :: es) σ H1 _ from ha H1 G1 s _ fun vs H2 G2 s2 r2 => hz vs H2 G2 (s.trans s2) r2 Q fun u H3 G3 s3 r3 => k u H3 G3 (s2.trans s3) r3)
theorem ev_biN {id : String} {r : List V → Hp → VK → Prop} {nm : Str} {p : Pos} {w : τ} {zs : List γ} (hc : CallR X (.builtin id) r) (hm : X.mg nm = none) (hv : bootBuiltins nm = some (.builtin id)) (ha : EvA X (e :: es) σ H G w)
    (hz : ∀ vs H1 G1, Rc [] H G H1 G1 → ArgsR.rel X.K G1 vs w → ∀ Q : VK, (∀ p H2 G2, Rc [] H1 G1 H2 G2 → H1 p = none → Own X.K H2 G2 p zs → Q (.ref p) H2) → r vs H1 Q) (hg : Gl X nm := by rfl) (hn : nm ≠ "__name__" := by decide) (hdb : (nm == ("__debug__" : Str)) = false := by decide)
    (he : starEach (e :: es) X.env = (false, eval e X.env) :: starEach es X.env := by rfl) (hpl : (backTo pos (starEach es X.env)).any (·.1) = false := by rfl) : EvN X (.Call (.Name nm p) (e :: es) [] pos) σ H G zs := fun H1 G1 s Q k =>
  toE (pe_callB hc hg hm hv pa_wp hn hdb he hpl) (show wpA X (e :: es) σ H1 _ from ha H1 G1 s _ fun vs H2 G2 s2 r2 => hz vs H2 G2 (s.trans s2) r2 Q fun u H3 G3 s3 n3 r3 => k u H3 G3 (s2.trans s3) (none_back s2.exH n3) r3)
/-- a built-in class called -/
theorem ev_ty {id : String} {r : List V → Hp → VK → Prop} {nm : Str} {p : Pos} {w : τ} (hc : CallR X (.type id) r) (hm : X.mg nm = none) (hv : bootBuiltins nm = some (.type id)) (ha : EvA X (e :: es) σ H G w)
    (hz : ∀ vs H1 G1, Rc [] H G H1 G1 → ArgsR.rel X.K G1 vs w → ∀ Q : VK, (∀ u H2 G2, Rc [] H1 G1 H2 G2 → Rep.rel X.K G2 u z → Q u H2) → r vs H1 Q) (hg : Gl X nm := by rfl) (hn : nm ≠ "__name__" := by decide) (hdb : (nm == ("__debug__" : Str)) = false := by decide)
    (he : starEach (e :: es) X.env = (false, eval e X.env) :: starEach es X.env := by rfl) (hpl : (backTo pos (starEach es X.env)).any (·.1) = false := by rfl) : EvX X (.Call (.Name nm p) (e :: es) [] pos) σ H G z := fun H1 G1 s Q k =>
  toE (pe_callTy hc hg hm hv pa_wp hn hdb he hpl) (show wpA X (e :: es) σ H1 _ from ha H1 G1 s _ fun vs H2 G2 s2 r2 => hz vs H2 G2 (s.trans s2) r2 Q fun u H3 G3 s3 r3 => k u H3 G3 (s2.trans s3) r3)
theorem ev_tyN {id : String} {r : List V → Hp → VK → Prop} {nm : Str} {p : Pos} {w : τ} {zs : List γ} (hc : CallR X (.type id) r) (hm : X.mg nm = none) (hv : bootBuiltins nm = some (.type id)) (ha : EvA X (e :: es) σ H G w)
    (hz : ∀ vs H1 G1, Rc [] H G H1 G1 → ArgsR.rel X.K G1 vs w → ∀ Q : VK, (∀ p H2 G2, Rc [] H1 G1 H2 G2 → H1 p = none → Own X.K H2 G2 p zs → Q (.ref p) H2) → r vs H1 Q) (hg : Gl X nm := by rfl) (hn : nm ≠ "__name__" := by decide) (hdb : (nm == ("__debug__" : Str)) = false := by decide)
    (he : starEach (e :: es) X.env = (false, eval e X.env) :: starEach es X.env := by rfl) (hpl : (backTo pos (starEach es X.env)).any (·.1) = false := by rfl) : EvN X (.Call (.Name nm p) (e :: es) [] pos) σ H G zs := fun H1 G1 s Q k =>
  toE (pe_callTy hc hg hm hv pa_wp hn hdb he hpl) (show wpA X (e :: es) σ H1 _ from ha H1 G1 s _ fun vs H2 G2 s2 r2 => hz vs H2 G2 (s.trans s2) r2 Q fun u H3 G3 s3 n3 r3 => k u H3 G3 (s2.trans s3) (none_back s2.exH n3) r3)
theorem args1 {K : PySem.W.Frag} {vs : List V} (h : ArgsR.rel K G vs (x, ())) : ∃ v, vs = [v] ∧ Rep.rel K G v x := by
  obtain ⟨v, r, h1, h2, h3⟩ := h
  exact ⟨v, by rw [h1, show r = [] from h3], h2⟩
theorem args2 {K : PySem.W.Frag} {vs : List V} (h : ArgsR.rel K G vs (x, y, ())) : ∃ v w, vs = [v, w] ∧ Rep.rel K G v x ∧ Rep.rel K G w y := by
  obtain ⟨v, r, h1, h2, h3⟩ := h
  obtain ⟨w, q1, q2⟩ := args1 h3
  exact ⟨v, w, by rw [h1, q1], h2, q2⟩
variable {p : Pos}
theorem ev_len {xs : List α} (hm : X.mg "len" = none) (ha : EvX X a σ H G xs) (hg : Gl X "len" := by rfl) (he : starEach [a] X.env = (false, eval a X.env) :: starEach [] X.env := by rfl) : EvX X (.Call (.Name "len" p) [a] [] pos) σ H G (xs.length : Int) :=
  ev_bi call_len_seq hm PySem.boot_len (ea_cons ha ea_nil he) (fun vs H1 G1 s r Q k => by
    obtain ⟨v, rfl, d, ws, q1, q2, q3⟩ := args1 r
    exact ⟨d, ws, by rw [q1], .inl (.inl (.inl (s.sub _ _ q2))), k _ H1 G1 (Rc.refl s.sub) (by rw [Paired.len q3]; rfl)⟩) hg (by decide) (by decide) he
theorem ev_lenS {xs : Scr} (hm : X.mg "len" = none) (ha : EvX X a σ H G xs) (hg : Gl X "len" := by rfl) (he : starEach [a] X.env = (false, eval a X.env) :: starEach [] X.env := by rfl) : EvX X (.Call (.Name "len" p) [a] [] pos) σ H G (xs.l.length : Int) :=
  ev_bi call_len_seq hm PySem.boot_len (ea_cons ha ea_nil he) (fun vs H1 G1 s r Q k => by
    obtain ⟨v, rfl, d, q1, q2⟩ := args1 r
    exact ⟨d, _, by rw [q1], .inl (sql_mono s.sub q2), k _ H1 G1 (Rc.refl s.sub) (by rw [List.length_map]; rfl)⟩) hg (by decide) (by decide) he
theorem ev_max2 {i j : Int} (hc : X.calm = true) (hm : X.mg "max" = none) (ha : EvX X a σ H G i) (hb : EvX X b σ H G j) (hg : Gl X "max" := by rfl) (he : starEach [a, b] X.env = (false, eval a X.env) :: starEach [b] X.env := by rfl) (he2 : starEach [b] X.env = (false, eval b X.env) :: starEach [] X.env := by rfl)
    (hpl : (backTo pos (starEach [b] X.env)).any (·.1) = false := by rfl) : EvX X (.Call (.Name "max" p) [a, b] [] pos) σ H G (max i j) :=
  ev_bi (call_max2 hc) hm (by decide +kernel) (ea_cons ha (ea_cons hb ea_nil he2) he) (fun vs H1 G1 s r Q k => by
    obtain ⟨v, w, rfl, q1, q2⟩ := args2 r
    exact ⟨i, j, by rw [show v = V.int i from q1, show w = V.int j from q2], k _ H1 G1 (Rc.refl s.sub) (show V.int _ = V.int _ by congr 1; rw [Int.max_def]; split <;> split <;> omega)⟩) hg (by decide) (by decide) he hpl
theorem ev_min2 {i j : Int} (hc : X.calm = true) (hm : X.mg "min" = none) (ha : EvX X a σ H G i) (hb : EvX X b σ H G j) (hg : Gl X "min" := by rfl) (he : starEach [a, b] X.env = (false, eval a X.env) :: starEach [b] X.env := by rfl) (he2 : starEach [b] X.env = (false, eval b X.env) :: starEach [] X.env := by rfl)
    (hpl : (backTo pos (starEach [b] X.env)).any (·.1) = false := by rfl) : EvX X (.Call (.Name "min" p) [a, b] [] pos) σ H G (min i j) :=
  ev_bi (call_min2 hc) hm (by decide +kernel) (ea_cons ha (ea_cons hb ea_nil he2) he) (fun vs H1 G1 s r Q k => by
    obtain ⟨v, w, rfl, q1, q2⟩ := args2 r
    exact ⟨i, j, by rw [show v = V.int i from q1, show w = V.int j from q2], k _ H1 G1 (Rc.refl s.sub) (show V.int _ = V.int _ by congr 1; rw [Int.min_def]; split <;> split <;> omega)⟩) hg (by decide) (by decide) he hpl
/-- int of a truth value -/
theorem ev_intB (hm : X.mg "int" = none) (ha : EvX X a σ H G t) (hg : Gl X "int" := by rfl) (he : starEach [a] X.env = (false, eval a X.env) :: starEach [] X.env := by rfl) : EvX X (.Call (.Name "int" p) [a] [] pos) σ H G (if t then 1 else 0 : Int) :=
  ev_ty call_int1 hm (by decide +kernel) (ea_cons ha ea_nil he) (fun vs H1 G1 s r Q k => by
    obtain ⟨v, rfl, q1⟩ := args1 r
    exact .inr ⟨t, by rw [show v = V.bl t from q1], k _ H1 G1 (Rc.refl s.sub) rfl⟩) hg (by decide) (by decide) he
/-- the greatest, the least -/
def maxO : List Int → Option Int
  | [] => none
  | x :: r => some (r.foldl max x)
def minO : List Int → Option Int
  | [] => none
  | x :: r => some (r.foldl min x)
theorem foldl_max_le {m : Int} : ∀ (r : List Int) (x : Int), x ≤ m → (∀ y ∈ r, y ≤ m) → r.foldl max x ≤ m
  | [], _, h, _ => h
  | y :: r, x, h, k => foldl_max_le r (max x y) (by have := k y List.mem_cons_self; omega) fun z hz => k z (List.mem_cons_of_mem _ hz)
theorem le_foldl_max : ∀ (r : List Int) (x y : Int), (y = x ∨ y ∈ r) → y ≤ r.foldl max x
  | [], x, y, h => by
    rcases h with h | h
    · exact Int.le_of_eq h
    · cases h
  | z :: r, x, y, h => by
    show y ≤ r.foldl max (max x z)
    rcases h with h | h
    · exact Int.le_trans (by omega) (le_foldl_max r (max x z) (max x z) (.inl rfl))
    · rcases List.mem_cons.mp h with h | h
      · exact Int.le_trans (by omega) (le_foldl_max r (max x z) (max x z) (.inl rfl))
      · exact le_foldl_max r (max x z) y (.inr h)
theorem le_foldl_min {m : Int} : ∀ (r : List Int) (x : Int), m ≤ x → (∀ y ∈ r, m ≤ y) → m ≤ r.foldl min x
  | [], _, h, _ => h
  | y :: r, x, h, k => le_foldl_min r (min x y) (by have := k y List.mem_cons_self; omega) fun z hz => k z (List.mem_cons_of_mem _ hz)
theorem foldl_min_le : ∀ (r : List Int) (x y : Int), (y = x ∨ y ∈ r) → r.foldl min x ≤ y
  | [], x, y, h => by
    rcases h with h | h
    · exact Int.le_of_eq h.symm
    · cases h
  | z :: r, x, y, h => by
    show r.foldl min (min x z) ≤ y
    rcases h with h | h
    · exact Int.le_trans (foldl_min_le r (min x z) (min x z) (.inl rfl)) (by omega)
    · rcases List.mem_cons.mp h with h | h
      · exact Int.le_trans (foldl_min_le r (min x z) (min x z) (.inl rfl)) (by omega)
      · exact foldl_min_le r (min x z) y (.inr h)
theorem maxO_is {xs : List Int} {m n : Int} (h : maxO xs = some m) (h1 : n ∈ xs) (h2 : ∀ y ∈ xs, y ≤ n) : n = m := by
  cases xs with
  | nil => cases h
  | cons x r =>
    have e : r.foldl max x = m := Option.some.inj h
    subst e
    have k1 := le_foldl_max r x n (List.mem_cons.mp h1)
    have k2 := foldl_max_le r x (h2 x List.mem_cons_self) fun z hz => h2 z (List.mem_cons_of_mem _ hz)
    omega
theorem minO_is {xs : List Int} {m n : Int} (h : minO xs = some m) (h1 : n ∈ xs) (h2 : ∀ y ∈ xs, n ≤ y) : n = m := by
  cases xs with
  | nil => cases h
  | cons x r =>
    have e : r.foldl min x = m := Option.some.inj h
    subst e
    have k1 := foldl_min_le r x n (List.mem_cons.mp h1)
    have k2 := le_foldl_min r x (h2 x List.mem_cons_self) fun z hz => h2 z (List.mem_cons_of_mem _ hz)
    omega
theorem ev_maxL {xs : List Int} {m : Int} (hc : X.calm = true) (hm : X.mg "max" = none) (h : maxO xs = some m) (ha : EvX X a σ H G xs) (hg : Gl X "max" := by rfl) (he : starEach [a] X.env = (false, eval a X.env) :: starEach [] X.env := by rfl) : EvX X (.Call (.Name "max" p) [a] [] pos) σ H G m :=
  ev_bi (cr_max hc) hm (by decide +kernel) (ea_cons ha ea_nil he) (fun vs H1 G1 s r Q k => by
    obtain ⟨v, rfl, d, ws, q1, q2, q3⟩ := args1 r
    rw [rels_int q3] at q2
    exact ⟨d, xs, by rw [q1], .inl (.inl (s.sub _ _ q2)), by cases xs with | nil => cases h | cons x r => exact Nat.succ_pos _, fun n h1 h2 => k _ H1 G1 (Rc.refl s.sub) (by rw [maxO_is h h1 h2]; rfl)⟩) hg (by decide) (by decide) he
theorem ev_minL {xs : List Int} {m : Int} (hc : X.calm = true) (hm : X.mg "min" = none) (h : minO xs = some m) (ha : EvX X a σ H G xs) (hg : Gl X "min" := by rfl) (he : starEach [a] X.env = (false, eval a X.env) :: starEach [] X.env := by rfl) : EvX X (.Call (.Name "min" p) [a] [] pos) σ H G m :=
  ev_bi (cr_min hc) hm (by decide +kernel) (ea_cons ha ea_nil he) (fun vs H1 G1 s r Q k => by
    obtain ⟨v, rfl, d, ws, q1, q2, q3⟩ := args1 r
    rw [rels_int q3] at q2
    exact ⟨d, xs, by rw [q1], .inl (.inl (s.sub _ _ q2)), by cases xs with | nil => cases h | cons x r => exact Nat.succ_pos _, fun n h1 h2 => k _ H1 G1 (Rc.refl s.sub) (by rw [minO_is h h1 h2]; rfl)⟩) hg (by decide) (by decide) he
theorem ev_sum {xs : List Int} (hc : X.calm = true) (hm : X.mg "sum" = none) (ha : EvX X a σ H G xs) (hg : Gl X "sum" := by rfl) (he : starEach [a] X.env = (false, eval a X.env) :: starEach [] X.env := by rfl) : EvX X (.Call (.Name "sum" p) [a] [] pos) σ H G xs.sum :=
  ev_bi (cr_sum hc) hm (by decide +kernel) (ea_cons ha ea_nil he) (fun vs H1 G1 s r Q k => by
    obtain ⟨v, rfl, d, ws, q1, q2, q3⟩ := args1 r
    rw [rels_int q3] at q2
    exact ⟨d, xs, by rw [q1], .inl (.inl (s.sub _ _ q2)), k _ H1 G1 (Rc.refl s.sub) rfl⟩) hg (by decide) (by decide) he
theorem ev_all {xs : List Bool} (hc : X.calm = true) (hm : X.mg "all" = none) (ha : EvX X a σ H G xs) (hg : Gl X "all" := by rfl) (he : starEach [a] X.env = (false, eval a X.env) :: starEach [] X.env := by rfl) : EvX X (.Call (.Name "all" p) [a] [] pos) σ H G (xs.all id) :=
  ev_bi (cr_all hc) hm (by decide +kernel) (ea_cons ha ea_nil he) (fun vs H1 G1 s r Q k => by
    obtain ⟨v, rfl, d, ws, q1, q2, q3⟩ := args1 r
    rw [rels_bl q3] at q2
    exact ⟨d, xs, by rw [q1], .inl (.inl (s.sub _ _ q2)), k _ H1 G1 (Rc.refl s.sub) rfl⟩) hg (by decide) (by decide) he
theorem rgV_rng (a b : Int) : rgV a b = (rng a b).map .int := by
  unfold rgV rng
  rw [List.map_map]
  rfl
theorem rngO_ok {a b : Int} {xs : List Int} (h : rngO a b = some xs) : RgOk a b ∧ xs = rng a b := by
  obtain ⟨h1, h2⟩ := dite_some h
  refine ⟨?_, h2.symm⟩
  have e : (line : Int) = 16000000 := rfl
  have e2 : line = 16000000 := rfl
  obtain ⟨q1, q2, q3, q4, q5⟩ := h1
  exact ⟨by omega, by omega, by omega, by omega, by omega⟩
theorem ev_listRng1 {j : Int} {xs : List Int} {pr p3 : Pos} (hc : X.calm = true) (hm : X.mg "list" = none) (hr : X.mg "range" = none) (h : rngO 0 j = some xs) (ha : EvX X a σ H G j) (hg : Gl X "list" := by rfl) (hg2 : Gl X "range" := by rfl) (hs : starEach [a] X.env = (false, eval a X.env) :: starEach [] X.env := by rfl)
    (hs2 : starEach [.Call (.Name "range" pr) [a] [] p3] X.env = (false, eval (.Call (.Name "range" pr) [a] [] p3) X.env) :: starEach [] X.env := by rfl) : EvN X (.Call (.Name "list" p) [.Call (.Name "range" pr) [a] [] p3] [] pos) σ H G xs := fun H1 G1 s Q k => by
  obtain ⟨h1, rfl⟩ := rngO_ok h
  exact toE (pe_listRg hc hg hm (prg_1 hg2 hr pe_wp hs) hs2) (show wpE X a σ H1 _ from ha H1 G1 s _ fun v H2 G2 s2 r2 => ⟨j, r2, h1, fun d nd => k d _ G2 (s2.trans (Rc.new s2.sub nd)) (none_back s2.exH nd) (Own.mk s2.sub nd (by rw [rgV_rng]; exact rels_of_int _))⟩)
/-- list of a list -/
theorem ev_list {xs : List α} (hm : X.mg "list" = none) (ha : EvX X a σ H G xs) (hg : Gl X "list" := by rfl) (he : starEach [a] X.env = (false, eval a X.env) :: starEach [] X.env := by rfl) : EvN X (.Call (.Name "list" p) [a] [] pos) σ H G xs :=
  ev_tyN call_list_of hm (by decide +kernel) (ea_cons ha ea_nil he) (fun vs H1 G1 s r Q k => by
    obtain ⟨v, rfl, d, ws, q1, q2, q3⟩ := args1 r
    exact ⟨d, ws, by rw [q1], .inl (.inl (.inl (s.sub _ _ q2))), fun l nl => k l _ G1 (Rc.new s.sub nl) nl (Own.mk s.sub nl q3)⟩) hg (by decide) (by decide) he
end
end PX

/-! PXd: promises, walks, comprehensions, statements. -/
namespace PX
open PySem L2

/-- behind an expression every list that is tracked has a length that Python allows -/
theorem wpE_post {X : Cx} {σ : L2.St} {H : Hp} {e : Expr} {Q : VK} (h : wpE X e σ H fun v H1 => (∀ a vs, H1 a = some (.lst vs) → vs.length ≤ sizeLine) → Q v H1) : wpE X e σ H Q := fun pins s I =>
  thn (h pins s I) fun _ _ ⟨v, H', I', r, q⟩ => ⟨v, H', I', r, q fun a _ e => (I'.hok a _ e).1⟩

/-! ### promises -/
section
variable {α γ τ : Type} [Rep α] [Rep γ] [ArgsR τ]
/-- a value of the arguments; nothing changes -/
def spV (f : τ → Option γ) (K : PySem.W.Frag) : Sp := fun vs H Q _ => ∃ G w r, Ex G H ∧ ArgsR.rel K G vs w ∧ f w = some r ∧ ∀ v H2 G2, Rc [] H G H2 G2 → Rep.rel K G2 v r → Q v H2
/-- a new list -/
def spN (f : τ → Option (List γ)) (K : PySem.W.Frag) : Sp := fun vs H Q _ => ∃ G w r, Ex G H ∧ ArgsR.rel K G vs w ∧ f w = some r ∧ ∀ p H2 G2, Rc [] H G H2 G2 → H p = none → Own K H2 G2 p r → Q (.ref p) H2
/-- the first argument, a list, changes -/
def spM (f : List α → τ → Option (γ × List α)) (K : PySem.W.Frag) : Sp := fun vs H Q _ => ∃ G a us pot w r pot', vs = .ref a :: us ∧ Ex G H ∧ Own K H G a pot ∧ ArgsR.rel K G us w ∧ f pot w = some (r, pot') ∧
  ∀ v H2 G2, Rc [a] H G H2 G2 → Own K H2 G2 a pot' → Rep.rel K G2 v r → Q v H2
def spMN (f : List α → τ → Option (List γ × List α)) (K : PySem.W.Frag) : Sp := fun vs H Q _ => ∃ G a us pot w r pot', vs = .ref a :: us ∧ Ex G H ∧ Own K H G a pot ∧ ArgsR.rel K G us w ∧ f pot w = some (r, pot') ∧
  ∀ p H2 G2, Rc [a] H G H2 G2 → H p = none → Own K H2 G2 a pot' → Own K H2 G2 p r → Q (.ref p) H2
theorem lenV {f : τ → Option γ} {K : PySem.W.Frag} {n : Nat} (h : ArgsR.n τ = n) : ∀ vs H Q E, spV f K vs H Q E → vs.length = n := fun vs H Q E ⟨_, _, _, _, q, _⟩ => by rw [ArgsR.len q, h]
theorem lenN {f : τ → Option (List γ)} {K : PySem.W.Frag} {n : Nat} (h : ArgsR.n τ = n) : ∀ vs H Q E, spN f K vs H Q E → vs.length = n := fun vs H Q E ⟨_, _, _, _, q, _⟩ => by rw [ArgsR.len q, h]
theorem lenM {f : List α → τ → Option (γ × List α)} {K : PySem.W.Frag} {n : Nat} (h : ArgsR.n τ + 1 = n) : ∀ vs H Q E, spM f K vs H Q E → vs.length = n := fun vs H Q E ⟨_, _, _, _, _, _, _, e, _, _, q, _⟩ => by rw [e, List.length_cons, ArgsR.len q, h]
theorem lenMN {f : List α → τ → Option (List γ × List α)} {K : PySem.W.Frag} {n : Nat} (h : ArgsR.n τ + 1 = n) : ∀ vs H Q E, spMN f K vs H Q E → vs.length = n := fun vs H Q E ⟨_, _, _, _, _, _, _, e, _, _, q, _⟩ => by rw [e, List.length_cons, ArgsR.len q, h]
end
section
variable {X : Cx} {σ : L2.St} {H G : Hp} {α β γ τ : Type} [Rep α] [Rep β] [Rep γ] [ArgsR τ] {a b c e tg iter elt : Expr} {es rest : List Expr} {pos p2 p : Pos} {x : α} {y : β} {z : γ} {t u : Bool} {w : τ}
  {k : Nat} {f : Addr} {fd : FuncData} {ps : List Str} {nm : Str}
theorem ev_call {fn : τ → Option γ} {r : γ} (F : FnG X.prog X.w X.K X.mg X.base CX0 k f fd ps (spV fn X.K)) (hG : X.A.guards = some []) (hr : Room k X.A) (hm : X.mg nm = some (.ref f)) (hk : PySem.W.keepIn X.K (.ref f) = true) (hb : Binds X.K fd ps []) (h : fn w = some r) (ha : EvA X (e :: es) σ H G w)
    (hg : Gl X nm := by rfl) (hdb : (nm == ("__debug__" : Str)) = false := by decide) (he : starEach (e :: es) X.env = (false, eval e X.env) :: starEach es X.env := by rfl) (hpl : (backTo pos (starEach es X.env)).any (·.1) = false := by rfl) : EvX X (.Call (.Name nm p) (e :: es) [] pos) σ H G r := fun H1 G1 s Q q =>
  toE (pe_callG F hG hr hg hm hk hb pass0 pa_wp hdb he hpl) (show wpA X (e :: es) σ H1 _ from ha H1 G1 s _ fun vs H2 G2 s2 r2 => ⟨G2, w, r, s2.sub, r2, h, fun v H3 G3 s3 r3 => q v H3 G3 (s2.trans s3) r3⟩)
theorem ev_callN {fn : τ → Option (List γ)} {r : List γ} (F : FnG X.prog X.w X.K X.mg X.base CX0 k f fd ps (spN fn X.K)) (hG : X.A.guards = some []) (hr : Room k X.A) (hm : X.mg nm = some (.ref f)) (hk : PySem.W.keepIn X.K (.ref f) = true) (hb : Binds X.K fd ps []) (h : fn w = some r) (ha : EvA X (e :: es) σ H G w)
    (hg : Gl X nm := by rfl) (hdb : (nm == ("__debug__" : Str)) = false := by decide) (he : starEach (e :: es) X.env = (false, eval e X.env) :: starEach es X.env := by rfl) (hpl : (backTo pos (starEach es X.env)).any (·.1) = false := by rfl) : EvN X (.Call (.Name nm p) (e :: es) [] pos) σ H G r := fun H1 G1 s Q q =>
  toE (pe_callG F hG hr hg hm hk hb pass0 pa_wp hdb he hpl) (show wpA X (e :: es) σ H1 _ from ha H1 G1 s _ fun vs H2 G2 s2 r2 => ⟨G2, w, r, s2.sub, r2, h, fun d H3 G3 s3 n3 o3 => q d H3 G3 (s2.trans s3) (none_back s2.exH n3) o3⟩)
/-- a call, its promise to be shown behind the arguments -/
theorem wp_call {sp : Sp} {Q : VK} (F : FnG X.prog X.w X.K X.mg X.base CX0 k f fd ps sp) (hG : X.A.guards = some []) (hr : Room k X.A) (hm : X.mg nm = some (.ref f)) (hk : PySem.W.keepIn X.K (.ref f) = true) (hb : Binds X.K fd ps []) (h : wpA X (e :: es) σ H fun vs H1 => sp vs H1 Q E0)
    (hg : Gl X nm := by rfl) (hdb : (nm == ("__debug__" : Str)) = false := by decide) (he : starEach (e :: es) X.env = (false, eval e X.env) :: starEach es X.env := by rfl) (hpl : (backTo pos (starEach es X.env)).any (·.1) = false := by rfl) : wpE X (.Call (.Name nm p) (e :: es) [] pos) σ H Q :=
  toE (pe_callG F hG hr hg hm hk hb pass0 pa_wp hdb he hpl) h
theorem wpA_nil {Q : List V → Hp → Prop} (h : Q [] H) : wpA X [] σ H Q := toA pa_nil h
theorem wpA_cons {Q : List V → Hp → Prop} (h : wpE X e σ H fun v H1 => wpA X es σ H1 fun vs H2 => Q (v :: vs) H2) (hs : starEach (e :: es) X.env = (false, eval e X.env) :: starEach es X.env := by rfl) : wpA X (e :: es) σ H Q := toA (pa_cons pe_wp pa_wp hs) h
theorem wp_var {i : Nat} {v : V} {Q : VK} (hs : σ[i]? = some (some v)) (h : Q v H) (hN : X.N[i]? = some nm := by rfl) (hv : Vis X.env.scope nm := by first | exact Or.inl rfl | exact Or.inr (Or.inl rfl) | exact Or.inr (Or.inr rfl))
    (hd : (nm == ("__debug__" : Str)) = false := by decide) (hcd : (nm == ("__classdict__" : Str)) = false := by decide) : wpE X (.Name nm pos) σ H Q := toE (pv i hN hv hd hcd) ⟨v, hs, h⟩
theorem EvA.go {Q : List V → Hp → Prop} (h : EvA X es σ H G w) (g : Ex G H) (q : ∀ vs H2 G2, Rc [] H G H2 G2 → ArgsR.rel X.K G2 vs w → Q vs H2) : wpA X es σ H Q := h H G (Rc.refl g) Q q
/-- a call that changes the list at its first argument, a name -/
theorem wp_callM {fn : List α → τ → Option (γ × List α)} {i : Nat} {d : Addr} {pot pot' : List α} {r : γ} {n0 : Str} {q0 : Pos} {Q : VK} (F : FnG X.prog X.w X.K X.mg X.base CX0 k f fd ps (spM fn X.K)) (hG : X.A.guards = some []) (hr : Room k X.A) (hm : X.mg nm = some (.ref f)) (hk : PySem.W.keepIn X.K (.ref f) = true) (hb : Binds X.K fd ps [])
    (hs : σ[i]? = some (some (.ref d))) (ha : EvA X es σ H G w) (g : Ex G H) (o : Own X.K H G d pot) (h : fn pot w = some (r, pot')) (q : ∀ v H2 G2, Rc [d] H G H2 G2 → Own X.K H2 G2 d pot' → Rep.rel X.K G2 v r → Q v H2)
    (hN : X.N[i]? = some n0 := by rfl) (hv : Vis X.env.scope n0 := by first | exact Or.inl rfl | exact Or.inr (Or.inl rfl) | exact Or.inr (Or.inr rfl)) (hd : (n0 == ("__debug__" : Str)) = false := by decide) (hcd : (n0 == ("__classdict__" : Str)) = false := by decide)
    (hg : Gl X nm := by rfl) (hdb : (nm == ("__debug__" : Str)) = false := by decide) (he : starEach (.Name n0 q0 :: es) X.env = (false, eval (.Name n0 q0) X.env) :: starEach es X.env := by rfl) (hpl : (backTo pos (starEach es X.env)).any (·.1) = false := by rfl) : wpE X (.Call (.Name nm p) (.Name n0 q0 :: es) [] pos) σ H Q := by
  refine wp_call F hG hr hm hk hb (wpA_cons (wp_var hs ?_ hN hv hd hcd) he) hg hdb he hpl
  exact ha.go g fun vs H2 G2 s2 r2 => ⟨G2, d, vs, pot, w, r, pot', rfl, s2.sub, o.step0 s2, r2, h, fun v H3 G3 s3 o3 r3 => q v H3 G3 (s2.any.trans s3) o3 r3⟩
theorem wp_callMN {fn : List α → τ → Option (List γ × List α)} {i : Nat} {d : Addr} {pot pot' : List α} {r : List γ} {n0 : Str} {q0 : Pos} {Q : VK} (F : FnG X.prog X.w X.K X.mg X.base CX0 k f fd ps (spMN fn X.K)) (hG : X.A.guards = some []) (hr : Room k X.A) (hm : X.mg nm = some (.ref f)) (hk : PySem.W.keepIn X.K (.ref f) = true) (hb : Binds X.K fd ps [])
    (hs : σ[i]? = some (some (.ref d))) (ha : EvA X es σ H G w) (g : Ex G H) (o : Own X.K H G d pot) (h : fn pot w = some (r, pot')) (q : ∀ l H2 G2, Rc [d] H G H2 G2 → H l = none → Own X.K H2 G2 d pot' → Own X.K H2 G2 l r → Q (.ref l) H2)
    (hN : X.N[i]? = some n0 := by rfl) (hv : Vis X.env.scope n0 := by first | exact Or.inl rfl | exact Or.inr (Or.inl rfl) | exact Or.inr (Or.inr rfl)) (hd : (n0 == ("__debug__" : Str)) = false := by decide) (hcd : (n0 == ("__classdict__" : Str)) = false := by decide)
    (hg : Gl X nm := by rfl) (hdb : (nm == ("__debug__" : Str)) = false := by decide) (he : starEach (.Name n0 q0 :: es) X.env = (false, eval (.Name n0 q0) X.env) :: starEach es X.env := by rfl) (hpl : (backTo pos (starEach es X.env)).any (·.1) = false := by rfl) : wpE X (.Call (.Name nm p) (.Name n0 q0 :: es) [] pos) σ H Q := by
  refine wp_call F hG hr hm hk hb (wpA_cons (wp_var hs ?_ hN hv hd hcd) he) hg hdb he hpl
  exact ha.go g fun vs H2 G2 s2 r2 => ⟨G2, d, vs, pot, w, r, pot', rfl, s2.sub, o.step0 s2, r2, h, fun l H3 G3 s3 n3 o3 r3 => q l H3 G3 (s2.any.trans s3) (none_back s2.exH n3) o3 r3⟩
/-- an operator, its parts to be run one by one -/
theorem wp_op {op : Operator} {r : R2} {Q : VK} (ho : OpR X (binaryOp op) r) (h : wpE X a σ H fun v H1 => wpE X b σ H1 fun w H2 => r v w H2 Q) : wpE X (.BinOp a op b pos) σ H Q := toE (pe_op ho pe_wp pe_wp) h
theorem wp_cmp {op : CmpOp} {r : R2} {Q : VK} (ho : OpR X (compareOp op) r) (hm : behindInMarks op b = false) (h : wpE X a σ H fun v H1 => wpE X b σ H1 fun w H2 => r v w H2 Q) : wpE X (.Compare a [op] [b] pos) σ H Q := toE (pe_cmpR ho pe_wp pe_wp hm) h
theorem wt_cmp {op : CmpOp} {r : R2} {Q : Bool → Hp → Prop} (ho : OpR X (compareOp op) r) (hm : behindInMarks op b = false) (h : wpE X a σ H fun v H1 => wpE X b σ H1 fun w H2 => r v w H2 fun z H3 => ∃ k, z = .bl k ∧ Q k H3) : wpT X (.Compare a [op] [b] pos) σ H Q := toT (pt_cmpR ho pe_wp pe_wp hm) h
theorem wt_val {Q : Bool → Hp → Prop} (h : wpE X e σ H fun v H1 => ∃ k, v = .bl k ∧ Q k H1) (he : ∀ whole, isTrue e X.env whole = (do let v ← whole; standAt e.pos; holding [v] (truthy v)) := by intro _; rfl) : wpT X e σ H Q := toT (pt_val pe_wp he) h
theorem wt_not {Q : Bool → Hp → Prop} (h : wpT X a σ H fun k H1 => Q (!k) H1) : wpT X (.UnaryOp .Not a pos) σ H Q := toT (pt_not pt_wp) h
theorem wt_w {Q : Bool → Hp → Prop} (h : wpW X e σ H Q) : wpT X e σ H Q := fun pins s I => h _ pins s I
theorem ww_and1 {Q : Bool → Hp → Prop} (h : wpT X a σ H Q) : wpW X (.BoolOp .And [a] pos) σ H Q := toW (pw_and1 pt_wp) h
theorem ww_or1 {Q : Bool → Hp → Prop} (h : wpT X a σ H Q) : wpW X (.BoolOp .Or [a] pos) σ H Q := toW (pw_or1 pt_wp) h
theorem ww_and {Q : Bool → Hp → Prop} (h : wpT X a σ H fun k H1 => if k = true then wpW X (.BoolOp .And (b :: rest) pos) σ H1 Q else Q false H1) : wpW X (.BoolOp .And (a :: b :: rest) pos) σ H Q := toW (pw_and pt_wp pw_wp) h
theorem ww_or {Q : Bool → Hp → Prop} (h : wpT X a σ H fun k H1 => if k = true then Q true H1 else wpW X (.BoolOp .Or (b :: rest) pos) σ H1 Q) : wpW X (.BoolOp .Or (a :: b :: rest) pos) σ H Q := toW (pw_or pt_wp pw_wp) h
theorem wp_if {Q : VK} (h : wpT X c σ H fun k H1 => if k = true then wpE X a σ H1 Q else wpE X b σ H1 Q) : wpE X (.IfExp c a b pos) σ H Q := toE (pe_ifExp pt_wp pe_wp pe_wp) h
theorem wp_lst {Q : VK} (h : wpA X es σ H fun vs H1 => vs.length ≤ sizeLine ∧ ∀ d, H1 d = none → Q (.ref d) (upd H1 d (.lst vs))) : wpE X (.List es pos) σ H Q := toE (pe_lst pa_wp) h
theorem wp_ix {Q : VK} (h : wpE X a σ H fun v H1 => wpE X b σ H1 fun w H2 => rIxL X.K v w H2 Q) (hs : PlainIx b := by exact fun _ _ => rfl) : wpE X (.Subscript a b pos) σ H Q := toE (pe_ix ix_list pe_wp pe_wp hs) h

/-! ### what a loop or a comprehension goes over -/
def wpI (X : Cx) (tg iter : Expr) : TI := fun σ H R => ∀ (pins : List (Addr × Obj)) (s : Shared), Inv X pins σ H s → wpAny (model X.prog X.w) X.A (eval iter X.env) (fun v s1 => wpAny (model X.prog X.w) X.A (pyIter v) (PIE X pins σ tg R) X.xe s1) X.xe s
theorem pi_wp : PI X tg iter (wpI X tg iter) := ⟨fun pins s σ H R I h => h pins s I⟩
theorem toI {wi : TI} {R : It → Hp → Prop} (h : PI X tg iter wi) (q : wi σ H R) : wpI X tg iter σ H R := fun pins s I => h.run pins s σ H R I q
/-- J goes over items; g stores one: u tells how the slots change -/
structure IsWalk {ι : Type} (g : TG) (J : It) (G : Hp) (items : List ι) (R : ι → Hp → (L2.St → L2.St) → Prop) : Prop where
  go : ∀ (i : Nat) (x : ι) (H' G' : Hp), items[i]? = some x → Ex G G' → Ex G' H' → J.go i H' ∧ ∀ v H'', J.yld i H' v H'' → ∀ (σ : L2.St) (Q : L2.St → Hp → Prop), (∀ u G'', Rc [] H' G' H'' G'' → R x G'' u → Q (u σ) H'') → g v σ H'' Q
  stop : ∀ H' G', Ex G G' → Ex G' H' → J.stop items.length H'
  len : items.length ≤ sizeLine
  mono : ∀ (x : ι) (G G' : Hp) (u : L2.St → L2.St), Ex G G' → R x G u → R x G' u
def EvI {ι : Type} (X : Cx) (tg iter : Expr) (g : TG) (σ : L2.St) (H G : Hp) (items : List ι) (R : ι → Hp → (L2.St → L2.St) → Prop) : Prop :=
  ∀ H1 G1, Rc [] H G H1 G1 → ∀ Rk : It → Hp → Prop, (∀ J H2 G2, Rc [] H1 G1 H2 G2 → IsWalk g J G2 items R → Rk J H2) → wpI X tg iter σ H1 Rk
/-- one name; two names of a pair -/
def rOne (K : PySem.W.Frag) (j : Nat) : α → Hp → (L2.St → L2.St) → Prop := fun x G u => ∃ v, Rep.rel K G v x ∧ u = fun σ => σ.set j (some v)
def rTwo (K : PySem.W.Frag) (i j : Nat) : α × β → Hp → (L2.St → L2.St) → Prop := fun x G u => ∃ v w, Rep.rel K G v x.1 ∧ Rep.rel K G w x.2 ∧ u = fun σ => (σ.set i (some v)).set j (some w)
theorem rOne_mono {K : PySem.W.Frag} {j : Nat} (x : α) (G G' : Hp) (u : L2.St → L2.St) (e : Ex G G') (h : rOne K j x G u) : rOne K j x G' u := by
  obtain ⟨v, h1, h2⟩ := h
  exact ⟨v, Rep.mono e h1, h2⟩
theorem rTwo_mono {K : PySem.W.Frag} {i j : Nat} (x : α × β) (G G' : Hp) (u : L2.St → L2.St) (e : Ex G G') (h : rTwo K i j x G u) : rTwo K i j x G' u := by
  obtain ⟨v, w, h1, h2, h3⟩ := h
  exact ⟨v, w, Rep.mono e h1, Rep.mono e h2, h3⟩
theorem ei_list {xs : List α} {j : Nat} (ha : EvX X a σ H G xs) : EvI X tg a (gName j) σ H G xs (rOne X.K j) := fun H1 G1 s Rk q =>
  toI (pi_list pe_wp) (show wpE X a σ H1 _ from wpE_post (ha H1 G1 s _ fun v H2 G2 s2 ⟨d, vs, q1, q2, q3⟩ hl => ⟨d, q1, ⟨vs, .inl (.inl (s2.sub _ _ q2))⟩, q _ H2 G2 s2 ⟨fun i x H' G' hx e1 e2 => by
    obtain ⟨v', k1, k2⟩ := Paired.get q3 hx
    have sq : SqL X.K H' d vs := .inl (.inl (e2 _ _ (e1 _ _ q2)))
    refine ⟨⟨vs, v', sq, k1⟩, fun w H'' ⟨eH, y⟩ σ' Q kk => ?_⟩
    subst eH
    have ew : w = v' := Option.some.inj ((y vs sq).symm.trans k1)
    subst ew
    exact kk (fun σ => σ.set j (some w)) G' (Rc.refl e2) ⟨w, Rep.mono e1 k2, rfl⟩, fun H' G' e1 e2 => ⟨vs, .inl (.inl (e2 _ _ (e1 _ _ q2))), by rw [Paired.len q3]; exact Nat.le_refl _⟩, by rw [← Paired.len q3]; exact hl _ _ (s2.sub _ _ q2), rOne_mono⟩⟩))
theorem ei_rng1 {n : Int} {j : Nat} {xs : List Int} (hm : X.mg "range" = none) (h : rngO 0 n = some xs) (ha : EvX X a σ H G n) (hg : Gl X "range" := by rfl) (hs : starEach [a] X.env = (false, eval a X.env) :: starEach [] X.env := by rfl) :
    EvI X tg (.Call (.Name "range" p) [a] [] pos) (gName j) σ H G xs (rOne X.K j) := fun H1 G1 s Rk q => by
  obtain ⟨⟨r1, r2, r3, r4, r5⟩, rfl⟩ := rngO_ok h
  refine toI (pi_range1 hg hm (pa_cons pe_wp pa_nil hs) hs) (show wpE X a σ H1 _ from ha H1 G1 s _ fun v H2 G2 s2 r => ⟨n, by rw [show v = V.int n from r], r3, r4, q _ H2 G2 s2 ⟨fun i x H' G' hx e1 e2 => ?_, fun H' G' e1 e2 => ?_, ?_, rOne_mono⟩⟩)
  · have hx2 := hx
    unfold rng at hx2
    rw [Int.sub_zero, List.getElem?_map] at hx2
    have hi : i < n.toNat := by
      have := (List.getElem?_eq_some_iff.mp hx).1
      unfold rng at this
      rw [List.length_map, List.length_range, Int.sub_zero] at this
      exact this
    rw [List.getElem?_range hi] at hx2
    have ex : (0 : Int) + (i : Nat) = x := Option.some.inj hx2
    refine ⟨hi, fun w H'' ⟨eH, ew⟩ σ' Q kk => ?_⟩
    subst eH
    subst ew
    exact kk (fun σ => σ.set j (some (.int (0 + (i : Nat))))) G' (Rc.refl e2) ⟨_, by rw [← ex]; rfl, rfl⟩
  · show n.toNat ≤ (rng 0 n).length
    unfold rng
    rw [List.length_map, List.length_range, Int.sub_zero]
    exact Nat.le_refl _
  · unfold rng
    rw [List.length_map, List.length_range]
    exact r5
theorem ei_rng2 {m n : Int} {j : Nat} {xs : List Int} (hm : X.mg "range" = none) (h : rngO m n = some xs) (ha : EvX X a σ H G m) (hb : EvX X b σ H G n) (hg : Gl X "range" := by rfl) (hs : starEach [a, b] X.env = (false, eval a X.env) :: starEach [b] X.env := by rfl) (hs2 : starEach [b] X.env = (false, eval b X.env) :: starEach [] X.env := by rfl)
    (hpl : (backTo pos (starEach [b] X.env)).any (·.1) = false := by rfl) :
    EvI X tg (.Call (.Name "range" p) [a, b] [] pos) (gName j) σ H G xs (rOne X.K j) := fun H1 G1 s Rk q => by
  obtain ⟨⟨r1, r2, r3, r4, r5⟩, rfl⟩ := rngO_ok h
  refine toI (pi_range2 hg hm (pa_cons pe_wp (pa_cons pe_wp pa_nil hs2) hs) (hs.trans (congrArg _ hs2)) hs2) (show wpE X a σ H1 _ from ha H1 G1 s _ fun v H2 G2 s2 r => hb H2 G2 (s.trans s2) _ fun w H3 G3 s3 r' => ⟨m, n, by rw [show v = V.int m from r, show w = V.int n from r'], ⟨r1, r2, r3, r4⟩, q _ H3 G3 (s2.trans s3) ⟨fun i x H' G' hx e1 e2 => ?_, fun H' G' e1 e2 => ?_, ?_, rOne_mono⟩⟩)
  · have hx2 := hx
    unfold rng at hx2
    rw [List.getElem?_map] at hx2
    have hi : i < (n - m).toNat := by
      have := (List.getElem?_eq_some_iff.mp hx).1
      unfold rng at this
      rw [List.length_map, List.length_range] at this
      exact this
    rw [List.getElem?_range hi] at hx2
    have ex : m + (i : Nat) = x := Option.some.inj hx2
    refine ⟨hi, fun w H'' ⟨eH, ew⟩ σ' Q kk => ?_⟩
    subst eH
    subst ew
    exact kk (fun σ => σ.set j (some (.int (m + (i : Nat))))) G' (Rc.refl e2) ⟨_, by rw [← ex]; rfl, rfl⟩
  · show (n - m).toNat ≤ (rng m n).length
    unfold rng
    rw [List.length_map, List.length_range]
    exact Nat.le_refl _
  · unfold rng
    rw [List.length_map, List.length_range]
    exact r5
/-- enumerate(xs) -/
theorem ei_enum {xs : List α} {i j : Nat} {elts : List Expr} {kk : Nat} {tpos : Pos} (hm : X.mg "enumerate" = none) (ha : EvX X a σ H G xs) (hg : Gl X "enumerate" := by rfl) (hs : starEach [a] X.env = (false, eval a X.env) :: starEach [] X.env := by rfl) :
    EvI X (.Tuple elts kk tpos) (.Call (.Name "enumerate" p) [a] [] pos) (gTup X.K 2 (gCons (gName i) (gCons (gName j) gNil))) σ H G (enumI xs) (rTwo X.K i j) := fun H1 G1 s Rk q =>
  toI (pi_enum hg hm (pa_cons pe_wp pa_nil hs) hs) (show wpE X a σ H1 _ from wpE_post (ha H1 G1 s _ fun v H2 G2 s2 ⟨d, vs, q1, q2, q3⟩ hl => ⟨d, vs, by rw [q1], .inl (.inl (s2.sub _ _ q2)), q _ H2 G2 s2 ⟨fun n x H' G' hx e1 e2 => by
    have hx2 := hx
    unfold enumI at hx2
    rw [List.getElem?_map, List.getElem?_zipIdx] at hx2
    cases hn : xs[n]? with
    | none =>
      rw [hn] at hx2
      cases hx2
    | some y =>
      rw [hn] at hx2
      have ex : (((0 + n : Nat) : Int), y) = x := Option.some.inj hx2
      obtain ⟨v', k1, k2⟩ := Paired.get q3 hn
      have sq : SqL X.K H' d vs := .inl (.inl (e2 _ _ (e1 _ _ q2)))
      refine ⟨⟨vs, v', sq, k1⟩, fun w H'' ⟨T, v'', ew, nT, eH, y'⟩ σ' Q kk => ?_⟩
      subst eH
      subst ew
      have e3 : v'' = v' := Option.some.inj ((y' vs sq).symm.trans k1)
      subst e3
      have nG : G' T = none := none_back e2 nT
      refine ⟨T, [.int (n : Nat), v''], rfl, .inl (.inl upd_same), rfl, .int (n : Nat), [v''], rfl, v'', [], rfl, rfl, ?_⟩
      exact kk (fun σ => (σ.set i (some (.int (n : Nat)))).set j (some v'')) (upd G' T (.tup [.int (n : Nat), v''])) (Rc.newG e2 nT) ⟨_, _, by rw [← ex]; show V.int _ = V.int _; rw [Nat.zero_add], by rw [← ex]; exact Rep.mono (e1.trans (Ex.new nG)) k2, rfl⟩, fun H' G' e1 e2 => ⟨vs, .inl (.inl (e2 _ _ (e1 _ _ q2))), by
        unfold enumI
        rw [Paired.len q3, List.length_map, List.length_zipIdx]
        exact Nat.le_refl _⟩, by
        unfold enumI
        rw [List.length_map, List.length_zipIdx, ← Paired.len q3]
        exact hl _ _ (s2.sub _ _ q2), rTwo_mono⟩⟩))
/-- zip(xs, ys) -/
theorem ei_zip {xs : List α} {ys : List β} {i j : Nat} {elts : List Expr} {kk : Nat} {tpos : Pos} (hm : X.mg "zip" = none) (ha : EvX X a σ H G xs) (hb : EvX X b σ H G ys) (hg : Gl X "zip" := by rfl) (hs : starEach [a, b] X.env = (false, eval a X.env) :: starEach [b] X.env := by rfl) (hs2 : starEach [b] X.env = (false, eval b X.env) :: starEach [] X.env := by rfl)
    (hpl : (backTo pos (starEach [b] X.env)).any (·.1) = false := by rfl) :
    EvI X (.Tuple elts kk tpos) (.Call (.Name "zip" p) [a, b] [] pos) (gTup X.K 2 (gCons (gName i) (gCons (gName j) gNil))) σ H G (xs.zip ys) (rTwo X.K i j) := fun H1 G1 s Rk q =>
  toI (pi_zip hg hm (pa_cons pe_wp (pa_cons pe_wp pa_nil hs2) hs) hs hpl) (show wpE X a σ H1 _ from ha H1 G1 s _ fun v H2 G2 s2 ⟨d, vs, q1, q2, q3⟩ => wpE_post (hb H2 G2 (s.trans s2) _ fun w H3 G3 s3 ⟨d', ws, w1, w2, w3⟩ hl =>
    ⟨d, d', vs, ws, by rw [q1, w1], .inl (.inl (s3.sub _ _ (s3.ex _ _ q2))), .inl (.inl (s3.sub _ _ w2)), q _ H3 G3 (s2.trans s3) ⟨fun n x H' G' hx e1 e2 => by
    have hx2 := hx
    rw [List.getElem?_zip_eq_some] at hx2
    obtain ⟨v', k1, k2⟩ := Paired.get q3 hx2.1
    obtain ⟨w', l1, l2⟩ := Paired.get w3 hx2.2
    have sq : SqL X.K H' d vs := .inl (.inl (e2 _ _ (e1 _ _ (s3.ex _ _ q2))))
    have sq2 : SqL X.K H' d' ws := .inl (.inl (e2 _ _ (e1 _ _ w2)))
    refine ⟨⟨vs, ws, v', w', sq, sq2, k1, l1⟩, fun u H'' ⟨T, x', y', eu, nT, eH, f1, f2⟩ σ' Q kk => ?_⟩
    subst eH
    subst eu
    have e3 : x' = v' := Option.some.inj ((f1 vs sq).symm.trans k1)
    have e4 : y' = w' := Option.some.inj ((f2 ws sq2).symm.trans l1)
    subst e3
    subst e4
    have nG : G' T = none := none_back e2 nT
    refine ⟨T, [x', y'], rfl, .inl (.inl upd_same), rfl, x', [y'], rfl, y', [], rfl, rfl, ?_⟩
    exact kk (fun σ => (σ.set i (some x')).set j (some y')) (upd G' T (.tup [x', y'])) (Rc.newG e2 nT) ⟨_, _, Rep.mono ((s3.ex.trans e1).trans (Ex.new nG)) k2, Rep.mono (e1.trans (Ex.new nG)) l2, rfl⟩, fun H' G' e1 e2 => ⟨vs, ws, .inl (.inl (e2 _ _ (e1 _ _ (s3.ex _ _ q2)))), .inl (.inl (e2 _ _ (e1 _ _ w2))), by
      rw [Paired.len q3, Paired.len w3, List.length_zip]
      omega⟩, by
      have l1 := hl _ _ (s3.sub _ _ w2)
      rw [Paired.len w3] at l1
      rw [List.length_zip]
      omega, rTwo_mono⟩⟩))
end
end PX

/-! PXe: comprehensions, statements, loops. -/
namespace PX
open PySem L2

/-! ### mirrors of loops -/
def lcO {ι β : Type} (c : ι → Option Bool) (f : ι → Option β) : List ι → Option (List β)
  | [] => some []
  | x :: r => (c x).bind fun b => cond b ((f x).bind fun y => (lcO c f r).bind fun ys => some (y :: ys)) (lcO c f r)
inductive Ctl (ρ S : Type) where
  | nx (s : S) | bk (s : S) | rt (r : ρ)
def forL {ι ρ S : Type} (body : ι → S → Option (Ctl ρ S)) : List ι → S → Option (Ctl ρ S)
  | [], s => some (.nx s)
  | x :: r, s => (body x s).bind fun c => match c with
    | .nx s' => forL body r s'
    | .bk s' => some (.nx s')
    | .rt y => some (.rt y)
def whl {ρ S : Type} (test : S → Option Bool) (body : S → Option (Ctl ρ S)) : Nat → S → Option (Ctl ρ S)
  | 0, _ => none
  | n + 1, s => (test s).bind fun b => cond b ((body s).bind fun c => match c with
    | .nx s' => whl test body n s'
    | .bk s' => some (.nx s')
    | .rt y => some (.rt y)) (some (.nx s))

section
variable {X : Cx} {σ : L2.St} {H G : Hp} {α β γ ι S ρ : Type} [Rep α] [Rep β] [Rep γ] {a b c e tg iter elt : Expr} {es rest ifs : List Expr} {st : Stmt} {sts sts2 : List Stmt} {pos p2 p p3 : Pos} {x : α} {y : β} {z : γ} {t u : Bool} {D D' : Ends} {g : TG} {scope : Scope} {own : List (Str × Nat)} {nm : Str} {i : Nat}
/-! ### comprehensions -/
def wpTs (X : Cx) (ifs : List Expr) : TT := fun σ H Q => ∀ (pins : List (Addr × Obj)) (s : Shared), Inv X pins σ H s →
  wpAny (model X.prog X.w) X.A (forIn ifs true fun c r => if r = true then do let ok ← isTrue c X.env (eval c X.env); pure (ForInStep.yield ok) else pure (ForInStep.yield r)) (TP X pins σ Q) X.xe s
def EvTs (X : Cx) (ifs : List Expr) (σ : L2.St) (H G : Hp) (b : Bool) : Prop := ∀ H1 G1, Rc [] H G H1 G1 → ∀ Q : Bool → Hp → Prop, (∀ H2 G2, Rc [] H1 G1 H2 G2 → Q b H2) → wpTs X ifs σ H1 Q
theorem ets_nil : EvTs X [] σ H G true := fun H1 G1 s Q k pins s0 I => pts_nil.run pins s0 σ H1 Q I (k H1 G1 (Rc.refl s.sub))
theorem ets_one (h : EvT X c σ H G t) : EvTs X [c] σ H G t := fun H1 G1 s Q k pins s0 I => (pts_one (X := X) (t := wpT X c) pt_wp).run pins s0 σ H1 Q I (h H1 G1 s Q k)
theorem lc_raw {items : List ι} {R : ι → Hp → (L2.St → L2.St) → Prop} {cf : ι → Option Bool} {f : ι → Option β} {ys : List β} {vs : List Nat} {tt : TT} {te : TE} (hi : EvI X tg iter g σ H G items R) (h : lcO cf f items = some ys)
    (hw : ∀ x G u, R x G u → wipe (u (wipe σ vs)) vs = wipe σ vs)
    (ht : ∀ x b u H1 G1, Rc [] H G H1 G1 → R x G1 u → cf x = some b → ∀ Q : Bool → Hp → Prop, (∀ H2 G2, Rc [] H1 G1 H2 G2 → Q b H2) → tt (u (wipe σ vs)) H1 Q)
    (he : ∀ x y u H1 G1, Rc [] H G H1 G1 → R x G1 u → cf x = some true → f x = some y → ∀ Q : VK, (∀ v H2 G2, Rc [] H1 G1 H2 G2 → Rep.rel X.K G2 v y → Q v H2) → te (u (wipe σ vs)) H1 Q)
    {H0 G0 : Hp} (s0 : Rc [] H G H0 G0) {Q : VK} (q : ∀ p H2 G2, Rc [] H0 G0 H2 G2 → H0 p = none → Own X.K H2 G2 p ys → Q (.ref p) H2) : tLc (wpI X tg iter) g tt te vs σ H0 Q := by
  show wpI X tg iter σ H0 _
  refine hi H0 G0 s0 _ fun J H1 G1 s1 W1 => ?_
  intro Dl nD
  have sD : Rc [] H1 G1 (upd H1 Dl (.lst [])) G1 := Rc.new s1.sub nD
  refine ⟨fun i m H' => m = items.length - i ∧ i ≤ items.length ∧ ∃ (G' : Hp) (done more : List β), Rc [] H1 G1 H' G' ∧ Own X.K H' G' Dl done ∧ done.length ≤ i ∧ lcO cf f (items.drop i) = some more ∧ ys = done ++ more,
    ⟨items.length, by omega, Nat.zero_le _, G1, [], ys, sD, Own.mk s1.sub nD .nil, Nat.zero_le _, h, rfl⟩, ?_⟩
  rintro i m H' ⟨rfl, hle, G', done, more, sr, ow, hz, hm, hy⟩
  by_cases hlt : i < items.length
  · refine .inr ?_
    have hx : items[i]? = some items[i] := List.getElem?_eq_getElem hlt
    obtain ⟨go, step⟩ := W1.go i items[i] H' G' hx sr.ex sr.sub
    rw [List.drop_eq_getElem_cons hlt] at hm
    refine ⟨go, fun H'' => ∃ (G'' : Hp) (done more : List β), Rc [] H1 G1 H'' G'' ∧ Own X.K H'' G'' Dl done ∧ done.length ≤ i + 1 ∧ lcO cf f (items.drop (i + 1)) = some more ∧ ys = done ++ more,
      fun H'' ⟨G'', done, more, k1, k2, k3, k4, k5⟩ => ⟨items.length - (i + 1), by omega, rfl, hlt, G'', done, more, k1, k2, k3, k4, k5⟩, fun v H'' y => ?_⟩
    refine step v H'' y _ _ fun uu G'' s2 r2 => ⟨hw _ _ _ r2, ?_⟩
    have s3 : Rc [] H G H'' G'' := (s0.trans (s1.trans sr)).trans s2
    obtain ⟨b, hb, hm⟩ := bind_some hm
    refine ht items[i] b uu H'' G'' s3 r2 hb _ fun H3 G3 s4 => ?_
    rcases cond_some hm with ⟨hb1, hm⟩ | ⟨hb1, hm⟩
    · subst hb1
      rw [if_pos rfl]
      obtain ⟨y0, hy0, hm⟩ := bind_some hm
      obtain ⟨more', hm', hm⟩ := bind_some hm
      refine he items[i] y0 uu H3 G3 (s3.trans s4) (W1.mono _ _ _ _ s4.ex r2) hb hy0 _ fun w H4 G4 s5 r5 => ?_
      obtain ⟨vs', h1, h2, h3⟩ := ((ow.step0 s2).step0 s4).step0 s5
      have hlen := W1.len
      refine ⟨vs', h1, by rw [Paired.len h3]; omega, G4, done ++ [y0], more', (((sr.trans s2).trans s4).trans s5).write (.inl nD) h2, ⟨_, upd_same, h2, Paired.append h3 (.cons r5 .nil)⟩, ?_, hm', ?_⟩
      · rw [List.length_append]
        show done.length + 1 ≤ i + 1
        omega
      · rw [hy, ← Option.some.inj hm, List.append_assoc]
        rfl
    · subst hb1
      rw [if_neg Bool.false_ne_true]
      exact ⟨G3, done, more, (sr.trans s2).trans s4, (ow.step0 s2).step0 s4, Nat.le_succ_of_le hz, hm, hy⟩
  · have ei : i = items.length := by omega
    subst ei
    refine .inl ⟨W1.stop H' G' sr.ex sr.sub, ?_⟩
    rw [List.drop_length] at hm
    have em : [] = more := Option.some.inj hm
    subst em
    rw [List.append_nil] at hy
    subst hy
    exact q Dl H' G' (s1.trans sr) (none_back s1.exH nD) ow

variable {items : List ι} {R : ι → Hp → (L2.St → L2.St) → Prop} {cf : ι → Option Bool} {f : ι → Option β} {ys : List β}
/-- a comprehension as a value -/
theorem ev_lc (hc : X.calm = true) (hN : X.N.Nodup) (ok : BlkOk X.N X.env.scope scope own) (hi : EvI X tg iter g σ H G items R)
    (hg : ∀ (s : Shared) (H : Hp) (C : Addr) (cl : List (Str × Addr)) (fp : List Addr), PG (X.blk s H scope (compEnvC scope cl C X.env) fp) tg g) (h : lcO cf f items = some ys)
    (hw : ∀ x G u, R x G u → wipe (u (wipe σ (own.map (·.2)))) (own.map (·.2)) = wipe σ (own.map (·.2)))
    (ht : ∀ (s : Shared) (H0 : Hp) (C : Addr) (cl : List (Str × Addr)) (fp : List Addr) x b u H1 G1, Rc [] H G H1 G1 → R x G1 u → cf x = some b → EvTs (X.blk s H0 scope (compEnvC scope cl C X.env) fp) ifs (u (wipe σ (own.map (·.2)))) H1 G1 b)
    (he : ∀ (s : Shared) (H0 : Hp) (C : Addr) (cl : List (Str × Addr)) (fp : List Addr) x y u H1 G1, Rc [] H G H1 G1 → R x G1 u → cf x = some true → f x = some y → EvX (X.blk s H0 scope (compEnvC scope cl C X.env) fp) elt (u (wipe σ (own.map (·.2)))) H1 G1 y)
    (hs : ∀ x, foldedSetIterable iter X.env x = pure x := by intro _; rfl) : EvN X (.ListComp elt [⟨tg, iter, ifs, 0⟩] scope pos) σ H G ys := fun H1 G1 s Q k =>
  toE (pe_lc (tt := fun σ H Q => ∀ (s : Shared) (H0 : Hp) (C : Addr) (cl : List (Str × Addr)) (fp : List Addr), wpTs (X.blk s H0 scope (compEnvC scope cl C X.env) fp) ifs σ H Q)
      (te := fun σ H Q => ∀ (s : Shared) (H0 : Hp) (C : Addr) (cl : List (Str × Addr)) (fp : List Addr), wpE (X.blk s H0 scope (compEnvC scope cl C X.env) fp) elt σ H Q) hc hN pi_wp ok hg
      (fun s H0 C cl fp => ⟨fun pins s1 σ1 H1 Q I q => q s H0 C cl fp pins s1 I⟩) (fun s H0 C cl fp => ⟨fun pins s1 σ1 H1 Q I q => q s H0 C cl fp pins s1 I⟩) hs)
    (lc_raw hi h hw (fun x b u H2 G2 s2 r hb Q' q s0 H0 C cl fp => ht s0 H0 C cl fp x b u H2 G2 s2 r hb H2 G2 (Rc.refl s2.sub) Q' q)
      (fun x y u H2 G2 s2 r hb hy Q' q s0 H0 C cl fp => he s0 H0 C cl fp x y u H2 G2 s2 r hb hy H2 G2 (Rc.refl s2.sub) Q' q) s k)
/-! ### statements -/
theorem SP.imp {pins : List (Addr × Obj)} {fl : Flow} {s : Shared} (h1 : ∀ σ H, D.nx σ H → D'.nx σ H) (h2 : ∀ v H, D.rt v H → D'.rt v H) (h3 : ∀ σ H, D.bk σ H → D'.bk σ H) (h4 : ∀ σ H, D.ct σ H → D'.ct σ H) (h : SP X pins D fl s) : SP X pins D' fl s := by
  cases fl with
  | next =>
    obtain ⟨σ', H', q1, q2⟩ := h
    exact ⟨σ', H', q1, h1 _ _ q2⟩
  | brk =>
    obtain ⟨σ', H', q1, q2⟩ := h
    exact ⟨σ', H', q1, h3 _ _ q2⟩
  | cont =>
    obtain ⟨σ', H', q1, q2⟩ := h
    exact ⟨σ', H', q1, h4 _ _ q2⟩
  | ret u =>
    obtain ⟨v, σ', H', q1, q2, q3⟩ := h
    exact ⟨v, σ', H', q1, q2, h2 _ _ q3⟩
theorem wpB_imp (h : wpB X sts D σ H) (h1 : ∀ σ H, D.nx σ H → D'.nx σ H) (h2 : ∀ v H, D.rt v H → D'.rt v H) (h3 : ∀ σ H, D.bk σ H → D'.bk σ H) (h4 : ∀ σ H, D.ct σ H → D'.ct σ H) : wpB X sts D' σ H := fun pins s I => thn (h pins s I) fun _ _ q => SP.imp h1 h2 h3 h4 q
theorem wb_nil (h : D.nx σ H) : wpB X [] D σ H := toB pss_nil h
theorem wb_cons (h : wpS X st { D with nx := fun σ' H' => wpB X sts D σ' H' } σ H) : wpB X (st :: sts) D σ H := toB (pss_cons ps_wp pss_wp) h
/-- the last statement -/
theorem wb_one (h : wpS X st D σ H) : wpB X [st] D σ H := toB (pss_one ps_wp) h
/-- a statement, then the rest, with a word between -/
theorem wb_cut (M : L2.St → Hp → Prop) (h : wpS X st { D with nx := M } σ H) (k : ∀ σ' H', M σ' H' → wpB X sts D σ' H') : wpB X (st :: sts) D σ H := wb_cons fun pins s I => thn (h pins s I) fun _ _ q => SP.imp (D := { D with nx := M }) k (fun _ _ z => z) (fun _ _ z => z) (fun _ _ z => z) q
theorem ws_set (hN : X.N.Nodup) (h : wpE X e σ H fun v H1 => D.nx (σ.set i (some v)) H1) (hi : X.N[i]? = some nm := by rfl) (hx : Loc X.env.scope nm := by first | exact Or.inl rfl | exact Or.inr rfl) (hs : swapsWith e (some (.Name nm p)) pos.line X.env = pure false := by rfl)
    (hf : X.fn nm = true ∨ X.env.scope.names.lookup nm = some .local := by first | exact .inl rfl | exact .inr rfl) : wpS X (.Assign [.Name nm p] e pos) D σ H := toS (ps_set (i := i) hN hi hx pe_wp hs hf) h
/-- name = [..] -/
theorem ws_setLc (hc : X.calm = true) (hN : X.N.Nodup) (ok : BlkOk X.N X.env.scope scope own) (hi : EvI X tg iter g σ H G items R) (e0 : Ex G H)
    (hg : ∀ (s : Shared) (H : Hp) (C : Addr) (cl : List (Str × Addr)) (fp : List Addr), PG (X.blk s H scope (compEnvC scope cl C X.env) fp) tg g) (h : lcO cf f items = some ys)
    (hw : ∀ x G u, R x G u → wipe (u (wipe σ (own.map (·.2)))) (own.map (·.2)) = wipe σ (own.map (·.2)))
    (ht : ∀ (s : Shared) (H0 : Hp) (C : Addr) (cl : List (Str × Addr)) (fp : List Addr) x b u H1 G1, Rc [] H G H1 G1 → R x G1 u → cf x = some b → EvTs (X.blk s H0 scope (compEnvC scope cl C X.env) fp) ifs (u (wipe σ (own.map (·.2)))) H1 G1 b)
    (he : ∀ (s : Shared) (H0 : Hp) (C : Addr) (cl : List (Str × Addr)) (fp : List Addr) x y u H1 G1, Rc [] H G H1 G1 → R x G1 u → cf x = some true → f x = some y → EvX (X.blk s H0 scope (compEnvC scope cl C X.env) fp) elt (u (wipe σ (own.map (·.2)))) H1 G1 y)
    (k : ∀ p H2 G2, Rc [] H G H2 G2 → H p = none → Own X.K H2 G2 p ys → D.nx (σ.set i (some (.ref p))) H2)
    (hj : X.N[i]? = some nm := by rfl) (hyl : X.env.scope.names.lookup nm = some .local := by rfl) (hsw : swapsWith (.ListComp elt [⟨tg, iter, ifs, 0⟩] scope pos) (some (.Name nm p)) p2.line X.env = pure true := by exact sw_true rfl rfl rfl (by decide +kernel))
    (hs : ∀ x, foldedSetIterable iter X.env x = pure x := by intro _; rfl) : wpS X (.Assign [.Name nm p] (.ListComp elt [⟨tg, iter, ifs, 0⟩] scope pos) p2) D σ H :=
  toS (ps_setLc (i := i) (tt := fun σ H Q => ∀ (s : Shared) (H0 : Hp) (C : Addr) (cl : List (Str × Addr)) (fp : List Addr), wpTs (X.blk s H0 scope (compEnvC scope cl C X.env) fp) ifs σ H Q)
      (te := fun σ H Q => ∀ (s : Shared) (H0 : Hp) (C : Addr) (cl : List (Str × Addr)) (fp : List Addr), wpE (X.blk s H0 scope (compEnvC scope cl C X.env) fp) elt σ H Q) hc hN hj hyl hsw pi_wp ok hg
      (fun s H0 C cl fp => ⟨fun pins s1 σ1 H1 Q I q => q s H0 C cl fp pins s1 I⟩) (fun s H0 C cl fp => ⟨fun pins s1 σ1 H1 Q I q => q s H0 C cl fp pins s1 I⟩) hs)
    (lc_raw hi h hw (fun x b u H2 G2 s2 r hb Q' q s0 H0 C cl fp => ht s0 H0 C cl fp x b u H2 G2 s2 r hb H2 G2 (Rc.refl s2.sub) Q' q)
      (fun x y u H2 G2 s2 r hb hy Q' q s0 H0 C cl fp => he s0 H0 C cl fp x y u H2 G2 s2 r hb hy H2 G2 (Rc.refl s2.sub) Q' q) (Rc.refl e0) k)
theorem ws_expr (h : wpE X e σ H fun _ H1 => D.nx σ H1) (hs : swapsWith e none pos.line X.env = pure false := by rfl) : wpS X (.Expr e pos) D σ H := toS (ps_expr pe_wp hs) h
theorem ws_ret (h : wpE X e σ H D.rt) : wpS X (.Return (some e) pos) D σ H := toS (ps_ret pe_wp) h
theorem ws_retN (h : D.rt .non H) : wpS X (.Return none pos) D σ H := toS ps_retN h
theorem ws_if (h : wpT X c σ H fun b H1 => if b = true then wpB X sts D σ H1 else wpB X sts2 D σ H1) : wpS X (.If c sts sts2 pos) D σ H := toS (ps_if pt_wp pss_wp pss_wp) h
theorem ws_if1 (h : wpT X c σ H fun b H1 => b = true ∧ wpB X sts D σ H1) : wpS X (.If c sts sts2 pos) D σ H := ws_if (wpT_mono (fun b H1 ⟨e, q⟩ => by rw [e, if_pos rfl]; exact q) h)
theorem ws_if0 (h : wpT X c σ H fun b H1 => b = false ∧ wpB X sts2 D σ H1) : wpS X (.If c sts sts2 pos) D σ H := ws_if (wpT_mono (fun b H1 ⟨e, q⟩ => by rw [e, if_neg Bool.false_ne_true]; exact q) h)
theorem ws_pass (h : D.nx σ H) : wpS X (.Pass pos) D σ H := toS ps_pass h
theorem ws_break (h : D.bk σ H) : wpS X (.Break pos) D σ H := toS ps_break h
theorem ws_cont (h : D.ct σ H) : wpS X (.Continue pos) D σ H := toS ps_continue h
end
end PX

/-! PXf: lists changed, several names stored, loops. -/
namespace PX
open PySem L2
section
variable {X : Cx} {σ : L2.St} {H G : Hp} {α β γ ι S ρ : Type} [Rep α] [Rep β] [Rep γ] {a b c e tg iter elt : Expr} {es rest ifs : List Expr} {st : Stmt} {sts sts2 : List Stmt} {pos p2 p p3 apos : Pos} {x : α} {y : β} {z : γ} {t u : Bool} {D D' : Ends} {g : TG} {nm : Str} {i j : Nat}
/-- xs.append(e) -/
theorem wp_append {l : Addr} {Q : VK} (hs : σ[i]? = some (some (.ref l))) (hl : ∃ vs, H l = some (.lst vs)) (h : wpE X e σ H fun v H1 => ∃ vs, H1 l = some (.lst vs) ∧ vs.length < sizeLine ∧ Q .non (upd H1 l (.lst (vs ++ [v]))))
    (hN : X.N[i]? = some nm := by rfl) (hv : Vis X.env.scope nm := by first | exact Or.inl rfl | exact Or.inr (Or.inl rfl) | exact Or.inr (Or.inr rfl)) (hd : (nm == ("__debug__" : Str)) = false := by decide) (hcd : (nm == ("__classdict__" : Str)) = false := by decide)
    (hbase : attributeBase (.Name nm p) "append" X.env (eval (.Name nm p) X.env) = eval (.Name nm p) X.env := by rfl)
    (hfew : ((backTo pos (starEach [e] X.env)).all (fun x => !x.1) && (backToKw pos (keywordEach [] X.env)).all (fun x => x.1.isSome) && decide ([e].length + ([] : List Keyword).length + (if ([] : List Keyword).isEmpty then 0 else 1) < 30)) = true := by rfl)
    (hline : (apos.endLine == pos.line) = true := by rfl) (hst : starEach [e] X.env = (false, eval e X.env) :: starEach [] X.env := by rfl) (hpl : (backTo pos (starEach [] X.env)).any (·.1) = false := by rfl) :
    wpE X (.Call (.Attribute (.Name nm p) "append" apos) [e] [] pos) σ H Q := by
  obtain ⟨vs0, hl⟩ := hl
  refine toE (pe_bm PySem.F.plainAttrs_list PySem.F.slot_list_append PySem.F.type_list_append mt_append (pv i hN hv hd hcd) (pa_cons pe_wp pa_nil hst) hbase hfew hline hst hpl) ⟨.ref l, hs, .inl ⟨rfl, _, .inl (.inl hl)⟩, ?_⟩
  exact wpE_mono (fun v H1 ⟨vs, h1, h2, h3⟩ => ⟨l, vs, v, rfl, rfl, h1, h2, h3⟩) h
theorem ws_app {l : Addr} {xs zs : List α} (hs : σ[i]? = some (some (.ref l))) (g0 : Ex G H) (ow : Own X.K H G l xs) (hz : appO xs x = some zs) (h : EvX X e σ H G x) (k : ∀ H2 G2, (∀ m H0 G0, Rc m H0 G0 H G → (H0 l = none ∨ l ∈ m) → Rc m H0 G0 H2 G2) → Rc [l] H G H2 G2 → Own X.K H2 G2 l zs → D.nx σ H2)
    (hN : X.N[i]? = some nm := by rfl) (hv : Vis X.env.scope nm := by first | exact Or.inl rfl | exact Or.inr (Or.inl rfl) | exact Or.inr (Or.inr rfl)) (hd : (nm == ("__debug__" : Str)) = false := by decide) (hcd : (nm == ("__classdict__" : Str)) = false := by decide)
    (hbase : attributeBase (.Name nm p) "append" X.env (eval (.Name nm p) X.env) = eval (.Name nm p) X.env := by rfl)
    (hfew : ((backTo pos (starEach [e] X.env)).all (fun x => !x.1) && (backToKw pos (keywordEach [] X.env)).all (fun x => x.1.isSome) && decide ([e].length + ([] : List Keyword).length + (if ([] : List Keyword).isEmpty then 0 else 1) < 30)) = true := by rfl)
    (hline : (apos.endLine == pos.line) = true := by rfl) (hst : starEach [e] X.env = (false, eval e X.env) :: starEach [] X.env := by rfl) (hpl : (backTo pos (starEach [] X.env)).any (·.1) = false := by rfl)
    (hsw : swapsWith (.Call (.Attribute (.Name nm p) "append" apos) [e] [] pos) none p2.line X.env = pure false := by rfl) :
    wpS X (.Expr (.Call (.Attribute (.Name nm p) "append" apos) [e] [] pos) p2) D σ H := by
  obtain ⟨h1, h2⟩ := dite_some hz
  subst h2
  refine ws_expr (wp_append hs ⟨_, ow.choose_spec.1⟩ (h.go g0 fun v H2 G2 s2 r2 => ?_) hN hv hd hcd hbase hfew hline hst hpl) hsw
  obtain ⟨vs, q1, q2, q3⟩ := ow.step0 s2
  refine ⟨vs, q1, by rw [Paired.len q3]; exact line_lt h1, k _ G2 (fun m H0 G0 r n => (r.then s2).write n q2) (s2.any.write (.inr List.mem_cons_self) q2) ⟨_, upd_same, q2, Paired.append q3 (.cons r2 .nil)⟩⟩
/-- xs.append(e), xs not looked at again -/
theorem ws_appDead {l : Addr} {xs : List α} (hs : σ[i]? = some (some (.ref l))) (g0 : Ex G H) (ow : Own X.K H G l xs) (hz : xs.length < line) (h : EvX X e σ H G y) (k : ∀ H2 G2, (∀ m H0 G0, Rc m H0 G0 H G → (H0 l = none ∨ l ∈ m) → Rc m H0 G0 H2 G2) → Rc [l] H G H2 G2 → D.nx σ H2)
    (hN : X.N[i]? = some nm := by rfl) (hv : Vis X.env.scope nm := by first | exact Or.inl rfl | exact Or.inr (Or.inl rfl) | exact Or.inr (Or.inr rfl)) (hd : (nm == ("__debug__" : Str)) = false := by decide) (hcd : (nm == ("__classdict__" : Str)) = false := by decide)
    (hbase : attributeBase (.Name nm p) "append" X.env (eval (.Name nm p) X.env) = eval (.Name nm p) X.env := by rfl)
    (hfew : ((backTo pos (starEach [e] X.env)).all (fun x => !x.1) && (backToKw pos (keywordEach [] X.env)).all (fun x => x.1.isSome) && decide ([e].length + ([] : List Keyword).length + (if ([] : List Keyword).isEmpty then 0 else 1) < 30)) = true := by rfl)
    (hline : (apos.endLine == pos.line) = true := by rfl) (hst : starEach [e] X.env = (false, eval e X.env) :: starEach [] X.env := by rfl) (hpl : (backTo pos (starEach [] X.env)).any (·.1) = false := by rfl)
    (hsw : swapsWith (.Call (.Attribute (.Name nm p) "append" apos) [e] [] pos) none p2.line X.env = pure false := by rfl) :
    wpS X (.Expr (.Call (.Attribute (.Name nm p) "append" apos) [e] [] pos) p2) D σ H := by
  refine ws_expr (wp_append hs ⟨_, ow.choose_spec.1⟩ (h.go g0 fun v H2 G2 s2 r2 => ?_) hN hv hd hcd hbase hfew hline hst hpl) hsw
  obtain ⟨vs, q1, q2, q3⟩ := ow.step0 s2
  refine ⟨vs, q1, by rw [Paired.len q3]; exact line_lt hz, k _ G2 (fun m H0 G0 r n => (r.then s2).write n q2) (s2.any.write (.inr List.mem_cons_self) q2)⟩
/-- xs.extend(ys), ys a new list -/
theorem ws_ext {l : Addr} {xs ys zs : List α} (hs : σ[i]? = some (some (.ref l))) (g0 : Ex G H) (ow : Own X.K H G l xs) (hz : extO xs ys = some zs) (h : EvX X e σ H G ys) (k : ∀ H2 G2, (∀ m H0 G0, Rc m H0 G0 H G → (H0 l = none ∨ l ∈ m) → Rc m H0 G0 H2 G2) → Rc [l] H G H2 G2 → Own X.K H2 G2 l zs → D.nx σ H2)
    (hN : X.N[i]? = some nm := by rfl) (hv : Vis X.env.scope nm := by first | exact Or.inl rfl | exact Or.inr (Or.inl rfl) | exact Or.inr (Or.inr rfl)) (hd : (nm == ("__debug__" : Str)) = false := by decide) (hcd : (nm == ("__classdict__" : Str)) = false := by decide)
    (hbase : attributeBase (.Name nm p) "extend" X.env (eval (.Name nm p) X.env) = eval (.Name nm p) X.env := by rfl)
    (hfew : ((backTo pos (starEach [e] X.env)).all (fun x => !x.1) && (backToKw pos (keywordEach [] X.env)).all (fun x => x.1.isSome) && decide ([e].length + ([] : List Keyword).length + (if ([] : List Keyword).isEmpty then 0 else 1) < 30)) = true := by rfl)
    (hline : (apos.endLine == pos.line) = true := by rfl) (hst : starEach [e] X.env = (false, eval e X.env) :: starEach [] X.env := by rfl) (hpl : (backTo pos (starEach [] X.env)).any (·.1) = false := by rfl)
    (hsw : swapsWith (.Call (.Attribute (.Name nm p) "extend" apos) [e] [] pos) none p2.line X.env = pure false := by rfl) :
    wpS X (.Expr (.Call (.Attribute (.Name nm p) "extend" apos) [e] [] pos) p2) D σ H := by
  obtain ⟨h1, h2⟩ := dite_some hz
  subst h2
  refine ws_expr (toE (pe_bm PySem.F.plainAttrs_list PySem.F.slot_list_extend PySem.F.type_list_extend mt_extend (pv i hN hv hd hcd) (pa_cons pe_wp pa_nil hst) hbase hfew hline hst hpl) ⟨.ref l, hs, .inl ⟨rfl, _, .inl (.inl ow.choose_spec.1)⟩, ?_⟩) hsw
  refine h.go g0 fun v H2 G2 s2 ⟨d, ws, w1, w2, w3⟩ => ?_
  obtain ⟨vs, q1, q2, q3⟩ := ow.step0 s2
  refine ⟨l, d, vs, ws, rfl, by rw [w1], q1, s2.sub _ _ w2, by rw [Paired.len q3, Paired.len w3]; exact line_le h1, k _ G2 (fun m H0 G0 r n => (r.then s2).write n q2) (s2.any.write (.inr List.mem_cons_self) q2) ⟨_, upd_same, q2, Paired.append q3 w3⟩⟩
/-- xs.reverse() -/
theorem ws_reverse {l : Addr} {xs : List α} (hs : σ[i]? = some (some (.ref l))) (g0 : Ex G H) (ow : Own X.K H G l xs) (k : ∀ H2 G2, (∀ m H0 G0, Rc m H0 G0 H G → (H0 l = none ∨ l ∈ m) → Rc m H0 G0 H2 G2) → Rc [l] H G H2 G2 → Own X.K H2 G2 l xs.reverse → D.nx σ H2)
    (hN : X.N[i]? = some nm := by rfl) (hv : Vis X.env.scope nm := by first | exact Or.inl rfl | exact Or.inr (Or.inl rfl) | exact Or.inr (Or.inr rfl)) (hd : (nm == ("__debug__" : Str)) = false := by decide) (hcd : (nm == ("__classdict__" : Str)) = false := by decide)
    (hbase : attributeBase (.Name nm p) "reverse" X.env (eval (.Name nm p) X.env) = eval (.Name nm p) X.env := by rfl) (hline : (apos.endLine == pos.line) = true := by rfl)
    (hsw : swapsWith (.Call (.Attribute (.Name nm p) "reverse" apos) [] [] pos) none p2.line X.env = pure false := by rfl) :
    wpS X (.Expr (.Call (.Attribute (.Name nm p) "reverse" apos) [] [] pos) p2) D σ H := by
  obtain ⟨vs, q1, q2, q3⟩ := ow
  refine ws_expr (toE (pe_bm0 PySem.F.plainAttrs_list PySem.F.slot_list_reverse PySem.F.type_list_reverse mt_reverse (pv i hN hv hd hcd) hbase hline) ⟨.ref l, hs, .inl ⟨rfl, _, .inl (.inl q1)⟩, ?_⟩) hsw
  exact ⟨l, vs, rfl, rfl, q1, k _ G (fun m H0 G0 r n => r.write n q2) ((Rc.refl g0).write (.inr List.mem_cons_self) q2) ⟨_, upd_same, q2, Paired.reverse q3⟩⟩
/-- xs[k] = e -/
theorem ws_setix {l : Addr} {xs zs : List α} {n : Int} (hs : σ[i]? = some (some (.ref l))) (g0 : Ex G H) (ow : Own X.K H G l xs) (hz : setO xs n x = some zs) (h : EvX X e σ H G x) (hb : EvX X b σ H G n) (k : ∀ H2 G2, (∀ m H0 G0, Rc m H0 G0 H G → (H0 l = none ∨ l ∈ m) → Rc m H0 G0 H2 G2) → Rc [l] H G H2 G2 → Own X.K H2 G2 l zs → D.nx σ H2)
    (hN : X.N[i]? = some nm := by rfl) (hv : Vis X.env.scope nm := by first | exact Or.inl rfl | exact Or.inr (Or.inl rfl) | exact Or.inr (Or.inr rfl)) (hd : (nm == ("__debug__" : Str)) = false := by decide) (hcd : (nm == ("__classdict__" : Str)) = false := by decide)
    (ha : ∀ v, assign (.Subscript (.Name nm p) b p3) X.env v = (do
      let ov ← holding [v] (eval (.Name nm p) X.env)
      let iv ← holding [v, ov] (eval b X.env)
      standAt p3
      holding [v, ov, iv] (setItem ov iv v)
      release [v, ov, iv] []) := by intro _; rfl)
    (hsw : swapsWithSole [.Subscript (.Name nm p) b p3] e pos.line X.env = pure false := by rfl) (hw : swappedStores [.Subscript (.Name nm p) b p3] e X.env = pure none := by rfl)
    (h1 : (assignEach [.Subscript (.Name nm p) b p3] X.env).map (·.2) = [assign (.Subscript (.Name nm p) b p3) X.env] := by rfl) : wpS X (.Assign [.Subscript (.Name nm p) b p3] e pos) D σ H := by
  unfold setO at hz
  cases hi : ixN xs.length n with
  | none =>
    rw [hi] at hz
    cases hz
  | some j =>
    rw [hi] at hz
    have e1 : xs.set j x = zs := Option.some.inj hz
    subst e1
    refine toS (ps_asg pe_wp (pg_sub (pv i hN hv hd hcd) pe_wp set_list ha) hsw hw h1) (show wpE X e σ H _ from h.go g0 fun v H2 G2 s2 r2 => ⟨.ref l, hs, hb H2 G2 s2 _ fun w H3 G3 s3 r3 => ?_⟩)
    obtain ⟨vs, q1, q2, q3⟩ := (ow.step0 s2).step0 s3
    exact ⟨l, vs, n, j, rfl, r3, q1, by rw [Paired.len q3]; exact hi, k _ G3 (fun m H0 G0 r n => ((r.then s2).then s3).write n q2) ((s2.any.then s3).write (.inr List.mem_cons_self) q2) ⟨_, upd_same, q2, Paired.set (Rep.mono s3.ex r2) j q3⟩⟩
/-! ### several names at once -/
theorem ws_par {px py pt : Pos} {kt k2 pt2} {nx ny : Str} (hc : X.calm = true) (hN : X.N.Nodup) (h : wpA X [a, b] σ H fun vs H1 => ∃ v w, vs = [v, w] ∧ D.nx ((σ.set i (some v)).set j (some w)) H1) (hij : i ≠ j := by decide) (hi : X.N[i]? = some nx := by rfl) (hj : X.N[j]? = some ny := by rfl)
    (hx : X.env.scope.names.lookup nx = some .local := by rfl) (hy : X.env.scope.names.lookup ny = some .local := by rfl) (hw : swappedStores [.Tuple [.Name nx px, .Name ny py] kt pt] (.Tuple [a, b] k2 pt2) X.env = pure (some [nx, ny]) := by rfl)
    (hs : swapsWithSole [.Tuple [.Name nx px, .Name ny py] kt pt] (.Tuple [a, b] k2 pt2) pos.line X.env = pure false := by rfl) : wpS X (.Assign [.Tuple [.Name nx px, .Name ny py] kt pt] (.Tuple [a, b] k2 pt2) pos) D σ H :=
  toS (ps_par hc hN hi hj hij hx hy pa_wp hw hs) h
theorem ws_par3 {l : Nat} {px py pz pt : Pos} {kt k2 pt2} {nx ny nz : Str} (hc : X.calm = true) (hN : X.N.Nodup) (h : wpA X [a, b, c] σ H fun vs H1 => ∃ u v w, vs = [u, v, w] ∧ D.nx (((σ.set i (some u)).set j (some v)).set l (some w)) H1) (hij : i ≠ j := by decide) (hil : i ≠ l := by decide) (hjl : j ≠ l := by decide)
    (hi : X.N[i]? = some nx := by rfl) (hj : X.N[j]? = some ny := by rfl) (hl : X.N[l]? = some nz := by rfl) (hx : X.env.scope.names.lookup nx = some .local := by rfl) (hy : X.env.scope.names.lookup ny = some .local := by rfl) (hz : X.env.scope.names.lookup nz = some .local := by rfl)
    (hw : swappedStores [.Tuple [.Name nx px, .Name ny py, .Name nz pz] kt pt] (.Tuple [a, b, c] k2 pt2) X.env = pure (some [nx, ny, nz]) := by rfl)
    (hs : swapsWithSole [.Tuple [.Name nx px, .Name ny py, .Name nz pz] kt pt] (.Tuple [a, b, c] k2 pt2) pos.line X.env = pure false := by rfl) : wpS X (.Assign [.Tuple [.Name nx px, .Name ny py, .Name nz pz] kt pt] (.Tuple [a, b, c] k2 pt2) pos) D σ H :=
  toS (ps_par3 hc hN hi hj hl hij hil hjl hx hy hz pa_wp hw hs) h
/-- the general way: a tuple is made and taken apart -/
theorem ws_tup2 {px py pt : Pos} {kt k2 pt2} {nx ny : Str} (hc : X.calm = true) (hN : X.N.Nodup) (h : wpA X [a, b] σ H fun vs H1 => ∃ v w, vs = [v, w] ∧ ∀ d, H1 d = none → D.nx ((σ.set i (some v)).set j (some w)) (upd H1 d (.tup [v, w]))) (hi : X.N[i]? = some nx := by rfl) (hj : X.N[j]? = some ny := by rfl)
    (hx : Loc X.env.scope nx := by first | exact Or.inl rfl | exact Or.inr rfl) (hy : Loc X.env.scope ny := by first | exact Or.inl rfl | exact Or.inr rfl)
    (hf : X.fn nx = true ∨ X.env.scope.names.lookup nx = some .local := by first | exact .inl rfl | exact .inr rfl) (hf2 : X.fn ny = true ∨ X.env.scope.names.lookup ny = some .local := by first | exact .inl rfl | exact .inr rfl)
    (hg1 : (assignEach [.Name nx px, .Name ny py] X.env).map (·.2) = assign (.Name nx px) X.env :: (assignEach [.Name ny py] X.env).map (·.2) := by rfl) (hg2 : (assignEach [.Name ny py] X.env).map (·.2) = assign (.Name ny py) X.env :: (assignEach [] X.env).map (·.2) := by rfl)
    (hn : (assignEach [.Name nx px, .Name ny py] X.env).length = 2 := by rfl) (hst : (assignEach [.Name nx px, .Name ny py] X.env).findIdx? (·.1) = none := by rfl)
    (hw : swappedStores [.Tuple [.Name nx px, .Name ny py] kt pt] (.Tuple [a, b] k2 pt2) X.env = pure none := by rfl)
    (hs : swapsWithSole [.Tuple [.Name nx px, .Name ny py] kt pt] (.Tuple [a, b] k2 pt2) pos.line X.env = pure false := by rfl)
    (h1 : (assignEach [.Tuple [.Name nx px, .Name ny py] kt pt] X.env).map (·.2) = [assign (.Tuple [.Name nx px, .Name ny py] kt pt) X.env] := by rfl) : wpS X (.Assign [.Tuple [.Name nx px, .Name ny py] kt pt] (.Tuple [a, b] k2 pt2) pos) D σ H :=
  toS (ps_asg (pe_tup pa_wp) (pg_tup hc (pgs_cons (pg_name (i := i) hN hi hx hf) (pgs_cons (pg_name (i := j) hN hj hy hf2) pgs_nil hg2) hg1) hn hst) hs hw h1) (show wpA X [a, b] σ H _ from fun ps pins s I =>
    thn (h ps pins s I) fun us s1 ⟨vs, H1, I1, r1, v, w, e1, q⟩ => ⟨vs, H1, I1, r1, by rw [e1]; show 2 ≤ sizeLine; decide, fun d nd => ⟨d, vs, rfl, .inl (.inl upd_same), by rw [e1]; rfl, v, [w], e1, w, [], rfl, rfl, by rw [e1]; exact q d nd⟩⟩)
/-! ### loops -/
theorem ws_for {items : List ι} {R : ι → Hp → (L2.St → L2.St) → Prop} {body : ι → S → Option (Ctl ρ S)} {s0 : S} {cc : Ctl ρ S} (hp : PassesOwn (model X.prog X.w) X.A X.env X.xe) (hc : X.calm = true) (hi : EvI X tg iter g σ H G items R) (g0 : Ex G H) (hg : PG X tg g) (h : forL body items s0 = some cc)
    (I : Hp → S → L2.St → Hp → Hp → Prop) (RT : ρ → V → Hp → Prop)
    (h0 : ∀ H2 G2, Rc [] H G H2 G2 → I G2 s0 σ H2 G2) (hx : ∀ Gs s σ H G, I Gs s σ H G → Ex Gs G ∧ Ex G H)
    (hb : ∀ Gs s σ1 H1 G1 x c' u H2 G2, body x s = some c' → I Gs s σ1 H1 G1 → Rc [] H1 G1 H2 G2 → R x G2 u →
      wpB X sts { nx := fun σ H => ∃ s' G, c' = .nx s' ∧ I Gs s' σ H G, rt := fun v H => ∃ r, c' = .rt r ∧ RT r v H, bk := fun σ H => ∃ s' G, c' = .bk s' ∧ I Gs s' σ H G, ct := fun σ H => ∃ s' G, c' = .nx s' ∧ I Gs s' σ H G } (u σ1) H2)
    (hd : ∀ Gs s σ1 H1 G1, cc = .nx s → I Gs s σ1 H1 G1 → D.nx σ1 H1) (hr : ∀ r v H1, cc = .rt r → RT r v H1 → D.rt v H1) (hs : ∀ x, foldedSetIterable iter X.env x = pure x := by intro _; rfl) : wpS X (.For tg iter sts [] pos) D σ H := by
  refine toS (ps_for hp hc pi_wp hg pss_wp hs) (show wpI X tg iter σ H _ from hi H G (Rc.refl g0) _ fun J H2 G2 s2 W => ?_)
  refine ⟨fun i m σ' H' => m = items.length - i ∧ i ≤ items.length ∧ ∃ s G', I G2 s σ' H' G' ∧ forL body (items.drop i) s = some cc, ⟨items.length, by omega, Nat.zero_le _, s0, G2, h0 H2 G2 s2, h⟩, ?_⟩
  rintro i m σ' H' ⟨rfl, hle, s, G', hI, hf⟩
  obtain ⟨e1, e2⟩ := hx _ _ _ _ _ hI
  by_cases hlt : i < items.length
  · refine .inr ?_
    have hxi : items[i]? = some items[i] := List.getElem?_eq_getElem hlt
    obtain ⟨go, step⟩ := W.go i items[i] H' G' hxi e1 e2
    rw [List.drop_eq_getElem_cons hlt] at hf
    obtain ⟨c', hc', hf⟩ := bind_some hf
    refine ⟨go, fun σ'' H'' => ∃ s G', I G2 s σ'' H'' G' ∧ forL body (items.drop (i + 1)) s = some cc, fun σ'' H'' ⟨s, G', k1, k2⟩ => ⟨items.length - (i + 1), by omega, rfl, hlt, s, G', k1, k2⟩, fun v H'' y => ?_⟩
    refine step v H'' y _ _ fun uu G'' s3 r3 => ?_
    refine wpB_imp (hb G2 s σ' H' G' items[i] c' uu H'' G'' hc' hI s3 r3) ?_ ?_ ?_ ?_
    · rintro σ1 H1 ⟨s', G1, ec, k⟩
      subst ec
      exact ⟨s', G1, k, hf⟩
    · rintro v H1 ⟨r, ec, k⟩
      subst ec
      exact hr r v H1 (Option.some.inj hf).symm k
    · rintro σ1 H1 ⟨s', G1, ec, k⟩
      subst ec
      exact hd G2 s' σ1 H1 G1 (Option.some.inj hf).symm k
    · rintro σ1 H1 ⟨s', G1, ec, k⟩
      subst ec
      exact ⟨s', G1, k, hf⟩
  · have ei : i = items.length := by omega
    subst ei
    rw [List.drop_length] at hf
    exact .inl ⟨W.stop H' G' e1 e2, hd G2 s σ' H' G' (Option.some.inj hf).symm hI⟩
theorem ws_while {test : S → Option Bool} {body : S → Option (Ctl ρ S)} {n : Nat} {s0 : S} {cc : Ctl ρ S} (hp : PassesOwn (model X.prog X.w) X.A X.env X.xe) (h : whl test body n s0 = some cc) (I : S → L2.St → Hp → Hp → Prop) (RT : ρ → V → Hp → Prop) (h0 : I s0 σ H G)
    (ht : ∀ s σ1 H1 G1 b, test s = some b → I s σ1 H1 G1 → wpT X c σ1 H1 fun b' H2 => b' = b ∧ ∃ G2, Rc [] H1 G1 H2 G2)
    (hm : ∀ s σ1 H1 G1 H2 G2, I s σ1 H1 G1 → Rc [] H1 G1 H2 G2 → I s σ1 H2 G2)
    (hb : ∀ s σ1 H1 G1 c', test s = some true → body s = some c' → I s σ1 H1 G1 →
      wpB X sts { nx := fun σ H => ∃ s' G, c' = .nx s' ∧ I s' σ H G, rt := fun v H => ∃ r, c' = .rt r ∧ RT r v H, bk := fun σ H => ∃ s' G, c' = .bk s' ∧ I s' σ H G, ct := fun σ H => ∃ s' G, c' = .nx s' ∧ I s' σ H G } σ1 H1)
    (hd : ∀ s σ1 H1 G1, cc = .nx s → I s σ1 H1 G1 → D.nx σ1 H1) (hr : ∀ r v H1, cc = .rt r → RT r v H1 → D.rt v H1) : wpS X (.While c sts [] pos) D σ H := by
  refine toS (ps_while hp pt_wp pss_wp) ⟨fun m σ' H' => ∃ s G', I s σ' H' G' ∧ whl test body m s = some cc, ⟨n, s0, G, h0, h⟩, ?_⟩
  rintro m σ' H' ⟨s, G', hI, hf⟩
  cases m with
  | zero => cases hf
  | succ m =>
    obtain ⟨b, hb1, hf⟩ := bind_some hf
    refine wpT_mono ?_ (ht s σ' H' G' b hb1 hI)
    rintro b' H2 ⟨rfl, G2, s2⟩
    have hI2 := hm _ _ _ _ _ _ hI s2
    rcases cond_some hf with ⟨eb, hf⟩ | ⟨eb, hf⟩
    · subst eb
      rw [if_pos rfl]
      obtain ⟨c', hc', hf⟩ := bind_some hf
      refine ⟨fun σ1 H1 => ∃ s G', I s σ1 H1 G' ∧ whl test body m s = some cc, fun σ1 H1 k => ⟨m, Nat.lt_succ_self m, k⟩, ?_⟩
      refine wpB_imp (hb s σ' H2 G2 c' hb1 hc' hI2) ?_ ?_ ?_ ?_
      · rintro σ1 H1 ⟨s', G1, ec, k⟩
        subst ec
        exact ⟨s', G1, k, hf⟩
      · rintro v H1 ⟨r, ec, k⟩
        subst ec
        exact hr r v H1 (Option.some.inj hf).symm k
      · rintro σ1 H1 ⟨s', G1, ec, k⟩
        subst ec
        exact hd s' σ1 H1 G1 (Option.some.inj hf).symm k
      · rintro σ1 H1 ⟨s', G1, ec, k⟩
        subst ec
        exact ⟨s', G1, k, hf⟩
    · subst eb
      rw [if_neg Bool.false_ne_true]
      exact hd s σ' H2 G2 (Option.some.inj hf).symm hI2
end
end PX

/-! PXh: isinstance, max and min with a default, truth of lists, pop. -/
namespace PX
open PySem L2
/-- what isinstance sees -/
class HasTy (α : Type) extends Rep α where
  tn : String
  ty : ∀ {K : PySem.W.Frag} {G : Hp} {v : V} {x : α}, Rep.rel K G v x → TyX K G v (.type tn)
instance : HasTy Int where
  tn := "int"
  ty := fun h => by
    cases h
    exact .base (.int _)
instance : HasTy Bool where
  tn := "bool"
  ty := fun h => by
    cases h
    exact .base (.bl _)
instance {α : Type} [Rep α] : HasTy (List α) where
  tn := "list"
  ty := fun ⟨a, vs, h1, h2, h3⟩ => by
    subst h1
    exact .base (.lst h2)
section
variable {X : Cx} {σ : L2.St} {H G : Hp} {α β γ ι S ρ : Type} [Rep α] [Rep β] [Rep γ] {a b c d e : Expr} {es rest : List Expr} {pos p2 p p3 apos kp : Pos} {x : α} {D : Ends} {nm : Str} {i j : Nat}
theorem ev_isi {α : Type} [HasTy α] {x : α} {T : Str} {N : String} {r : Bool} {pT : Pos} (hm : X.mg "isinstance" = none) (hmT : X.mg T = none) (hvT : bootBuiltins T = some (.type N)) (hr : kitB (HasTy.tn α) N = some r) (ha : EvX X a σ H G x)
    (hg : Gl X "isinstance" := by rfl) (hgT : Gl X T := by rfl) (hn : T ≠ "__name__" := by decide) (hd : (T == ("__debug__" : Str)) = false := by decide) (he : starEach [a, .Name T pT] X.env = (false, eval a X.env) :: starEach [.Name T pT] X.env := by rfl)
    (he2 : starEach [.Name T pT] X.env = (false, eval (.Name T pT) X.env) :: starEach [] X.env := by rfl) (hpl : (backTo pos (starEach [.Name T pT] X.env)).any (·.1) = false := by rfl) : EvX X (.Call (.Name "isinstance" p) [a, .Name T pT] [] pos) σ H G r := fun H1 G1 s Q k =>
  toE (pe_callB call_isi hg hm (by decide +kernel) (pa_cons pe_wp (pa_cons (pe_bltn (v := .ty N) hgT hmT hvT rfl hn hd) pa_nil he2) he) (by decide) (by decide) he hpl) (show wpE X a σ H1 _ from ha H1 G1 s _ fun v H2 G2 s2 r2 =>
    ⟨v, .ty N, _, _, r, rfl, .ty N, HasTy.ty (Rep.mono s2.sub r2), kit_ty hr, k _ H2 G2 s2 rfl⟩)
/-! ### max(xs, default=d), min(xs, default=d) -/
def maxD (d : Int) : List Int → Int
  | [] => d
  | x :: r => r.foldl max x
def minD (d : Int) : List Int → Int
  | [] => d
  | x :: r => r.foldl min x
theorem maxOf_foldl (x : Int) (r : List Int) : PySem.W.maxOf x r = r.foldl max x := by
  unfold PySem.W.maxOf
  congr 1
  funext a y
  show (if decide (a < y) = true then y else a) = max a y
  rw [Int.max_def]
  by_cases h : a < y
  · rw [if_pos (decide_eq_true h), if_pos (by omega)]
  · rw [if_neg (by simpa using h)]
    split <;> omega
theorem minOf_foldl (x : Int) (r : List Int) : PySem.W.minOf x r = r.foldl min x := by
  unfold PySem.W.minOf
  congr 1
  funext a y
  show (if decide (y < a) = true then y else a) = min a y
  rw [Int.min_def]
  by_cases h : y < a
  · rw [if_pos (decide_eq_true h)]
    split <;> omega
  · rw [if_neg (by simpa using h)]
    split <;> omega
theorem holds_int {h : Heap} {v : Value} {i : Int} (q : PySem.W.Holds h v i) : ∃ t, v = .int i t := by
  obtain ⟨as, r⟩ := q
  cases r with
  | int i t => exact ⟨t, rfl⟩
theorem reads_ints {pins : List (Addr × Obj)} {s : Shared} (I : Inv X pins σ H s) {its : List Value} {ns : List Int} (r : L2.Vals (ns.map V.int) its) : PySem.W.HoldAll s.heap its ns := by
  obtain ⟨as, q⟩ := Dp.readsAll I (ns.map PyData.int) (ns.map V.int) its (dp_all (rels_of_int (K := X.K) (G := H) ns)) r
  exact ⟨as, q⟩
theorem wp_maxD {Q : VK} (hc : X.calm = true) (hu : X.A.units + 64 < cLine) (hm : X.mg "max" = none) (h : wpE X e σ H fun x H1 => wpE X d σ H1 fun y H2 => ∃ a ns i, x = .ref a ∧ SqL X.K H2 a (ns.map V.int) ∧ y = .int i ∧ Q (.int (maxD i ns)) H2) (hg : Gl X "max" := by rfl)
    (he : starEach [e] X.env = (false, eval e X.env) :: starEach [] X.env := by rfl) (he2 : backTo pos (starEach [e] X.env) = (false, eval e X.env) :: backTo pos (starEach [] X.env) := by rfl) (hpl : (backTo pos (starEach [e] X.env)).any (·.1) = false := by rfl)
    (hall : (backToKw pos (keywordEach [⟨some "default", d, kp⟩] X.env)).all (·.1.isSome) = true := by rfl) (hkw : (backToKw pos (keywordEach [⟨some "default", d, kp⟩] X.env)).any (·.1.isNone) = false := by rfl) :
    wpE X (.Call (.Name "max" p) [e] [⟨some "default", d, kp⟩] pos) σ H Q := by
  intro pins s I
  refine wpAny_Call_Name_kw (ld_blt I hg hm (u := .builtin "max") (by decide +kernel) ?_)
  refine PyProof.Rows.callWith_kw ?_ he2 hpl hall hkw
  refine thn ((pa_cons pe_wp pa_nil he).run pos pins s σ H (fun vs H1 => ∃ x, vs = [x] ∧ wpE X d σ H1 fun y H2 => ∃ a ns i, x = .ref a ∧ SqL X.K H2 a (ns.map V.int) ∧ y = .int i ∧ Q (.int (maxD i ns)) H2) I (show wpE X e σ H _ from wpE_mono (fun x H1 q => ⟨x, rfl, q⟩) h))
    fun us s1 ⟨vs, H1, I1, r1, x, e1, q1⟩ => ?_
  subst e1
  obtain ⟨u, rfl, ru⟩ := r1.one
  refine PyProof.Rows.kws_cons (thn (q1 pins s1 I1) fun v s2 ⟨y, H2, I2, r2, a, ns, i, ex, hs, ey, q⟩ => PyProof.Rows.kws_nil ?_)
  subst ex ey
  cases ru
  obtain ⟨its, rv, hl, _⟩ := I2.list hs
  have hh := reads_ints I2 rv
  refine PySem.W.max_list_datum_default (xs := ns) (I2.ok.hd hc) hl.isList hh (by show X.A.units + 1 + 0 < cLine; omega) (fun en h' tk hk => ?_) fun z zs j w h' tk en hj hw hk => ?_
  · subst en
    exact ⟨.int i, H2, I2.kept hk, r2, q⟩
  · subst en
    obtain ⟨t, rfl⟩ := holds_int hw
    exact ⟨.int _, H2, I2.kept hk, ⟨t, rfl⟩, by rw [maxOf_foldl]; exact q⟩
theorem ev_maxD {xs : List Int} {i : Int} (hc : X.calm = true) (hu : X.A.units + 64 < cLine) (hm : X.mg "max" = none) (ha : EvX X e σ H G xs) (hb : EvX X d σ H G i) (hg : Gl X "max" := by rfl)
    (he : starEach [e] X.env = (false, eval e X.env) :: starEach [] X.env := by rfl) (he2 : backTo pos (starEach [e] X.env) = (false, eval e X.env) :: backTo pos (starEach [] X.env) := by rfl) (hpl : (backTo pos (starEach [e] X.env)).any (·.1) = false := by rfl)
    (hall : (backToKw pos (keywordEach [⟨some "default", d, kp⟩] X.env)).all (·.1.isSome) = true := by rfl) (hkw : (backToKw pos (keywordEach [⟨some "default", d, kp⟩] X.env)).any (·.1.isNone) = false := by rfl) :
    EvX X (.Call (.Name "max" p) [e] [⟨some "default", d, kp⟩] pos) σ H G (maxD i xs) := fun H1 G1 s Q k =>
  wp_maxD hc hu hm (ha H1 G1 s _ fun v H2 G2 s2 r2 => hb H2 G2 (s.trans s2) _ fun w H3 G3 s3 r3 => by
    obtain ⟨l, vs, q1, q2, q3⟩ := Rep.mono s3.ex r2
    rw [rels_int q3] at q2
    exact ⟨l, xs, i, q1, .inl (.inl (s3.sub _ _ q2)), r3, k _ H3 G3 (s2.trans s3) rfl⟩) hg he he2 hpl hall hkw
theorem wp_minD {Q : VK} (hc : X.calm = true) (hu : X.A.units + 64 < cLine) (hm : X.mg "min" = none) (h : wpE X e σ H fun x H1 => wpE X d σ H1 fun y H2 => ∃ a ns i, x = .ref a ∧ SqL X.K H2 a (ns.map V.int) ∧ y = .int i ∧ Q (.int (minD i ns)) H2) (hg : Gl X "min" := by rfl)
    (he : starEach [e] X.env = (false, eval e X.env) :: starEach [] X.env := by rfl) (he2 : backTo pos (starEach [e] X.env) = (false, eval e X.env) :: backTo pos (starEach [] X.env) := by rfl) (hpl : (backTo pos (starEach [e] X.env)).any (·.1) = false := by rfl)
    (hall : (backToKw pos (keywordEach [⟨some "default", d, kp⟩] X.env)).all (·.1.isSome) = true := by rfl) (hkw : (backToKw pos (keywordEach [⟨some "default", d, kp⟩] X.env)).any (·.1.isNone) = false := by rfl) :
    wpE X (.Call (.Name "min" p) [e] [⟨some "default", d, kp⟩] pos) σ H Q := by
  intro pins s I
  refine wpAny_Call_Name_kw (ld_blt I hg hm (u := .builtin "min") (by decide +kernel) ?_)
  refine PyProof.Rows.callWith_kw ?_ he2 hpl hall hkw
  refine thn ((pa_cons pe_wp pa_nil he).run pos pins s σ H (fun vs H1 => ∃ x, vs = [x] ∧ wpE X d σ H1 fun y H2 => ∃ a ns i, x = .ref a ∧ SqL X.K H2 a (ns.map V.int) ∧ y = .int i ∧ Q (.int (minD i ns)) H2) I (show wpE X e σ H _ from wpE_mono (fun x H1 q => ⟨x, rfl, q⟩) h))
    fun us s1 ⟨vs, H1, I1, r1, x, e1, q1⟩ => ?_
  subst e1
  obtain ⟨u, rfl, ru⟩ := r1.one
  refine PyProof.Rows.kws_cons (thn (q1 pins s1 I1) fun v s2 ⟨y, H2, I2, r2, a, ns, i, ex, hs, ey, q⟩ => PyProof.Rows.kws_nil ?_)
  subst ex ey
  cases ru
  obtain ⟨its, rv, hl, _⟩ := I2.list hs
  have hh := reads_ints I2 rv
  refine PySem.W.min_list_datum_default (xs := ns) (I2.ok.hd hc) hl.isList hh (by show X.A.units + 1 + 0 < cLine; omega) (fun en h' tk hk => ?_) fun z zs j w h' tk en hj hw hk => ?_
  · subst en
    exact ⟨.int i, H2, I2.kept hk, r2, q⟩
  · subst en
    obtain ⟨t, rfl⟩ := holds_int hw
    exact ⟨.int _, H2, I2.kept hk, ⟨t, rfl⟩, by rw [minOf_foldl]; exact q⟩
theorem ev_minD {xs : List Int} {i : Int} (hc : X.calm = true) (hu : X.A.units + 64 < cLine) (hm : X.mg "min" = none) (ha : EvX X e σ H G xs) (hb : EvX X d σ H G i) (hg : Gl X "min" := by rfl)
    (he : starEach [e] X.env = (false, eval e X.env) :: starEach [] X.env := by rfl) (he2 : backTo pos (starEach [e] X.env) = (false, eval e X.env) :: backTo pos (starEach [] X.env) := by rfl) (hpl : (backTo pos (starEach [e] X.env)).any (·.1) = false := by rfl)
    (hall : (backToKw pos (keywordEach [⟨some "default", d, kp⟩] X.env)).all (·.1.isSome) = true := by rfl) (hkw : (backToKw pos (keywordEach [⟨some "default", d, kp⟩] X.env)).any (·.1.isNone) = false := by rfl) :
    EvX X (.Call (.Name "min" p) [e] [⟨some "default", d, kp⟩] pos) σ H G (minD i xs) := fun H1 G1 s Q k =>
  wp_minD hc hu hm (ha H1 G1 s _ fun v H2 G2 s2 r2 => hb H2 G2 (s.trans s2) _ fun w H3 G3 s3 r3 => by
    obtain ⟨l, vs, q1, q2, q3⟩ := Rep.mono s3.ex r2
    rw [rels_int q3] at q2
    exact ⟨l, xs, i, q1, .inl (.inl (s3.sub _ _ q2)), r3, k _ H3 G3 (s2.trans s3) rfl⟩) hg he he2 hpl hall hkw

/-! ### truth of a list; pop -/
theorem et_list {xs : List α} (h : EvX X e σ H G xs) (he : ∀ whole, isTrue e X.env whole = (do let v ← whole; standAt e.pos; holding [v] (truthy v)) := by intro _; rfl) : EvT X e σ H G (!xs.isEmpty) := fun H1 G1 s Q k =>
  toT (pt_truth pe_wp he) (show wpE X e σ H1 _ from h H1 G1 s _ fun v H2 G2 s2 ⟨a, vs, q1, q2, q3⟩ => ⟨!xs.isEmpty, by
    subst q1
    exact .inl ⟨vs, .inl (.inl (s2.sub _ _ q2)), by cases q3 <;> rfl⟩, k H2 G2 s2⟩)
def popO {α : Type} (xs : List α) : Option (α × List α) := match xs.getLast? with
  | none => none
  | some x => some (x, xs.dropLast)
theorem paired_dropLast {F : V → α → Prop} : ∀ {vs : List V} {xs : List α}, Paired F vs xs → Paired F vs.dropLast xs.dropLast
  | _, _, .nil => .nil
  | _, _, .cons _ .nil => .nil
  | _, _, .cons h (.cons h' t) => .cons h (paired_dropLast (.cons h' t))
theorem ws_setpop {l : Addr} {xs zs : List α} {z : α} (hN : X.N.Nodup) (hs : σ[i]? = some (some (.ref l))) (g0 : Ex G H) (ow : Own X.K H G l xs) (hz : popO xs = some (z, zs)) (k : ∀ v H2 G2, (∀ m H0 G0, Rc m H0 G0 H G → (H0 l = none ∨ l ∈ m) → Rc m H0 G0 H2 G2) → Rc [l] H G H2 G2 → Own X.K H2 G2 l zs → Rep.rel X.K G2 v z → D.nx (σ.set j (some v)) H2)
    {n2 : Str} (hi : X.N[i]? = some nm := by rfl) (hj : X.N[j]? = some n2 := by rfl) (hv : Vis X.env.scope nm := by first | exact Or.inl rfl | exact Or.inr (Or.inl rfl) | exact Or.inr (Or.inr rfl)) (hd : (nm == ("__debug__" : Str)) = false := by decide) (hcd : (nm == ("__classdict__" : Str)) = false := by decide)
    (hx : Loc X.env.scope n2 := by first | exact Or.inl rfl | exact Or.inr rfl)
    (hbase : attributeBase (.Name nm p) "pop" X.env (eval (.Name nm p) X.env) = eval (.Name nm p) X.env := by rfl) (hline : (apos.endLine == p2.line) = true := by rfl)
    (hsw : swapsWith (.Call (.Attribute (.Name nm p) "pop" apos) [] [] p2) (some (.Name n2 kp)) pos.line X.env = pure false := by rfl)
    (hf : X.fn n2 = true ∨ X.env.scope.names.lookup n2 = some .local := by first | exact .inl rfl | exact .inr rfl) : wpS X (.Assign [.Name n2 kp] (.Call (.Attribute (.Name nm p) "pop" apos) [] [] p2) pos) D σ H := by
  obtain ⟨vs, q1, q2, q3⟩ := ow
  unfold popO at hz
  cases hl : xs.getLast? with
  | none =>
    rw [hl] at hz
    cases hz
  | some z' =>
    rw [hl] at hz
    cases hz
    rw [List.getLast?_eq_getElem?] at hl
    obtain ⟨v, e1, e2⟩ := Paired.get q3 hl
    refine ws_set (i := j) hN (toE (pe_bm0 PySem.F.plainAttrs_list PySem.F.slot_list_pop PySem.F.type_list_pop mt_pop (pv i hi hv hd hcd) hbase hline) ⟨.ref l, hs, .inl ⟨rfl, _, .inl (.inl q1)⟩, ?_⟩) hj hx hsw hf
    exact ⟨l, vs, v, rfl, rfl, q1, by rw [Paired.len q3]; exact e1, k v _ G (fun m H0 G0 r n => r.write n q2) ((Rc.refl g0).write (.inr List.mem_cons_self) q2) ⟨_, upd_same, q2, paired_dropLast q3⟩ e2⟩
end
end PX
namespace PX
open PySem L2
/-! ### what the printed texts use -/
theorem Rc.back {m : List Addr} {H G H1 G1 : Hp} {p : Addr} (r : Rc m H G H1 G1) (n : H1 p = none) : H p = none := by
  cases e : H p with
  | none => rfl
  | some u =>
    obtain ⟨u', e'⟩ := r.dom p u e
    rw [n] at e'
    cases e'
theorem if_t {b : Bool} {A B : Prop} (h : b = true) (q : A) : if b = true then A else B := by
  rw [if_pos h]
  exact q
theorem if_f {b : Bool} {A B : Prop} (h : b = false) (q : B) : if b = true then A else B := by
  rw [if_neg (by rw [h]; exact Bool.false_ne_true)]
  exact q
theorem cond_t {α : Type} {b : Bool} {x y : Option α} {z : α} (hb : b = true) (h : cond b x y = some z) : x = some z := by
  subst hb
  exact h
theorem cond_f {α : Type} {b : Bool} {x y : Option α} {z : α} (hb : b = false) (h : cond b x y = some z) : y = some z := by
  subst hb
  exact h
def eqs {α : Type} [Eqs α] (x y : α) : Bool := decide (x = y)
theorem eqs_true {α : Type} [Eqs α] {x y : α} : eqs x y = true ↔ x = y := by unfold eqs; exact decide_eq_true_iff
theorem eqs_self {α : Type} [Eqs α] {x : α} : eqs x x = true := eqs_true.mpr rfl
theorem eqs_false {α : Type} [Eqs α] {x y : α} : eqs x y = false ↔ x ≠ y := by unfold eqs; exact decide_eq_false_iff_not
section
variable {X : Cx} {σ : L2.St} {H G : Hp} {α β γ : Type} [Rep α] [Rep β] [Rep γ] {a b c e : Expr} {es rest : List Expr} {pos : Pos} {x y : α} {t u : Bool}
theorem ew_andP (h : EvT X a σ H G t) (h2 : EvW X (.BoolOp .And (b :: rest) pos) σ H G u) : EvW X (.BoolOp .And (a :: b :: rest) pos) σ H G (t && u) := by
  cases t with
  | true => exact ew_and h (fun _ => h2) fun z => nomatch z
  | false => exact ew_and h (fun z => nomatch z) fun _ => rfl
theorem ew_orP (h : EvT X a σ H G t) (h2 : EvW X (.BoolOp .Or (b :: rest) pos) σ H G u) : EvW X (.BoolOp .Or (a :: b :: rest) pos) σ H G (t || u) := by
  cases t with
  | false => exact ew_or h (fun _ => h2) fun z => nomatch z
  | true => exact ew_or h (fun z => nomatch z) fun _ => rfl
theorem ev_andP (h : EvX X a σ H G t) (h2 : EvX X (.BoolOp .And (b :: rest) pos) σ H G u) : EvX X (.BoolOp .And (a :: b :: rest) pos) σ H G (t && u) := by
  cases t with
  | true => exact ev_and h (fun _ => h2) fun z => nomatch z
  | false => exact ev_and h (fun z => nomatch z) fun _ => rfl
theorem ev_orP (h : EvX X a σ H G t) (h2 : EvX X (.BoolOp .Or (b :: rest) pos) σ H G u) : EvX X (.BoolOp .Or (a :: b :: rest) pos) σ H G (t || u) := by
  cases t with
  | false => exact ev_or h (fun _ => h2) fun z => nomatch z
  | true => exact ev_or h (fun z => nomatch z) fun _ => rfl
theorem ev_ifP (h : EvT X c σ H G t) (h1 : EvX X a σ H G x) (h2 : EvX X b σ H G y) : EvX X (.IfExp c a b pos) σ H G (cond t x y) := by
  cases t with
  | true => exact ev_if h (fun _ => h1) fun z => nomatch z
  | false => exact ev_if h (fun z => nomatch z) fun _ => h2
theorem ev_eq' {α : Type} [Eqs α] {x y : α} (hu : X.A.units + 64 < cLine) (ha : EvX X a σ H G x) (hb : EvX X b σ H G y) : EvX X (.Compare a [.Eq] [b] pos) σ H G (eqs x y) := ev_eq hu ha hb
theorem ev_ne' {α : Type} [Eqs α] {x y : α} (hu : X.A.units + 64 < cLine) (ha : EvX X a σ H G x) (hb : EvX X b σ H G y) : EvX X (.Compare a [.NotEq] [b] pos) σ H G (!eqs x y) := ev_ne hu ha hb
theorem et_eq' {α : Type} [Eqs α] {x y : α} (hu : X.A.units + 64 < cLine) (ha : EvX X a σ H G x) (hb : EvX X b σ H G y) : EvT X (.Compare a [.Eq] [b] pos) σ H G (eqs x y) := et_eq hu ha hb
theorem et_ne' {α : Type} [Eqs α] {x y : α} (hu : X.A.units + 64 < cLine) (ha : EvX X a σ H G x) (hb : EvX X b σ H G y) : EvT X (.Compare a [.NotEq] [b] pos) σ H G (!eqs x y) := et_ne hu ha hb
end
/-! ### a def that may be called -/
structure Cal (P : Program) (w : World) (K : PySem.W.Frag) (mg : Str → Option Value) (base : Heap) (nm : Str) (k : Nat) (ps : List Str) (sp : Sp) : Prop where
  ex : ∃ (f : Addr) (fd : FuncData), FnG P w K mg base CX0 k f fd ps sp ∧ mg nm = some (.ref f) ∧ PySem.W.keepIn K (.ref f) = true ∧ Binds K fd ps []
section
variable {X : Cx} {σ : L2.St} {H G : Hp} {α γ τ : Type} [Rep α] [Rep γ] [ArgsR τ] {e : Expr} {es : List Expr} {pos p : Pos} {w : τ} {k j : Nat} {ps : List Str} {nm : Str}
theorem ec_V {fn : τ → Option γ} {r : γ} (C : Cal X.prog X.w X.K X.mg X.base nm k ps (spV fn X.K)) (hG : X.A.guards = some []) (hr : Room j X.A) (hk : k ≤ j) (h : fn w = some r) (ha : EvA X (e :: es) σ H G w)
    (hg : Gl X nm := by rfl) (hdb : (nm == ("__debug__" : Str)) = false := by decide) (he : starEach (e :: es) X.env = (false, eval e X.env) :: starEach es X.env := by rfl) (hpl : (backTo pos (starEach es X.env)).any (·.1) = false := by rfl) : EvX X (.Call (.Name nm p) (e :: es) [] pos) σ H G r := by
  obtain ⟨f, fd, F, c1, c2, c3⟩ := C.ex
  exact ev_call F hG (hr.mono hk) c1 c2 c3 h ha hg hdb he hpl
theorem ec_N {fn : τ → Option (List γ)} {r : List γ} (C : Cal X.prog X.w X.K X.mg X.base nm k ps (spN fn X.K)) (hG : X.A.guards = some []) (hr : Room j X.A) (hk : k ≤ j) (h : fn w = some r) (ha : EvA X (e :: es) σ H G w)
    (hg : Gl X nm := by rfl) (hdb : (nm == ("__debug__" : Str)) = false := by decide) (he : starEach (e :: es) X.env = (false, eval e X.env) :: starEach es X.env := by rfl) (hpl : (backTo pos (starEach es X.env)).any (·.1) = false := by rfl) : EvN X (.Call (.Name nm p) (e :: es) [] pos) σ H G r := by
  obtain ⟨f, fd, F, c1, c2, c3⟩ := C.ex
  exact ev_callN F hG (hr.mono hk) c1 c2 c3 h ha hg hdb he hpl
theorem wc {sp : Sp} {Q : VK} (C : Cal X.prog X.w X.K X.mg X.base nm k ps sp) (hG : X.A.guards = some []) (hr : Room j X.A) (hk : k ≤ j) (h : wpA X (e :: es) σ H fun vs H1 => sp vs H1 Q E0)
    (hg : Gl X nm := by rfl) (hdb : (nm == ("__debug__" : Str)) = false := by decide) (he : starEach (e :: es) X.env = (false, eval e X.env) :: starEach es X.env := by rfl) (hpl : (backTo pos (starEach es X.env)).any (·.1) = false := by rfl) : wpE X (.Call (.Name nm p) (e :: es) [] pos) σ H Q := by
  obtain ⟨f, fd, F, c1, c2, c3⟩ := C.ex
  exact wp_call F hG (hr.mono hk) c1 c2 c3 h hg hdb he hpl
end
/-! ### what a def hands back, by its kind -/
def RTV {γ : Type} [Rep γ] (K : PySem.W.Frag) (m : List Addr) (H0 G0 : Hp) (r : γ) (v : V) (H : Hp) : Prop := ∃ G, Rc m H0 G0 H G ∧ Rep.rel K G v r
def RTN {γ : Type} [Rep γ] (K : PySem.W.Frag) (m : List Addr) (H0 G0 : Hp) (r : List γ) (v : V) (H : Hp) : Prop := ∃ p G, v = .ref p ∧ Rc m H0 G0 H G ∧ H0 p = none ∧ Own K H G p r
def RTM {α γ : Type} [Rep α] [Rep γ] (K : PySem.W.Frag) (a : Addr) (H0 G0 : Hp) (r : γ × List α) (v : V) (H : Hp) : Prop := ∃ G, Rc [a] H0 G0 H G ∧ Own K H G a r.2 ∧ Rep.rel K G v r.1
def RTMN {α γ : Type} [Rep α] [Rep γ] (K : PySem.W.Frag) (a : Addr) (H0 G0 : Hp) (r : List γ × List α) (v : V) (H : Hp) : Prop := ∃ p G, v = .ref p ∧ Rc [a] H0 G0 H G ∧ H0 p = none ∧ Own K H G a r.2 ∧ Own K H G p r.1
end PX
namespace PX
open PySem L2
def aft {ρ S T : Type} (c : Ctl ρ S) (k : S → Option T) (r : ρ → Option T) : Option T := match c with
  | .nx s => k s
  | .bk _ => none
  | .rt y => r y
theorem aft_nx {ρ S T : Type} {c : Ctl ρ S} {k : S → Option T} {r : ρ → Option T} {s : S} {z : T} (e : c = .nx s) (h : aft c k r = some z) : k s = some z := by
  subst e
  exact h
theorem aft_rt {ρ S T : Type} {c : Ctl ρ S} {k : S → Option T} {r : ρ → Option T} {y : ρ} {z : T} (e : c = .rt y) (h : aft c k r = some z) : r y = some z := by
  subst e
  exact h
theorem lend1 {α : Type} [Rep α] {K : PySem.W.Frag} {G : Hp} {xs : List α} {p : Addr} {vs : List V} (h2 : G p = none) (h3 : Rels K G vs xs) : Rep.rel K (upd G p (.lst vs)) (.ref p) xs := ⟨p, vs, rfl, upd_same, Rels.mono (Ex.new h2) h3⟩
theorem tYes_of {σ : L2.St} {H : Hp} {P R : Hp → Prop} (h : P H) : tYes σ H fun b H3 => if b = true then P H3 else R H3 := by
  show (if true = true then P H else R H)
  rw [if_pos rfl]
  exact h
/-- a comprehension whose items change a list of ours -/
def lcM {ι β S : Type} (f : ι → S → Option (β × S)) : List ι → S → Option (List β × S)
  | [], s => some ([], s)
  | x :: r, s => (f x s).bind fun y => (lcM f r y.2).bind fun ys => some (y.1 :: ys.1, ys.2)
section
variable {X : Cx} {σ : L2.St} {H G : Hp} {α β ι : Type} [Rep α] [Rep β] {tg iter elt : Expr} {pos : Pos} {g : TG} {scope : Scope} {own : List (Str × Nat)} {items : List ι} {R : ι → Hp → (L2.St → L2.St) → Prop} {f : ι → List α → Option (β × List α)} {a : Addr} {pot : List α} {res : List β × List α}
theorem wp_lcM (hc : X.calm = true) (hN : X.N.Nodup) (ok : BlkOk X.N X.env.scope scope own) (hi : EvI X tg iter g σ H G items R) (g0 : Ex G H) (ow : Own X.K H G a pot)
    (hg : ∀ (s : Shared) (H : Hp) (C : Addr) (cl : List (Str × Addr)) (fp : List Addr), PG (X.blk s H scope (compEnvC scope cl C X.env) fp) tg g) (h : lcM f items pot = some res)
    (hw : ∀ x G u, R x G u → wipe (u (wipe σ (own.map (·.2)))) (own.map (·.2)) = wipe σ (own.map (·.2)))
    (he : ∀ (s : Shared) (H0 : Hp) (C : Addr) (cl : List (Str × Addr)) (fp : List Addr) x pt y u H1 G1, Rc [a] H G H1 G1 → R x G1 u → f x pt = some y → Own X.K H1 G1 a pt →
      wpE (X.blk s H0 scope (compEnvC scope cl C X.env) fp) elt (u (wipe σ (own.map (·.2)))) H1 fun v H2 => ∃ G2, Rc [a] H1 G1 H2 G2 ∧ Own X.K H2 G2 a y.2 ∧ Rep.rel X.K G2 v y.1)
    {Q : VK} (k : ∀ p H2 G2, Rc [a] H G H2 G2 → H p = none → Own X.K H2 G2 a res.2 → Own X.K H2 G2 p res.1 → Q (.ref p) H2)
    (hs : ∀ x, foldedSetIterable iter X.env x = pure x := by intro _; rfl) : wpE X (.ListComp elt [⟨tg, iter, [], 0⟩] scope pos) σ H Q := by
  refine toE (pe_lc (tt := tYes) (te := fun σ H Q => ∀ (s : Shared) (H0 : Hp) (C : Addr) (cl : List (Str × Addr)) (fp : List Addr), wpE (X.blk s H0 scope (compEnvC scope cl C X.env) fp) elt σ H Q) hc hN pi_wp ok hg
      (fun s H0 C cl fp => pts_nil) (fun s H0 C cl fp => ⟨fun pins s1 σ1 H1 Q I q => q s H0 C cl fp pins s1 I⟩) hs) (show wpI X tg iter σ H _ from ?_)
  refine hi H G (Rc.refl g0) _ fun J H1 G1 s1 W1 => ?_
  intro Dl nD
  have ow1 := ow.step0 s1
  have hne : a ≠ Dl := ow1.ne nD
  have sD : Rc [a] H1 G1 (upd H1 Dl (.lst [])) G1 := Rc.new s1.sub nD
  have owD : Own X.K (upd H1 Dl (.lst [])) G1 a pot := by
    obtain ⟨vs, q1, q2, q3⟩ := ow1
    exact ⟨vs, by rw [upd_ne hne]; exact q1, q2, q3⟩
  refine ⟨fun i m H' => m = items.length - i ∧ i ≤ items.length ∧ ∃ (G' : Hp) (done : List β) (pt : List α) (more : List β × List α), Rc [a] H1 G1 H' G' ∧ Own X.K H' G' Dl done ∧ Own X.K H' G' a pt ∧ done.length ≤ i ∧ lcM f (items.drop i) pt = some more ∧ res = (done ++ more.1, more.2),
    ⟨items.length, by omega, Nat.zero_le _, G1, [], pot, res, sD, Own.mk s1.sub nD .nil, owD, Nat.zero_le _, h, rfl⟩, ?_⟩
  rintro i m H' ⟨rfl, hle, G', done, pt, more, sr, ow', owa, hz, hm, hy⟩
  by_cases hlt : i < items.length
  · refine .inr ?_
    have hx : items[i]? = some items[i] := List.getElem?_eq_getElem hlt
    obtain ⟨go, step⟩ := W1.go i items[i] H' G' hx sr.ex sr.sub
    rw [List.drop_eq_getElem_cons hlt] at hm
    refine ⟨go, fun H'' => ∃ (G'' : Hp) (done : List β) (pt : List α) (more : List β × List α), Rc [a] H1 G1 H'' G'' ∧ Own X.K H'' G'' Dl done ∧ Own X.K H'' G'' a pt ∧ done.length ≤ i + 1 ∧ lcM f (items.drop (i + 1)) pt = some more ∧ res = (done ++ more.1, more.2),
      fun H'' ⟨G'', done, pt, more, k1, k2, k3, k4, k5, k6⟩ => ⟨items.length - (i + 1), by omega, rfl, hlt, G'', done, pt, more, k1, k2, k3, k4, k5, k6⟩, fun v H'' y => ?_⟩
    refine step v H'' y _ _ fun uu G'' s2 r2 => ⟨hw _ _ _ r2, ?_⟩
    have s3 : Rc [a] H G H'' G'' := (s1.any.trans sr).then s2
    obtain ⟨y0, hy0, hm⟩ := bind_some hm
    obtain ⟨more', hm', hm⟩ := bind_some hm
    refine tYes_of ?_
    intro sh H0 C cl fp
    refine wpE_mono ?_ (he sh H0 C cl fp items[i] pt y0 uu H'' G'' s3 r2 hy0 (owa.step0 s2))
    rintro w H4 ⟨G4, s5, o5, r5⟩
    have ndl : Dl ∉ [a] := fun z => hne (List.mem_singleton.mp z).symm
    obtain ⟨vs', h1, h2, h3⟩ := (ow'.step0 s2).step s5 ndl
    have hlen := W1.len
    have o6 : Own X.K (upd H4 Dl (.lst (vs' ++ [w]))) G4 a y0.2 := by
      obtain ⟨vs, q1, q2, q3⟩ := o5
      exact ⟨vs, by rw [upd_ne hne]; exact q1, q2, q3⟩
    have hz' : vs'.length < sizeLine := by rw [Paired.len h3]; omega
    refine ⟨vs', h1, hz', G4, done ++ [y0.1], y0.2, more', ((sr.then s2).trans s5).write (.inl nD) h2, ⟨_, upd_same, h2, Paired.append h3 (.cons r5 .nil)⟩, o6, ?_, hm', ?_⟩
    · rw [List.length_append]
      show done.length + 1 ≤ i + 1
      omega
    · rw [hy, ← Option.some.inj hm]
      show (done ++ (y0.1 :: more'.1), more'.2) = _
      rw [List.append_assoc]
      rfl
  · have ei : i = items.length := by omega
    subst ei
    refine .inl ⟨W1.stop H' G' sr.ex sr.sub, ?_⟩
    rw [List.drop_length] at hm
    have em : ([], pt) = more := Option.some.inj hm
    subst em
    subst hy
    have k' := k Dl H' G' (s1.any.trans sr) (none_back s1.exH nD)
    refine k' owa ?_
    show Own X.K H' G' Dl (done ++ [])
    rw [List.append_nil]
    exact ow'
end
end PX
namespace PX
open PySem L2
theorem Own.frz {α : Type} [Rep α] {K : PySem.W.Frag} {H G : Hp} {p q : Addr} {o : HO} {xs : List α} (h : Own K H G q xs) (n : G p = none) (ne : q ≠ p) : Own K H (upd G p o) q xs := by
  obtain ⟨vs, h1, h2, h3⟩ := h
  exact ⟨vs, h1, by rw [upd_ne ne]; exact h2, Rels.mono (Ex.new n) h3⟩
theorem ne_sing {a p : Addr} (h : p ≠ a) : p ∉ [a] := fun z => h (List.mem_singleton.mp z)
theorem fdivO_c {i j : Int} (h : 0 < j ∧ j.natAbs.log2 < 9000) : fdivO i j = some (i / j) := if_pos h
theorem modO_c {i j : Int} (h : 0 < j) : modO i j = some (i % j) := if_pos h
theorem of_guard {b : Bool} {u : Unit} (h : guardO b = some u) : b = true := by
  cases b with
  | true => rfl
  | false => cases h
theorem inV_int {i : Int} : ∀ {xs : List Int}, inV (.int i) (xs.map .int) = decide (i ∈ xs)
  | [] => by simp [inV]
  | x :: r => by
    have ih := inV_int (i := i) (xs := r)
    unfold inV at ih ⊢
    rw [List.map_cons, List.any_cons, ih]
    have e : eqV (.int x) (.int i) = decide (x = i) := by
      show (x == i) = decide (x = i)
      rw [Bool.eq_iff_iff, beq_iff_eq, decide_eq_true_iff]
    rw [e, Bool.eq_iff_iff, Bool.or_eq_true, decide_eq_true_iff, decide_eq_true_iff, decide_eq_true_iff, List.mem_cons]
    constructor
    · rintro (h | h)
      · exact .inl h.symm
      · exact .inr h
    · rintro (h | h)
      · exact .inl h.symm
      · exact .inr h
theorem flat_int : ∀ {xs : List Int}, (xs.map V.int).all flatV = true
  | [] => rfl
  | x :: r => by
    rw [List.map_cons, List.all_cons, flat_int (xs := r)]
    rfl
section
variable {X : Cx} {σ : L2.St} {H G : Hp} {a b : Expr} {pos : Pos} {i : Int} {xs : List Int}
theorem opIn {neg : Bool} {f : Bool} (hf : f = if neg then !decide (i ∈ xs) else decide (i ∈ xs)) : Opv X.K (rIn X.K neg) H G i xs f := fun v w H1 G1 s hv hw Q k => by
  obtain ⟨p, ws, w1, w2, w3⟩ := hw
  rw [rels_int w3] at w2
  subst hf
  refine ⟨p, _, w1, .inl (.inl (.inl (s.sub _ _ w2))), by rw [show v = V.int i from hv]; rfl, flat_int, k _ H1 G1 (Rc.refl s.sub) ?_⟩
  rw [show v = V.int i from hv, inV_int]
  cases neg <;> rfl
theorem et_in (ha : EvX X a σ H G i) (hb : EvX X b σ H G xs) (hm : behindInMarks .In b = false := by rfl) : EvT X (.Compare a [.In] [b] pos) σ H G (decide (i ∈ xs)) := et_cmp op_in_seq hm ha hb (opIn rfl)
theorem et_nin (ha : EvX X a σ H G i) (hb : EvX X b σ H G xs) (hm : behindInMarks .NotIn b = false := by rfl) : EvT X (.Compare a [.NotIn] [b] pos) σ H G (!decide (i ∈ xs)) := et_cmp op_notIn_seq hm ha hb (opIn rfl)
theorem ev_in (ha : EvX X a σ H G i) (hb : EvX X b σ H G xs) (hm : behindInMarks .In b = false := by rfl) : EvX X (.Compare a [.In] [b] pos) σ H G (decide (i ∈ xs)) := ev_cmp op_in_seq hm ha hb (opIn rfl)
end
end PX
namespace PX
open PySem L2
section
variable {X : Cx} {σ : L2.St} {H G : Hp} {a b : Expr} {pos p : Pos}
theorem wp_intB {Q : VK} (hm : X.mg "int" = none) (h : wpE X a σ H fun v H1 => ∃ t, v = .bl t ∧ Q (.int (if t then 1 else 0)) H1) (hg : Gl X "int" := by rfl) (he : starEach [a] X.env = (false, eval a X.env) :: starEach [] X.env := by rfl) : wpE X (.Call (.Name "int" p) [a] [] pos) σ H Q :=
  toE (pe_callTy call_int1 hg hm (by decide +kernel) pa_wp (by decide) (by decide) he) (wpA_cons (wpE_mono (fun v H1 ⟨t, e, q⟩ => wpA_nil (.inr ⟨t, by rw [e], q⟩)) h) he)
end
end PX
namespace PX
open PySem L2
section
variable {X : Cx} {σ : L2.St} {H G : Hp} {e : Expr} {pos : Pos} {D : Ends} {i j : Nat}
/-- a, b = e, e a pair -/
theorem ws_untup2 {px py pt : Pos} {kt} {nx ny : Str} (hc : X.calm = true) (hN : X.N.Nodup) (h : wpE X e σ H fun z H1 => ∃ d v w, z = .ref d ∧ H1 d = some (.tup [v, w]) ∧ D.nx ((σ.set i (some v)).set j (some w)) H1) (hi : X.N[i]? = some nx := by rfl) (hj : X.N[j]? = some ny := by rfl)
    (hx : Loc X.env.scope nx := by first | exact Or.inl rfl | exact Or.inr rfl) (hy : Loc X.env.scope ny := by first | exact Or.inl rfl | exact Or.inr rfl)
    (hf : X.fn nx = true ∨ X.env.scope.names.lookup nx = some .local := by first | exact .inl rfl | exact .inr rfl) (hf2 : X.fn ny = true ∨ X.env.scope.names.lookup ny = some .local := by first | exact .inl rfl | exact .inr rfl)
    (hg1 : (assignEach [.Name nx px, .Name ny py] X.env).map (·.2) = assign (.Name nx px) X.env :: (assignEach [.Name ny py] X.env).map (·.2) := by rfl) (hg2 : (assignEach [.Name ny py] X.env).map (·.2) = assign (.Name ny py) X.env :: (assignEach [] X.env).map (·.2) := by rfl)
    (hn : (assignEach [.Name nx px, .Name ny py] X.env).length = 2 := by rfl) (hst : (assignEach [.Name nx px, .Name ny py] X.env).findIdx? (·.1) = none := by rfl)
    (hs : swapsWithSole [.Tuple [.Name nx px, .Name ny py] kt pt] e pos.line X.env = pure false := by rfl) (hw : swappedStores [.Tuple [.Name nx px, .Name ny py] kt pt] e X.env = pure none := by rfl)
    (h1 : (assignEach [.Tuple [.Name nx px, .Name ny py] kt pt] X.env).map (·.2) = [assign (.Tuple [.Name nx px, .Name ny py] kt pt) X.env] := by rfl) : wpS X (.Assign [.Tuple [.Name nx px, .Name ny py] kt pt] e pos) D σ H :=
  toS (ps_asg pe_wp (pg_tup hc (pgs_cons (pg_name (i := i) hN hi hx hf) (pgs_cons (pg_name (i := j) hN hj hy hf2) pgs_nil hg2) hg1) hn hst) hs hw h1) (show wpE X e σ H _ from
    wpE_mono (fun z H1 ⟨d, v, w, e1, e2, q⟩ => ⟨d, [v, w], e1, .inl (.inl e2), rfl, v, [w], rfl, w, [], rfl, rfl, q⟩) h)
end
end PX
namespace PX
open PySem L2
/-- behind a step that changes a list of ours -/
theorem Rc.ownS {m : List Addr} {H G H1 G1 H2 G2 : Hp} {p : Addr} (a : Rc m H G H1 G1) (b : Rc [p] H1 G1 H2 G2) (n : H p = none) : Rc m H G H2 G2 where
  ex := a.ex.trans b.ex
  sub := b.sub
  keep := fun x u hx e => b.keep x u (ne_sing (ne_of_none e n)) (a.keep x u hx e)
  dom := fun x u e => by
    obtain ⟨u1, e1⟩ := a.dom x u e
    exact b.dom x u1 e1
  fr := fun x u e t q => by
    obtain ⟨u1, e1⟩ := a.dom x u e
    exact b.fr x u1 e1 (a.tp x u e t u1 e1) (a.fr x u e t q)
  tp := fun x u e t u' e' => by
    obtain ⟨u1, e1⟩ := a.dom x u e
    exact b.tp x u1 e1 (a.tp x u e t u1 e1) u' e'
end PX

/-! PXi: strings as data, tuples of three, membership in a tuple of strings, an item of a list of ours. -/
namespace PX
open PySem L2
instance : HasTy Str where
  tn := "str"
  ty := fun h => by
    cases h
    exact .base (.str _)
/-- a tuple of three -/
structure Tri (α β γ : Type) where
  a : α
  b : β
  c : γ
instance {α β γ : Type} [Rep α] [Rep β] [Rep γ] : Rep (Tri α β γ) where
  rel := fun K G v x => ∃ d p q r, v = .ref d ∧ G d = some (.tup [p, q, r]) ∧ Rep.rel K G p x.a ∧ Rep.rel K G q x.b ∧ Rep.rel K G r x.c
  mono := fun e ⟨d, p, q, r, h1, h2, h3, h4, h5⟩ => ⟨d, p, q, r, h1, e d _ h2, Rep.mono e h3, Rep.mono e h4, Rep.mono e h5⟩
theorem tri_ext {α β γ : Type} {x y : Tri α β γ} : x = y ↔ x.a = y.a ∧ x.b = y.b ∧ x.c = y.c := by
  obtain ⟨_, _, _⟩ := x
  obtain ⟨_, _, _⟩ := y
  simp
/-- xs != [] -/
def neNilO (xs : List (Tri Int Int Str)) : Option Bool := if xs.all (fun t => PyData.strOk t.c) then some (!xs.isEmpty) else none
def triPy (x : Tri Int Int Str) : PyData := .tuple [.int x.a, .int x.b, .str x.c]
theorem tri_dp {K : PySem.W.Frag} {G : Hp} : ∀ {vs : List V} {xs : List (Tri Int Int Str)}, Rels K G vs xs → DpAll K G vs (xs.map triPy)
  | _, _, .nil => .nil
  | _, _, .cons ⟨_, _, _, _, h1, h2, h3, h4, h5⟩ t => by
    subst h1
    cases h3
    cases h4
    cases h5
    exact .cons (.tup (.inl (.inl h2)) (.cons (.int _) (.cons (.int _) (.cons (.str _) .nil)))) (tri_dp t)
theorem tri_dep : ∀ xs : List (Tri Int Int Str), PyData.depthAll (xs.map triPy) ≤ 1
  | [] => by simp [PyData.depthAll]
  | x :: t => by
    have h2 := tri_dep t
    simp only [List.map_cons, PyData.depthAll, triPy, PyData.depth]
    omega
theorem tri_lay : ∀ xs : List (Tri Int Int Str), xs.all (fun t => PyData.strOk t.c) = true → PyData.canLayAll0 (xs.map triPy) = true
  | [], _ => by simp [PyData.canLayAll0]
  | x :: t, h => by
    rw [List.all_cons, Bool.and_eq_true] at h
    simp [PyData.canLayAll0, triPy, PyData.canLay0, h.1, tri_lay t h.2]
theorem op_neNil {X : Cx} {H G : Hp} {xs : List (Tri Int Int Str)} {t : Bool} (h : neNilO xs = some t) : Opv X.K (fun v w H Q => rNe v w H Q ∨ rNeD X.K v w H Q) H G xs ([] : List Int) t := fun v w H1 G1 s ⟨d, vs, e1, e2, e3⟩ ⟨d2, ws, f1, f2, f3⟩ Q k => by
  obtain ⟨h1, h2⟩ := dite_some h
  subst e1
  subst f1
  cases f3
  refine .inr ⟨.list (xs.map triPy), .list [], .lst (.inl (.inl (s.sub _ _ e2))) (tri_dp (Rels.mono s.sub e3)), .lst (.inl (.inl (s.sub _ _ f2))) .nil, ?_, by decide, k _ H1 G1 (Rc.refl s.sub) ?_⟩
  · unfold SeqAt.shaped
    have hd := tri_dep xs
    rw [show (PyData.list (xs.map triPy)).canLay0 = true by simp only [PyData.canLay0]; exact tri_lay xs h1, Bool.true_and, decide_eq_true_iff]
    simp only [PyData.depth]
    omega
  · subst h2
    refine congrArg V.bl ?_
    cases xs with
    | nil => simp [PyData.eqv, PyData.eqvAll]
    | cons x r => simp [PyData.eqv, PyData.eqvAll]
/-- a tuple of things of one kind -/
structure Tup (α : Type) where
  l : List α
instance {α : Type} [Rep α] : Rep (Tup α) where
  rel := fun K G v x => ∃ d vs, v = .ref d ∧ G d = some (.tup vs) ∧ Rels K G vs x.l
  mono := fun e ⟨d, vs, h1, h2, h3⟩ => ⟨d, vs, h1, e d _ h2, Rels.mono e h3⟩
def rThree {α β γ : Type} [Rep α] [Rep β] [Rep γ] (K : PySem.W.Frag) (i j l : Nat) : Tri α β γ → Hp → (L2.St → L2.St) → Prop := fun x G u => ∃ p q r, Rep.rel K G p x.a ∧ Rep.rel K G q x.b ∧ Rep.rel K G r x.c ∧ u = fun σ => ((σ.set i (some p)).set j (some q)).set l (some r)
section
variable {X : Cx} {σ : L2.St} {H G : Hp} {α β γ : Type} [Rep α] [Rep β] [Rep γ] {a b c d e tg iter : Expr} {es rest : List Expr} {pos p2 p p3 : Pos} {x : α} {y : β} {z : γ} {D : Ends} {i j l : Nat}
theorem rThree_mono {K : PySem.W.Frag} (x : Tri α β γ) (G G' : Hp) (u : L2.St → L2.St) (e : Ex G G') (h : rThree K i j l x G u) : rThree K i j l x G' u := by
  obtain ⟨p, q, r, h1, h2, h3, h4⟩ := h
  exact ⟨p, q, r, Rep.mono e h1, Rep.mono e h2, Rep.mono e h3, h4⟩
theorem ev_tri {k1} (ha : EvX X a σ H G x) (hb : EvX X b σ H G y) (hc : EvX X c σ H G z) (hs : starEach [a, b, c] X.env = (false, eval a X.env) :: starEach [b, c] X.env := by rfl) (hs2 : starEach [b, c] X.env = (false, eval b X.env) :: starEach [c] X.env := by rfl) (hs3 : starEach [c] X.env = (false, eval c X.env) :: starEach [] X.env := by rfl) :
    EvX X (.Tuple [a, b, c] k1 pos) σ H G (⟨x, y, z⟩ : Tri α β γ) := fun H1 G1 s Q k =>
  toE (pe_tup (pa_cons pe_wp (pa_cons pe_wp (pa_cons pe_wp pa_nil hs3) hs2) hs)) (show wpE X a σ H1 _ from ha H1 G1 s _ fun v H2 G2 s2 r2 => hb H2 G2 (s.trans s2) _ fun w H3 G3 s3 r3 => hc H3 G3 ((s.trans s2).trans s3) _ fun t H4 G4 s4 r4 => ⟨(by show 3 ≤ sizeLine; decide), fun p np =>
    k _ _ (upd G4 p (.tup [v, w, t])) (((s2.trans s3).trans s4).trans (Rc.newG s4.sub np)) ⟨p, v, w, t, rfl, upd_same, Rep.mono ((s3.ex.trans s4.ex).trans (Ex.new (none_back s4.sub np))) r2, Rep.mono (s4.ex.trans (Ex.new (none_back s4.sub np))) r3, Rep.mono (Ex.new (none_back s4.sub np)) r4⟩⟩)
theorem ev_tupL {xs : List α} {k1} (h : EvL X es σ H G xs) (hz : xs.length ≤ 100000 := by decide) : EvX X (.Tuple es k1 pos) σ H G (⟨xs⟩ : Tup α) := fun H1 G1 s Q k =>
  toE (pe_tup pa_wp) (show wpA X es σ H1 _ from h H1 G1 s _ fun vs H2 G2 s2 r2 => ⟨by rw [Paired.len r2]; exact Nat.le_trans hz (by decide), fun p np =>
    k _ _ (upd G2 p (.tup vs)) (s2.trans (Rc.newG s2.sub np)) ⟨p, vs, rfl, upd_same, Rels.mono (Ex.new (none_back s2.sub np)) r2⟩⟩)
theorem ev_intI {n : Int} {p : Pos} (hm : X.mg "int" = none) (ha : EvX X a σ H G n) (hg : Gl X "int" := by rfl) (he : starEach [a] X.env = (false, eval a X.env) :: starEach [] X.env := by rfl) : EvX X (.Call (.Name "int" p) [a] [] pos) σ H G n := fun H1 G1 s Q k =>
  toE (pe_callTy call_int1 hg hm (by decide +kernel) pa_wp (by decide) (by decide) he) (wpA_cons (ha H1 G1 s _ fun v H2 G2 s2 r2 => wpA_nil (.inl ⟨n, by rw [show v = V.int n from r2], k _ H2 G2 s2 rfl⟩)) he)
/-- over a list of tuples of three -/
theorem ei_list3 {xs : List (Tri α β γ)} {elts : List Expr} {kk : Nat} {tpos : Pos} (ha : EvX X a σ H G xs) : EvI X (.Tuple elts kk tpos) a (gTup X.K 3 (gCons (gName i) (gCons (gName j) (gCons (gName l) gNil)))) σ H G xs (rThree X.K i j l) := fun H1 G1 s Rk q =>
  toI (pi_list pe_wp) (show wpE X a σ H1 _ from wpE_post (ha H1 G1 s _ fun v H2 G2 s2 ⟨d, vs, q1, q2, q3⟩ hl => ⟨d, q1, ⟨vs, .inl (.inl (s2.sub _ _ q2))⟩, q _ H2 G2 s2 ⟨fun n x H' G' hx e1 e2 => by
    obtain ⟨v', k1, k2⟩ := Paired.get q3 hx
    have sq : SqL X.K H' d vs := .inl (.inl (e2 _ _ (e1 _ _ q2)))
    refine ⟨⟨vs, v', sq, k1⟩, fun w H'' ⟨eH, y⟩ σ' Q kk => ?_⟩
    subst eH
    have ew : w = v' := Option.some.inj ((y vs sq).symm.trans k1)
    subst ew
    obtain ⟨t, p, q, r, rfl, t2, t3, t4, t5⟩ := Rep.mono e1 k2
    exact ⟨t, [p, q, r], rfl, .inl (.inl (e2 _ _ t2)), rfl, p, [q, r], rfl, q, [r], rfl, r, [], rfl, rfl, kk (fun σ => ((σ.set i (some p)).set j (some q)).set l (some r)) G' (Rc.refl e2) ⟨p, q, r, t3, t4, t5, rfl⟩⟩, fun H' G' e1 e2 => ⟨vs, .inl (.inl (e2 _ _ (e1 _ _ q2))), by rw [Paired.len q3]; exact Nat.le_refl _⟩, by rw [← Paired.len q3]; exact hl _ _ (s2.sub _ _ q2), rThree_mono⟩⟩))
/-- a, b, c = e, e a tuple of three -/
theorem ws_untup3 {px py pz pt : Pos} {kt} {nx ny nz : Str} (hc : X.calm = true) (hN : X.N.Nodup) (h : wpE X e σ H fun z H1 => ∃ d u v w, z = .ref d ∧ H1 d = some (.tup [u, v, w]) ∧ D.nx (((σ.set i (some u)).set j (some v)).set l (some w)) H1) (hi : X.N[i]? = some nx := by rfl) (hj : X.N[j]? = some ny := by rfl) (hl : X.N[l]? = some nz := by rfl)
    (hx : Loc X.env.scope nx := by first | exact Or.inl rfl | exact Or.inr rfl) (hy : Loc X.env.scope ny := by first | exact Or.inl rfl | exact Or.inr rfl) (hz : Loc X.env.scope nz := by first | exact Or.inl rfl | exact Or.inr rfl)
    (hf : X.fn nx = true ∨ X.env.scope.names.lookup nx = some .local := by first | exact .inl rfl | exact .inr rfl) (hf2 : X.fn ny = true ∨ X.env.scope.names.lookup ny = some .local := by first | exact .inl rfl | exact .inr rfl) (hf3 : X.fn nz = true ∨ X.env.scope.names.lookup nz = some .local := by first | exact .inl rfl | exact .inr rfl)
    (hg1 : (assignEach [.Name nx px, .Name ny py, .Name nz pz] X.env).map (·.2) = assign (.Name nx px) X.env :: (assignEach [.Name ny py, .Name nz pz] X.env).map (·.2) := by rfl) (hg2 : (assignEach [.Name ny py, .Name nz pz] X.env).map (·.2) = assign (.Name ny py) X.env :: (assignEach [.Name nz pz] X.env).map (·.2) := by rfl) (hg3 : (assignEach [.Name nz pz] X.env).map (·.2) = assign (.Name nz pz) X.env :: (assignEach [] X.env).map (·.2) := by rfl)
    (hn : (assignEach [.Name nx px, .Name ny py, .Name nz pz] X.env).length = 3 := by rfl) (hst : (assignEach [.Name nx px, .Name ny py, .Name nz pz] X.env).findIdx? (·.1) = none := by rfl)
    (hs : swapsWithSole [.Tuple [.Name nx px, .Name ny py, .Name nz pz] kt pt] e pos.line X.env = pure false := by rfl) (hw : swappedStores [.Tuple [.Name nx px, .Name ny py, .Name nz pz] kt pt] e X.env = pure none := by rfl)
    (h1 : (assignEach [.Tuple [.Name nx px, .Name ny py, .Name nz pz] kt pt] X.env).map (·.2) = [assign (.Tuple [.Name nx px, .Name ny py, .Name nz pz] kt pt) X.env] := by rfl) : wpS X (.Assign [.Tuple [.Name nx px, .Name ny py, .Name nz pz] kt pt] e pos) D σ H :=
  toS (ps_asg pe_wp (pg_tup hc (pgs_cons (pg_name (i := i) hN hi hx hf) (pgs_cons (pg_name (i := j) hN hj hy hf2) (pgs_cons (pg_name (i := l) hN hl hz hf3) pgs_nil hg3) hg2) hg1) hn hst) hs hw h1) (show wpE X e σ H _ from
    wpE_mono (fun z H1 ⟨d, u, v, w, e1, e2, q⟩ => ⟨d, [u, v, w], e1, .inl (.inl e2), rfl, u, [v, w], rfl, v, [w], rfl, w, [], rfl, rfl, q⟩) h)
end
section
variable {X : Cx} {σ : L2.St} {H G : Hp} {a b : Expr} {pos : Pos} {xs : List (Tri Int Int Str)} {t : Bool}
theorem ev_neNil (hu : X.A.units + 64 < cLine) (h : neNilO xs = some t) (ha : EvX X a σ H G xs) (hb : EvX X b σ H G ([] : List Int)) (hm : behindInMarks .NotEq b = false := by rfl) : EvX X (.Compare a [.NotEq] [b] pos) σ H G t := ev_cmp (op_neS hu) hm ha hb (op_neNil h)
end
section
variable {X : Cx} {σ : L2.St} {H G : Hp} {α β γ ι S ρ : Type} [Rep α] [Rep β] [Rep γ] {a b c e tg iter elt : Expr} {es rest ifs : List Expr} {st : Stmt} {sts sts2 : List Stmt} {pos p2 p p3 apos : Pos} {D D' : Ends} {i j : Nat}
/-- over range(e), e changes one list of ours -/
theorem wi_rng1 {Rk : It → Hp → Prop} (hm : X.mg "range" = none) (ha : wpE X a σ H fun v H1 => ∃ n xs G1, v = .int n ∧ rngO 0 n = some xs ∧ Ex G1 H1 ∧ ∀ J, IsWalk (gName j) J G1 xs (rOne X.K j) → Rk J H1) (hg : Gl X "range" := by rfl) (hs : starEach [a] X.env = (false, eval a X.env) :: starEach [] X.env := by rfl) : wpI X tg (.Call (.Name "range" p) [a] [] pos) σ H Rk := by
  refine toI (pi_range1 hg hm (pa_cons pe_wp pa_nil hs) hs) (show wpE X a σ H _ from wpE_mono (fun v H1 ⟨n, xs, G1, e, h, g1, k⟩ => ?_) ha)
  obtain ⟨⟨r1, r2, r3, r4, r5⟩, rfl⟩ := rngO_ok h
  refine ⟨n, by rw [e], r3, r4, k _ ⟨fun i x H' G' hx e1 e2 => ?_, fun H' G' e1 e2 => ?_, ?_, rOne_mono⟩⟩
  · have hx2 := hx
    unfold rng at hx2
    rw [Int.sub_zero, List.getElem?_map] at hx2
    have hi : i < n.toNat := by
      have := (List.getElem?_eq_some_iff.mp hx).1
      unfold rng at this
      rw [List.length_map, List.length_range, Int.sub_zero] at this
      exact this
    rw [List.getElem?_range hi] at hx2
    have ex : (0 : Int) + (i : Nat) = x := Option.some.inj hx2
    refine ⟨hi, fun w H'' ⟨eH, ew⟩ σ' Q kk => ?_⟩
    subst eH
    subst ew
    exact kk (fun σ => σ.set j (some (.int (0 + (i : Nat))))) G' (Rc.refl e2) ⟨_, by rw [← ex]; rfl, rfl⟩
  · show n.toNat ≤ (rng 0 n).length
    unfold rng
    rw [List.length_map, List.length_range, Int.sub_zero]
    exact Nat.le_refl _
  · unfold rng
    rw [List.length_map, List.length_range]
    exact r5
theorem ws_forR (S ρ : Type) (hp : PassesOwn (model X.prog X.w) X.A X.env X.xe) (hc : X.calm = true) (hm : X.mg "range" = none) (hg : PG X tg (gName j))
    (h : wpE X a σ H fun v H1 => ∃ (n : Int) (items : List Int) (body : Int → S → Option (Ctl ρ S)) (s0 : S) (cc : Ctl ρ S) (G : Hp) (I : Hp → S → L2.St → Hp → Hp → Prop) (RT : ρ → V → Hp → Prop), v = .int n ∧ rngO 0 n = some items ∧ Ex G H1 ∧ forL body items s0 = some cc ∧
      (∀ H2 G2, Rc [] H1 G H2 G2 → I G2 s0 σ H2 G2) ∧ (∀ Gs s σ H G, I Gs s σ H G → Ex Gs G ∧ Ex G H) ∧
      (∀ Gs s σ1 H1 G1 x c' u H2 G2, body x s = some c' → I Gs s σ1 H1 G1 → Rc [] H1 G1 H2 G2 → rOne X.K j x G2 u →
        wpB X sts { nx := fun σ H => ∃ s' G, c' = .nx s' ∧ I Gs s' σ H G, rt := fun v H => ∃ r, c' = .rt r ∧ RT r v H, bk := fun σ H => ∃ s' G, c' = .bk s' ∧ I Gs s' σ H G, ct := fun σ H => ∃ s' G, c' = .nx s' ∧ I Gs s' σ H G } (u σ1) H2) ∧
      (∀ Gs s σ1 H1 G1, cc = .nx s → I Gs s σ1 H1 G1 → D.nx σ1 H1) ∧ (∀ r v H1, cc = .rt r → RT r v H1 → D.rt v H1))
    (hgl : Gl X "range" := by rfl) (hse : starEach [a] X.env = (false, eval a X.env) :: starEach [] X.env := by rfl) (hs : ∀ x, foldedSetIterable (.Call (.Name "range" p) [a] [] apos) X.env x = pure x := by intro _; rfl) : wpS X (.For tg (.Call (.Name "range" p) [a] [] apos) sts [] pos) D σ H := by
  refine toS (ps_for hp hc pi_wp hg pss_wp hs) (wi_rng1 (j := j) hm (wpE_mono (fun v H1 ⟨n, items, body, s0, cc, G, I, RT, e, hr0, g0, h, h0, hx, hb, hd, hr⟩ => ⟨n, items, G, e, hr0, g0, fun J W => ?_⟩) h) hgl hse)
  refine ⟨fun i m σ' H' => m = items.length - i ∧ i ≤ items.length ∧ ∃ s G', I G s σ' H' G' ∧ forL body (items.drop i) s = some cc, ⟨items.length, by omega, Nat.zero_le _, s0, G, h0 H1 G (Rc.refl g0), h⟩, ?_⟩
  rintro i m σ' H' ⟨rfl, hle, s, G', hI, hf⟩
  obtain ⟨e1, e2⟩ := hx _ _ _ _ _ hI
  by_cases hlt : i < items.length
  · refine .inr ?_
    have hxi : items[i]? = some items[i] := List.getElem?_eq_getElem hlt
    obtain ⟨go, step⟩ := W.go i items[i] H' G' hxi e1 e2
    rw [List.drop_eq_getElem_cons hlt] at hf
    obtain ⟨c', hc', hf⟩ := bind_some hf
    refine ⟨go, fun σ'' H'' => ∃ s G', I G s σ'' H'' G' ∧ forL body (items.drop (i + 1)) s = some cc, fun σ'' H'' ⟨s, G', k1, k2⟩ => ⟨items.length - (i + 1), by omega, rfl, hlt, s, G', k1, k2⟩, fun v H'' y => ?_⟩
    refine step v H'' y _ _ fun uu G'' s3 r3 => ?_
    refine wpB_imp (hb G s σ' H' G' items[i] c' uu H'' G'' hc' hI s3 r3) ?_ ?_ ?_ ?_
    · rintro σ1 H1 ⟨s', G1, ec, k⟩
      subst ec
      exact ⟨s', G1, k, hf⟩
    · rintro v H1 ⟨r, ec, k⟩
      subst ec
      exact hr r v H1 (Option.some.inj hf).symm k
    · rintro σ1 H1 ⟨s', G1, ec, k⟩
      subst ec
      exact hd G s' σ1 H1 G1 (Option.some.inj hf).symm k
    · rintro σ1 H1 ⟨s', G1, ec, k⟩
      subst ec
      exact ⟨s', G1, k, hf⟩
  · have ei : i = items.length := by omega
    subst ei
    rw [List.drop_length] at hf
    exact .inl ⟨W.stop H' G' e1 e2, hd G s σ' H' G' (Option.some.inj hf).symm hI⟩
/-- xs.append(e), e changes another list of ours -/
theorem ws_appR (α : Type) [Rep α] {nm : Str} {l : Addr} (hs : σ[i]? = some (some (.ref l))) (hl : ∃ vs, H l = some (.lst vs)) (h : wpE X e σ H fun v H1 => ∃ (xs zs : List α) (x : α) (G1 : Hp), Own X.K H1 G1 l xs ∧ appO xs x = some zs ∧ Rep.rel X.K G1 v x ∧ Ex G1 H1 ∧
      ∀ H2 G2, (∀ m H0 G0, Rc m H0 G0 H1 G1 → (H0 l = none ∨ l ∈ m) → Rc m H0 G0 H2 G2) → Rc [l] H1 G1 H2 G2 → Own X.K H2 G2 l zs → D.nx σ H2)
    (hN : X.N[i]? = some nm := by rfl) (hv : Vis X.env.scope nm := by first | exact Or.inl rfl | exact Or.inr (Or.inl rfl) | exact Or.inr (Or.inr rfl)) (hd : (nm == ("__debug__" : Str)) = false := by decide) (hcd : (nm == ("__classdict__" : Str)) = false := by decide)
    (hbase : attributeBase (.Name nm p) "append" X.env (eval (.Name nm p) X.env) = eval (.Name nm p) X.env := by rfl)
    (hfew : ((backTo pos (starEach [e] X.env)).all (fun x => !x.1) && (backToKw pos (keywordEach [] X.env)).all (fun x => x.1.isSome) && decide ([e].length + ([] : List Keyword).length + (if ([] : List Keyword).isEmpty then 0 else 1) < 30)) = true := by rfl)
    (hline : (apos.endLine == pos.line) = true := by rfl) (hst : starEach [e] X.env = (false, eval e X.env) :: starEach [] X.env := by rfl) (hpl : (backTo pos (starEach [] X.env)).any (·.1) = false := by rfl)
    (hsw : swapsWith (.Call (.Attribute (.Name nm p) "append" apos) [e] [] pos) none p2.line X.env = pure false := by rfl) :
    wpS X (.Expr (.Call (.Attribute (.Name nm p) "append" apos) [e] [] pos) p2) D σ H := by
  refine ws_expr (wp_append hs hl (wpE_mono (fun v H1 ⟨xs, zs, x, G1, ow, hz, r2, g1, k⟩ => ?_) h) hN hv hd hcd hbase hfew hline hst hpl) hsw
  obtain ⟨h1, h2⟩ := dite_some hz
  subst h2
  obtain ⟨vs, q1, q2, q3⟩ := ow
  exact ⟨vs, q1, by rw [Paired.len q3]; exact line_lt h1, k _ G1 (fun m H0 G0 r n => r.write n q2) ((Rc.refl (m := [l]) g1).write (.inr List.mem_cons_self) q2) ⟨_, upd_same, q2, Paired.append q3 (.cons r2 .nil)⟩⟩
end
theorem inV_str {i : Str} : ∀ {xs : List Str}, inV (.str i) (xs.map .str) = decide (i ∈ xs)
  | [] => by simp [inV]
  | x :: r => by
    have ih := inV_str (i := i) (xs := r)
    unfold inV at ih ⊢
    rw [List.map_cons, List.any_cons, ih]
    have e : eqV (.str x) (.str i) = decide (x = i) := by
      show (x == i) = decide (x = i)
      rw [Bool.eq_iff_iff, beq_iff_eq, decide_eq_true_iff]
    rw [e, Bool.eq_iff_iff, Bool.or_eq_true, decide_eq_true_iff, decide_eq_true_iff, decide_eq_true_iff, List.mem_cons]
    constructor
    · rintro (h | h)
      · exact .inl h.symm
      · exact .inr h
    · rintro (h | h)
      · exact .inl h.symm
      · exact .inr h
theorem flat_str : ∀ {xs : List Str}, (xs.map V.str).all flatV = true
  | [] => rfl
  | x :: r => by
    rw [List.map_cons, List.all_cons, flat_str (xs := r)]
    rfl
theorem rels_str {K : PySem.W.Frag} {G : Hp} : ∀ {vs : List V} {xs : List Str}, Rels K G vs xs → vs = xs.map .str
  | _, _, .nil => rfl
  | _, _, .cons h t => by
    rw [List.map_cons, rels_str t, show _ = V.str _ from h]
section
variable {X : Cx} {σ : L2.St} {H G : Hp} {a b : Expr} {pos : Pos} {i : Str} {xs : List Str}
theorem opInS {neg : Bool} {f : Bool} (hf : f = if neg then !decide (i ∈ xs) else decide (i ∈ xs)) : Opv X.K (rIn X.K neg) H G i (⟨xs⟩ : Tup Str) f := fun v w H1 G1 s hv hw Q k => by
  obtain ⟨p, ws, w1, w2, w3⟩ := hw
  rw [rels_str w3] at w2
  subst hf
  refine ⟨p, _, w1, .inr (.inl (.inl (s.sub _ _ w2))), by rw [show v = V.str i from hv]; rfl, flat_str, k _ H1 G1 (Rc.refl s.sub) ?_⟩
  rw [show v = V.str i from hv, inV_str]
  cases neg <;> rfl
theorem et_inS (ha : EvX X a σ H G i) (hb : EvX X b σ H G (⟨xs⟩ : Tup Str)) (hm : behindInMarks .In b = false := by rfl) : EvT X (.Compare a [.In] [b] pos) σ H G (decide (i ∈ xs)) := et_cmp op_in_seq hm ha hb (opInS rfl)
theorem et_ninS (ha : EvX X a σ H G i) (hb : EvX X b σ H G (⟨xs⟩ : Tup Str)) (hm : behindInMarks .NotIn b = false := by rfl) : EvT X (.Compare a [.NotIn] [b] pos) σ H G (!decide (i ∈ xs)) := et_cmp op_notIn_seq hm ha hb (opInS rfl)
end
end PX

/-! PXj: repr of lists and tuples of ints. -/
namespace PX
open PySem L2
/-- data that stand as an object -/
class PyO (α : Type) extends PyD α where
  isref : ∀ {K : PySem.W.Frag} {G : Hp} {v : V} {x : α}, Rep.rel K G v x → ∃ a, v = .ref a
instance {α : Type} [PyD α] : PyO (List α) where
  isref := fun ⟨a, _, h, _⟩ => ⟨a, h⟩
instance {α β : Type} [PyD α] [PyD β] : PyO (α × β) where
  isref := fun ⟨a, _, _, h, _⟩ => ⟨a, h⟩
def reprO {α : Type} [PyD α] (x : α) : Option Str := if (PyD.py x).showable = true ∧ (PyD.py x).shown.length ≤ line then some (PyD.py x).shown else none
theorem call_reprD {X : Cx} (hG : X.A.guards = some []) (hu : X.A.units + 64 < cLine) : CallR X (.builtin "repr") (fun xs H Q => ∃ a d, xs = [.ref a] ∧ Dp X.K H (.ref a) d ∧ d.showable = true ∧ d.canLay0 = true ∧ d.depth ≤ 60 ∧ d.shown.length ≤ sizeLine ∧ Q (.str d.shown) H) := by
  intro pins s σ H xs us Q I r h
  obtain ⟨a, d, rfl, hd, hs, hl, hdp, hsz, q⟩ := h
  obtain ⟨u, rfl, rx⟩ := vals1 r
  obtain ⟨as, rd⟩ := Dp.reads I d (.ref a) u hd rx
  cases rx
  exact PySem.repr_of_reads' rd hs (PyData.noDict_hsm (PyData.hasDict_of_canLay d hl)) hG (by omega) (fun _ _ e => e) (fun h' u tk hk => ⟨.str d.shown, H, I.kept hk, ⟨_, rfl⟩, q⟩) hsz
section
variable {X : Cx} {σ : L2.St} {H G : Hp} {a : Expr} {pos p : Pos}
theorem ev_repr {α : Type} [PyO α] {x : α} {t : Str} (hG : X.A.guards = some []) (hu : X.A.units + 64 < cLine) (hm : X.mg "repr" = none) (h : reprO x = some t) (hd : PyD.dep α ≤ 60) (ha : EvX X a σ H G x) (hg : Gl X "repr" := by rfl) (he : starEach [a] X.env = (false, eval a X.env) :: starEach [] X.env := by rfl) :
    EvX X (.Call (.Name "repr" p) [a] [] pos) σ H G t := by
  obtain ⟨⟨h1, h2⟩, h3⟩ := dite_some h
  subst h3
  exact ev_bi (call_reprD hG hu) hm (by decide +kernel) (ea_cons ha ea_nil he) (fun vs H1 G1 s r Q k => by
    obtain ⟨v, rfl, hv⟩ := args1 r
    obtain ⟨b, rfl⟩ := PyO.isref hv
    exact ⟨b, _, rfl, PyD.dp (Rep.mono s.sub hv), h1, PyD.lay x, Nat.le_trans (PyD.depOk x) hd, line_le h2, k _ H1 G1 (Rc.refl s.sub) rfl⟩) hg (by decide) (by decide) he
end
end PX

/-! PXk: sets of ints made of a list, how many they hold. -/
namespace PX
open PySem L2
/-- the different ones of a list, in their sequence -/
def dif (ns : List Int) : List Int := PyProof.Rows.firstMet (fun i => ns.getD i 0) ns.length
structure DSet where
  l : List Int
instance : Rep DSet where
  rel := fun K G v x => ∃ a, v = .ref a ∧ G a = some (.set (fun k => x.l.any (· == k)) x.l.length)
  mono := fun e ⟨a, h1, h2⟩ => ⟨a, h1, e a _ h2⟩
theorem call_set_ints {X : Cx} (hc : X.calm = true) : CallR X (.type "set") (fun xs H Q => ∃ p ns, xs = [.ref p] ∧ SqL X.K H p (ns.map .int) ∧ ns.length + 1 < scanBound ∧ ∀ l, H l = none → Q (.ref l) (upd H l (.set (fun k => (dif ns).any (· == k)) (dif ns).length))) := by
  intro pins s σ H xs us Q I r h
  obtain ⟨p, ns, rfl, hq, hb, q⟩ := h
  obtain ⟨u, rfl, rx⟩ := vals1 r
  cases rx
  obtain ⟨its, r', pl, hz⟩ := I.list hq
  have hlen : its.length = ns.length := by rw [← r'.length, List.length_map]
  have hs : its.toArray.size = ns.length := by rw [List.size_toArray, hlen]
  refine PySem.call_set_list (I.ok.hd hc) pl.isList (ns := ns) (by simpa using L2.intsAre_of r') (by rw [hs]; exact hb) fun h' tk hS hk => ?_
  rw [hs] at hS
  have kp : ∀ b o', s.heap.get? b = some o' → h'.get? b = some o' := fun b o' e => hk b o' (Heap.lt_size e) e
  exact ⟨.ref s.heap.objs.size, _, I.laid (t' := tk) kp (Nat.le_refl _) (show ObjOk X.prog X.w _ h' _ (.set (fun k => (dif ns).any (· == k)) (dif ns).length) from hS), rfl, q _ (I.hok.fresh (Nat.le_refl _))⟩
theorem call_len_dset {X : Cx} : CallR X (.builtin "len") (fun xs H Q => ∃ p S n, xs = [.ref p] ∧ H p = some (.set S n) ∧ Q (.int (n : Nat)) H) := by
  intro pins s σ H xs us Q I r h
  obtain ⟨p, S, n, rfl, hq, q⟩ := h
  obtain ⟨u, rfl, rx⟩ := vals1 r
  cases rx
  obtain ⟨o, es, ep, t, ho, hx, hd, _, _, hb, hf, hn⟩ := (I.hok p _ hq)
  subst hn
  exact PySem.call_len_set ho hx hd hf (by unfold scanBound at hb; omega) ⟨.int es.size, H, I.tok _, ⟨_, rfl⟩, q⟩
def difO (ns : List Int) : Option DSet := if ns.length < 4000 then some ⟨dif ns⟩ else none
section
variable {X : Cx} {σ : L2.St} {H G : Hp} {a : Expr} {pos p : Pos}
theorem ev_set {xs : List Int} {d : DSet} (hc : X.calm = true) (hm : X.mg "set" = none) (h : difO xs = some d) (ha : EvX X a σ H G xs) (hg : Gl X "set" := by rfl) (he : starEach [a] X.env = (false, eval a X.env) :: starEach [] X.env := by rfl) : EvX X (.Call (.Name "set" p) [a] [] pos) σ H G d := by
  obtain ⟨h1, h2⟩ := dite_some h
  subst h2
  exact ev_ty (call_set_ints hc) hm (by decide +kernel) (ea_cons ha ea_nil he) (fun vs H1 G1 s r Q k => by
    obtain ⟨v, rfl, b, ws, rfl, q2, q3⟩ := args1 r
    rw [rels_int q3] at q2
    exact ⟨b, xs, rfl, .inl (.inl (s.sub _ _ q2)), by unfold scanBound; omega, fun l np => k _ _ (upd G1 l (.set (fun k => (dif xs).any (· == k)) (dif xs).length)) (Rc.newG s.sub np) ⟨l, rfl, upd_same⟩⟩) hg (by decide) (by decide) he
theorem ev_lenSet {d : DSet} (hm : X.mg "len" = none) (ha : EvX X a σ H G d) (hg : Gl X "len" := by rfl) (he : starEach [a] X.env = (false, eval a X.env) :: starEach [] X.env := by rfl) : EvX X (.Call (.Name "len" p) [a] [] pos) σ H G (d.l.length : Int) :=
  ev_bi call_len_dset hm PySem.boot_len (ea_cons ha ea_nil he) (fun vs H1 G1 s r Q k => by
    obtain ⟨v, rfl, b, rfl, q2⟩ := args1 r
    exact ⟨b, _, _, rfl, s.sub _ _ q2, k _ H1 G1 (Rc.refl s.sub) rfl⟩) hg (by decide) (by decide) he
end
section
variable {X : Cx} {σ : L2.St} {H G : Hp} {α β : Type} [Rep α] [Rep β] {tg iter elt e : Expr} {pos p apos : Pos} {scope : Scope} {own : List (Str × Nat)} {a : Addr} {j : Nat}
/-- a comprehension over range(e) whose items change a list of ours, as e does -/
theorem lcmR_raw {α β : Type} [Rep α] [Rep β] (hm : X.mg "range" = none)
    (hw : ∀ (x : Int) G u, rOne X.K j x G u → wipe (u (wipe σ (own.map (·.2)))) (own.map (·.2)) = wipe σ (own.map (·.2)))
    {Q : VK} (h : wpE X e σ H fun v H1 => ∃ (n : Int) (items : List Int) (G : Hp) (pot : List α) (res : List β × List α) (f : Int → List α → Option (β × List α)), v = .int n ∧ rngO 0 n = some items ∧ Ex G H1 ∧ Own X.K H1 G a pot ∧ lcM f items pot = some res ∧
      (∀ (s : Shared) (H0 : Hp) (C : Addr) (cl : List (Str × Addr)) (fp : List Addr) x pt y u H2 G2, Rc [a] H1 G H2 G2 → rOne X.K j x G2 u → f x pt = some y → Own X.K H2 G2 a pt →
        wpE (X.blk s H0 scope (compEnvC scope cl C X.env) fp) elt (u (wipe σ (own.map (·.2)))) H2 fun v H3 => ∃ G3, Rc [a] H2 G2 H3 G3 ∧ Own X.K H3 G3 a y.2 ∧ Rep.rel X.K G3 v y.1) ∧
      ∀ p H2 G2, Rc [a] H1 G H2 G2 → H1 p = none → Own X.K H2 G2 a res.2 → Own X.K H2 G2 p res.1 → Q (.ref p) H2)
    (hgl : Gl X "range" := by rfl) (hse : starEach [e] X.env = (false, eval e X.env) :: starEach [] X.env := by rfl) : tLc (wpI X tg (.Call (.Name "range" p) [e] [] apos)) (gName j) tYes (fun σ H Q => ∀ (s : Shared) (H0 : Hp) (C : Addr) (cl : List (Str × Addr)) (fp : List Addr), wpE (X.blk s H0 scope (compEnvC scope cl C X.env) fp) elt σ H Q) (own.map (·.2)) σ H Q := by
  refine (wi_rng1 (j := j) hm (wpE_mono (fun v H1 ⟨n, items, G1, pot, res, f, e1, hr0, g1, ow1, h, he, k⟩ => ⟨n, items, G1, e1, hr0, g1, fun J W1 => ?_⟩) h) hgl hse)
  intro Dl nD
  have hne : a ≠ Dl := ow1.ne nD
  have sD : Rc [a] H1 G1 (upd H1 Dl (.lst [])) G1 := Rc.new g1 nD
  have owD : Own X.K (upd H1 Dl (.lst [])) G1 a pot := by
    obtain ⟨vs, q1, q2, q3⟩ := ow1
    exact ⟨vs, by rw [upd_ne hne]; exact q1, q2, q3⟩
  refine ⟨fun i m H' => m = items.length - i ∧ i ≤ items.length ∧ ∃ (G' : Hp) (done : List β) (pt : List α) (more : List β × List α), Rc [a] H1 G1 H' G' ∧ Own X.K H' G' Dl done ∧ Own X.K H' G' a pt ∧ done.length ≤ i ∧ lcM f (items.drop i) pt = some more ∧ res = (done ++ more.1, more.2),
    ⟨items.length, by omega, Nat.zero_le _, G1, [], pot, res, sD, Own.mk g1 nD .nil, owD, Nat.zero_le _, h, rfl⟩, ?_⟩
  rintro i m H' ⟨rfl, hle, G', done, pt, more, sr, ow', owa, hz, hm, hy⟩
  by_cases hlt : i < items.length
  · refine .inr ?_
    have hx : items[i]? = some items[i] := List.getElem?_eq_getElem hlt
    obtain ⟨go, step⟩ := W1.go i items[i] H' G' hx sr.ex sr.sub
    rw [List.drop_eq_getElem_cons hlt] at hm
    refine ⟨go, fun H'' => ∃ (G'' : Hp) (done : List β) (pt : List α) (more : List β × List α), Rc [a] H1 G1 H'' G'' ∧ Own X.K H'' G'' Dl done ∧ Own X.K H'' G'' a pt ∧ done.length ≤ i + 1 ∧ lcM f (items.drop (i + 1)) pt = some more ∧ res = (done ++ more.1, more.2),
      fun H'' ⟨G'', done, pt, more, k1, k2, k3, k4, k5, k6⟩ => ⟨items.length - (i + 1), by omega, rfl, hlt, G'', done, pt, more, k1, k2, k3, k4, k5, k6⟩, fun v H'' y => ?_⟩
    refine step v H'' y _ _ fun uu G'' s2 r2 => ⟨hw _ _ _ r2, ?_⟩
    have s3 : Rc [a] H1 G1 H'' G'' := sr.then s2
    obtain ⟨y0, hy0, hm⟩ := bind_some hm
    obtain ⟨more', hm', hm⟩ := bind_some hm
    refine tYes_of ?_
    intro sh H0 C cl fp
    refine wpE_mono ?_ (he sh H0 C cl fp items[i] pt y0 uu H'' G'' s3 r2 hy0 (owa.step0 s2))
    rintro w H4 ⟨G4, s5, o5, r5⟩
    have ndl : Dl ∉ [a] := fun z => hne (List.mem_singleton.mp z).symm
    obtain ⟨vs', h1, h2, h3⟩ := (ow'.step0 s2).step s5 ndl
    have hlen := W1.len
    have o6 : Own X.K (upd H4 Dl (.lst (vs' ++ [w]))) G4 a y0.2 := by
      obtain ⟨vs, q1, q2, q3⟩ := o5
      exact ⟨vs, by rw [upd_ne hne]; exact q1, q2, q3⟩
    have hz' : vs'.length < sizeLine := by rw [Paired.len h3]; omega
    refine ⟨vs', h1, hz', G4, done ++ [y0.1], y0.2, more', ((sr.then s2).trans s5).write (.inl nD) h2, ⟨_, upd_same, h2, Paired.append h3 (.cons r5 .nil)⟩, o6, ?_, hm', ?_⟩
    · rw [List.length_append]
      show done.length + 1 ≤ i + 1
      omega
    · rw [hy, ← Option.some.inj hm]
      show (done ++ (y0.1 :: more'.1), more'.2) = _
      rw [List.append_assoc]
      rfl
  · have ei : i = items.length := by omega
    subst ei
    refine .inl ⟨W1.stop H' G' sr.ex sr.sub, ?_⟩
    rw [List.drop_length] at hm
    have em : ([], pt) = more := Option.some.inj hm
    subst em
    subst hy
    have k' := k Dl H' G' sr nD
    refine k' owa ?_
    show Own X.K H' G' Dl (done ++ [])
    rw [List.append_nil]
    exact ow'
/-- a comprehension over range(e) whose items change a list of ours, as e does -/
theorem wp_lcMR (α β : Type) [Rep α] [Rep β] (hc : X.calm = true) (hN : X.N.Nodup) (ok : BlkOk X.N X.env.scope scope own) (hm : X.mg "range" = none)
    (hg : ∀ (s : Shared) (H : Hp) (C : Addr) (cl : List (Str × Addr)) (fp : List Addr), PG (X.blk s H scope (compEnvC scope cl C X.env) fp) tg (gName j))
    (hw : ∀ (x : Int) G u, rOne X.K j x G u → wipe (u (wipe σ (own.map (·.2)))) (own.map (·.2)) = wipe σ (own.map (·.2)))
    {Q : VK} (h : wpE X e σ H fun v H1 => ∃ (n : Int) (items : List Int) (G : Hp) (pot : List α) (res : List β × List α) (f : Int → List α → Option (β × List α)), v = .int n ∧ rngO 0 n = some items ∧ Ex G H1 ∧ Own X.K H1 G a pot ∧ lcM f items pot = some res ∧
      (∀ (s : Shared) (H0 : Hp) (C : Addr) (cl : List (Str × Addr)) (fp : List Addr) x pt y u H2 G2, Rc [a] H1 G H2 G2 → rOne X.K j x G2 u → f x pt = some y → Own X.K H2 G2 a pt →
        wpE (X.blk s H0 scope (compEnvC scope cl C X.env) fp) elt (u (wipe σ (own.map (·.2)))) H2 fun v H3 => ∃ G3, Rc [a] H2 G2 H3 G3 ∧ Own X.K H3 G3 a y.2 ∧ Rep.rel X.K G3 v y.1) ∧
      ∀ p H2 G2, Rc [a] H1 G H2 G2 → H1 p = none → Own X.K H2 G2 a res.2 → Own X.K H2 G2 p res.1 → Q (.ref p) H2)
    (hgl : Gl X "range" := by rfl) (hse : starEach [e] X.env = (false, eval e X.env) :: starEach [] X.env := by rfl) (hs : ∀ x, foldedSetIterable (.Call (.Name "range" p) [e] [] apos) X.env x = pure x := by intro _; rfl) : wpE X (.ListComp elt [⟨tg, .Call (.Name "range" p) [e] [] apos, [], 0⟩] scope pos) σ H Q :=
  toE (pe_lc (tt := tYes) (te := fun σ H Q => ∀ (s : Shared) (H0 : Hp) (C : Addr) (cl : List (Str × Addr)) (fp : List Addr), wpE (X.blk s H0 scope (compEnvC scope cl C X.env) fp) elt σ H Q) hc hN pi_wp ok hg
      (fun s H0 C cl fp => pts_nil) (fun s H0 C cl fp => ⟨fun pins s1 σ1 H1 Q I q => q s H0 C cl fp pins s1 I⟩) hs) (lcmR_raw hm hw h hgl hse)
/-- the same, stored -/
theorem ws_setLcR (α β : Type) [Rep α] [Rep β] (hc : X.calm = true) (hN : X.N.Nodup) (ok : BlkOk X.N X.env.scope scope own) (hm : X.mg "range" = none)
    (hg : ∀ (s : Shared) (H : Hp) (C : Addr) (cl : List (Str × Addr)) (fp : List Addr), PG (X.blk s H scope (compEnvC scope cl C X.env) fp) tg (gName j))
    (hw : ∀ (x : Int) G u, rOne X.K j x G u → wipe (u (wipe σ (own.map (·.2)))) (own.map (·.2)) = wipe σ (own.map (·.2)))
    {D : Ends} {i : Nat} {nm : Str} {p2 p3 : Pos} (h : wpE X e σ H fun v H1 => ∃ (n : Int) (items : List Int) (G : Hp) (pot : List α) (res : List β × List α) (f : Int → List α → Option (β × List α)), v = .int n ∧ rngO 0 n = some items ∧ Ex G H1 ∧ Own X.K H1 G a pot ∧ lcM f items pot = some res ∧
      (∀ (s : Shared) (H0 : Hp) (C : Addr) (cl : List (Str × Addr)) (fp : List Addr) x pt y u H2 G2, Rc [a] H1 G H2 G2 → rOne X.K j x G2 u → f x pt = some y → Own X.K H2 G2 a pt →
        wpE (X.blk s H0 scope (compEnvC scope cl C X.env) fp) elt (u (wipe σ (own.map (·.2)))) H2 fun v H3 => ∃ G3, Rc [a] H2 G2 H3 G3 ∧ Own X.K H3 G3 a y.2 ∧ Rep.rel X.K G3 v y.1) ∧
      ∀ p H2 G2, Rc [a] H1 G H2 G2 → H1 p = none → Own X.K H2 G2 a res.2 → Own X.K H2 G2 p res.1 → D.nx (σ.set i (some (.ref p))) H2)
    (hj : X.N[i]? = some nm := by rfl) (hyl : X.env.scope.names.lookup nm = some .local := by rfl) (hsw : swapsWith (.ListComp elt [⟨tg, .Call (.Name "range" p) [e] [] apos, [], 0⟩] scope pos) (some (.Name nm p3)) p2.line X.env = pure true := by exact sw_true rfl rfl rfl (by decide +kernel))
    (hgl : Gl X "range" := by rfl) (hse : starEach [e] X.env = (false, eval e X.env) :: starEach [] X.env := by rfl) (hs : ∀ x, foldedSetIterable (.Call (.Name "range" p) [e] [] apos) X.env x = pure x := by intro _; rfl) : wpS X (.Assign [.Name nm p3] (.ListComp elt [⟨tg, .Call (.Name "range" p) [e] [] apos, [], 0⟩] scope pos) p2) D σ H :=
  toS (ps_setLc (i := i) (tt := tYes) (te := fun σ H Q => ∀ (s : Shared) (H0 : Hp) (C : Addr) (cl : List (Str × Addr)) (fp : List Addr), wpE (X.blk s H0 scope (compEnvC scope cl C X.env) fp) elt σ H Q) hc hN hj hyl hsw pi_wp ok hg
      (fun s H0 C cl fp => pts_nil) (fun s H0 C cl fp => ⟨fun pins s1 σ1 H1 Q I q => q s H0 C cl fp pins s1 I⟩) hs) (lcmR_raw (Q := fun x H1 => gName i x σ H1 D.nx) hm hw h hgl hse)
end
section
variable {X : Cx} {σ : L2.St} {H G : Hp} {b : Expr} {rest : List Expr} {pos : Pos}
theorem ww_rest {k t : Bool} {Q : Bool → Hp → Prop} (h1 : k = true → EvW X (.BoolOp .And (b :: rest) pos) σ H G t) (h2 : k = false → t = false) (g : Ex G H) (kk : ∀ H2 G2, Rc [] H G H2 G2 → Q t H2) : if k = true then wpW X (.BoolOp .And (b :: rest) pos) σ H Q else Q false H := by
  cases k with
  | true => exact h1 rfl H G (Rc.refl g) Q kk
  | false =>
    have := kk H G (Rc.refl g)
    rw [h2 rfl] at this
    exact this
end
end PX

/-! PXl: lists of two different things, whose first one changes at the end; back to what stood before. -/
namespace PX
open PySem L2
structure Mix (α β : Type) where
  a : α
  b : β
instance {α β : Type} [Rep α] [Rep β] : Rep (Mix α β) where
  rel := fun K G v x => ∃ d u w, v = .ref d ∧ G d = some (.lst [u, w]) ∧ Rep.rel K G u x.a ∧ Rep.rel K G w x.b
  mono := fun e ⟨d, u, w, h1, h2, h3, h4⟩ => ⟨d, u, w, h1, e d _ h2, Rep.mono e h3, Rep.mono e h4⟩
theorem mix_ext {α β : Type} {x y : Mix α β} : x = y ↔ x.a = y.a ∧ x.b = y.b := by
  cases x
  cases y
  simp
instance {α β : Type} [PyD α] [PyD β] : PyD (Mix α β) where
  dq := fun x y => @decidable_of_iff _ _ mix_ext.symm (@instDecidableAnd _ _ (PyD.dq x.a y.a) (PyD.dq x.b y.b))
  py := fun x => .list [PyD.py x.a, PyD.py x.b]
  dep := max (PyD.dep α) (PyD.dep β) + 1
  dp := fun ⟨_, _, _, h1, h2, h3, h4⟩ => by
    subst h1
    exact .lst (.inl (.inl h2)) (.cons (PyD.dp h3) (.cons (PyD.dp h4) .nil))
  depOk := fun x => by
    have h1 := PyD.depOk x.a
    have h2 := PyD.depOk x.b
    simp only [PyData.depth, PyData.depthAll]
    omega
  lay := fun x => by simp [PyData.canLay0, PyData.canLayAll0, PyD.lay x.a, PyD.lay x.b]
  eqv := fun x y => by
    simp only [PyData.eqv, PyData.eqvAll, PyD.eqv]
    rw [Bool.eq_iff_iff]
    simp [mix_ext]
instance {α β : Type} [PyD α] [PyD β] : PyO (Mix α β) where
  isref := fun ⟨d, _, _, h, _⟩ => ⟨d, h⟩
section
variable {X : Cx} {σ : L2.St} {H G : Hp} {α β : Type} [Rep α] [Rep β] {a b : Expr} {pos : Pos} {x : α} {y : β}
theorem ev_mix (ha : EvX X a σ H G x) (hb : EvX X b σ H G y) (hs : starEach [a, b] X.env = (false, eval a X.env) :: starEach [b] X.env := by rfl) (hs2 : starEach [b] X.env = (false, eval b X.env) :: starEach [] X.env := by rfl) : EvX X (.List [a, b] pos) σ H G (⟨x, y⟩ : Mix α β) := fun H1 G1 s Q k =>
  toE (pe_lst (pa_cons pe_wp (pa_cons pe_wp pa_nil hs2) hs)) (show wpE X a σ H1 _ from ha H1 G1 s _ fun v H2 G2 s2 r2 => hb H2 G2 (s.trans s2) _ fun w H3 G3 s3 r3 => ⟨(by show 2 ≤ sizeLine; decide), fun p np =>
    k _ _ (upd G3 p (.lst [v, w])) ((s2.trans s3).trans (Rc.newG s3.sub np)) ⟨p, v, w, rfl, upd_same, Rep.mono (s3.ex.trans (Ex.new (none_back s3.sub np))) r2, Rep.mono (Ex.new (none_back s3.sub np)) r3⟩⟩)
/-- a new list of two, whose first one is a new list at p -/
def MixAt {α β : Type} [Rep α] [Rep β] (K : PySem.W.Frag) (G : Hp) (d p : Addr) (xs : List α) (y : β) : Prop := ∃ w vs, G d = some (.lst [.ref p, w]) ∧ G p = some (.lst vs) ∧ Rels K G vs xs ∧ Rep.rel K G w y
theorem MixAt.mono {K : PySem.W.Frag} {G G' : Hp} {d p : Addr} {xs : List α} (e : Ex G G') (h : MixAt K G d p xs y) : MixAt K G' d p xs y := by
  obtain ⟨w, vs, h1, h2, h3, h4⟩ := h
  exact ⟨w, vs, e _ _ h1, e _ _ h2, Rels.mono e h3, Rep.mono e h4⟩
theorem MixAt.rel {K : PySem.W.Frag} {G : Hp} {d p : Addr} {xs : List α} (h : MixAt K G d p xs y) : Rep.rel K G (.ref d) (⟨xs, y⟩ : Mix (List α) β) := by
  obtain ⟨w, vs, h1, h2, h3, h4⟩ := h
  exact ⟨d, .ref p, w, rfl, h1, ⟨p, vs, rfl, h2, h3⟩, h4⟩
theorem wp_mix {xs : List α} {Q : VK} (ha : EvN X a σ H G xs) (hb : EvX X b σ H G y) (g : Ex G H) (k : ∀ p d H2 G2, Rc [] H G H2 G2 → H p = none → H d = none → MixAt X.K G2 d p xs y → Q (.ref d) H2)
    (hs : starEach [a, b] X.env = (false, eval a X.env) :: starEach [b] X.env := by rfl) (hs2 : starEach [b] X.env = (false, eval b X.env) :: starEach [] X.env := by rfl) : wpE X (.List [a, b] pos) σ H Q :=
  toE (pe_lst (pa_cons pe_wp (pa_cons pe_wp pa_nil hs2) hs)) (show wpE X a σ H _ from ha H G (Rc.refl g) _ fun p H2 G2 s2 n2 o2 => by
    obtain ⟨vs, h1, h2, h3⟩ := o2
    have f2 : Rc [] H G H2 (upd G2 p (.lst vs)) := s2.freeze n2 h2 h1
    refine hb H2 _ f2 _ fun w H3 G3 s3 r3 => ⟨(by show 2 ≤ sizeLine; decide), fun d nd => ?_⟩
    have ng := none_back s3.sub nd
    refine k p d _ (upd G3 d (.lst [.ref p, w])) ((f2.trans s3).trans (Rc.newG s3.sub nd)) n2 (none_back (f2.trans s3).exH nd) ⟨w, vs, upd_same, ?_, ?_, Rep.mono (Ex.new ng) r3⟩
    · exact (s3.ex.trans (Ex.new ng)) _ _ upd_same
    · exact Rels.mono ((Ex.new h2).trans (s3.ex.trans (Ex.new ng))) h3)
end
/-- back to what stood for good ahead, what is new at p has changed -/
theorem Rc.roll {m : List Addr} {H0 G0 Ht Gt H G : Hp} {p : Addr} {o : HO} (a : Rc m H0 G0 Ht Gt) (b : Rc m H0 G0 H G) (x : Ex Gt G) (n : H0 p = none) (g : Gt p = none) : Rc m H0 G0 (upd H p o) Gt where
  ex := a.ex
  sub := fun c u e => by
    rw [upd_ne (ne_of_none e g)]
    exact b.sub c u (x c u e)
  keep := fun c u nc e => by
    rw [upd_ne (ne_of_none e n)]
    exact b.keep c u nc e
  dom := fun c u e => by
    obtain ⟨u', e'⟩ := b.dom c u e
    exact ⟨u', by rw [upd_ne (ne_of_none e n)]; exact e'⟩
  fr := a.fr
  tp := fun c u e t u' e' => by
    rw [upd_ne (ne_of_none e n)] at e'
    exact b.tp c u e t u' e'
theorem Own.roll {α : Type} [Rep α] {K : PySem.W.Frag} {Ht Gt H : Hp} {p q : Addr} {o : HO} {xs : List α} (h : Own K Ht Gt q xs) (k : ∀ u, Ht q = some u → H q = some u) (ne : q ≠ p) : Own K (upd H p o) Gt q xs := by
  obtain ⟨vs, h1, h2, h3⟩ := h
  exact ⟨vs, by rw [upd_ne ne]; exact k _ h1, h2, h3⟩
section
variable {X : Cx} {σ : L2.St} {H G : Hp} {i : Nat} {nm : Str} {p0 p1 p2 pos apos : Pos} {D : Ends} {α β : Type} [Rep α] [Rep β] {xs : List α} {y : β}
/-- xs[0].append("..") -/
theorem ws_app0 {d p : Addr} {t : Str} {j0 j1} (hs : σ[i]? = some (some (.ref d))) (g0 : Ex G H) (hm : MixAt X.K G d p xs y) (hz : xs.length < line)
    (k : ∀ H2 G2 o, Rc [] H G H2 G2 → D.nx σ (upd H2 p o))
    (hN : X.N[i]? = some nm := by rfl) (hv : Vis X.env.scope nm := by first | exact Or.inl rfl | exact Or.inr (Or.inl rfl) | exact Or.inr (Or.inr rfl)) (hd : (nm == ("__debug__" : Str)) = false := by decide) (hcd : (nm == ("__classdict__" : Str)) = false := by decide)
    (hbase : attributeBase (.Subscript (.Name nm p0) (.Constant (.int 0) j0 p1) p2) "append" X.env (eval (.Subscript (.Name nm p0) (.Constant (.int 0) j0 p1) p2) X.env) = eval (.Subscript (.Name nm p0) (.Constant (.int 0) j0 p1) p2) X.env := by rfl)
    {pe pS : Pos}
    (hfew : ((backTo pos (starEach [.Constant (.str t) j1 pe] X.env)).all (fun x => !x.1) && (backToKw pos (keywordEach [] X.env)).all (fun x => x.1.isSome) && decide ([Expr.Constant (.str t) j1 pe].length + ([] : List Keyword).length + (if ([] : List Keyword).isEmpty then 0 else 1) < 30)) = true := by rfl)
    (hline : (apos.endLine == pos.line) = true := by rfl) (hst : starEach [.Constant (.str t) j1 pe] X.env = (false, eval (.Constant (.str t) j1 pe) X.env) :: starEach [] X.env := by rfl) (hpl : (backTo pos (starEach [] X.env)).any (·.1) = false := by rfl)
    (hsw : swapsWith (.Call (.Attribute (.Subscript (.Name nm p0) (.Constant (.int 0) j0 p1) p2) "append" apos) [.Constant (.str t) j1 pe] [] pos) none pS.line X.env = pure false := by rfl) :
    wpS X (.Expr (.Call (.Attribute (.Subscript (.Name nm p0) (.Constant (.int 0) j0 p1) p2) "append" apos) [.Constant (.str t) j1 pe] [] pos) pS) D σ H := by
  obtain ⟨w, vs, h1, h2, h3, h4⟩ := hm
  refine ws_expr (toE (pe_bm PySem.F.plainAttrs_list PySem.F.slot_list_append PySem.F.type_list_append mt_append pe_wp (pa_cons pe_wp pa_nil hst) hbase hfew hline hst hpl) ?_) hsw
  show wpE X (.Subscript (.Name nm p0) (.Constant (.int 0) j0 p1) p2) σ H _
  refine wp_ix (wp_var hs ?_ hN hv hd hcd)
  refine ev_int (i := 0) H G (Rc.refl g0) _ fun v H1 G1 s1 r1 => ?_
  refine ⟨d, [.ref p, w], 0, .ref p, rfl, r1, .inl (.inl (s1.sub _ _ (s1.ex _ _ h1))), rfl, ?_⟩
  refine ⟨.inl ⟨rfl, _, .inl (.inl (s1.sub _ _ (s1.ex _ _ h2)))⟩, ?_⟩
  show wpE X (.Constant (.str t) j1 pe) σ H1 _
  refine ev_str (i := t) H1 G1 (Rc.refl s1.sub) _ fun v2 H2 G2 s2 r2 => ?_
  exact ⟨p, vs, v2, rfl, rfl, s2.sub _ _ (s2.ex _ _ (s1.ex _ _ h2)), by rw [Paired.len h3]; exact line_lt hz, k H2 G2 _ (s1.trans s2)⟩
end
/-- a list that was lent is ours again -/
theorem Rc.unlend {m : List Addr} {H G H2 G2 : Hp} {p : Addr} {o : HO} (s : Rc m H (upd G p o) H2 G2) (np : G p = none) : Rc m H G H2 G where
  ex := Ex.refl G
  sub := (Ex.new np).trans (s.ex.trans s.sub)
  keep := s.keep
  dom := s.dom
  fr := fun _ _ _ _ n => n
  tp := s.tp
theorem rels_scal {α : Type} [Scal α] {K : PySem.W.Frag} {G G' : Hp} {vs : List V} {xs : List α} (h : Rels K G vs xs) : Rels K G' vs xs := Paired.imp (fun _ _ q => scal_any q) h
theorem Own.unlend {α : Type} [Scal α] {K : PySem.W.Frag} {H G G2 : Hp} {q : Addr} {xs : List α} (o : Own K H G2 q xs) (x : Ex G G2) : Own K H G q xs := by
  obtain ⟨vs, h1, h2, h3⟩ := o
  exact ⟨vs, h1, none_back x h2, rels_scal h3⟩
end PX

/-! PXm: defs that yield; what they call; list(g(..)); xs.index(x). -/
namespace PX
open PySem L2
open PySem.Spec PyProof.Rows

/-! ### defs that keep their promise wherever they run -/
structure Cal0 (P : Program) (w : World) (K : PySem.W.Frag) (mg : Str → Option Value) (base : Heap) (nm : Str) (k : Nat) (ps : List Str) (sp : Sp) : Prop where
  ex : ∃ (f : Addr) (fd : FuncData), FnOk P w K mg base CX0 k f fd ps sp ∧ mg nm = some (.ref f) ∧ PySem.W.keepIn K (.ref f) = true ∧ Binds K fd ps []
section
variable {P : Program} {w : World} {K : PySem.W.Frag} {mg : Str → Option Value} {base : Heap} {k : Nat} {f : Addr} {fd : FuncData} {ps : List Str} {sp : Sp}
theorem defF {x qual : Str} {st : Stmt} {N : List Str} (F : Fun K x qual st f fd) (S : FnScope N ps (defScope st)) (len : ∀ vs H Q E, sp vs H Q E → vs.length = ps.length)
    (hbody : ∀ (cdv : Value) (A : Around) (outer : List Env) (s : Shared) (H : Hp) (vs : List V) (Q : VK) (E : XK), Room k (A.deeper (envOfC qual (defScope st) s.heap.objs.size f cdv)) → sp vs H Q E →
      wpB (cxOf CX0 P w K mg base N qual (defScope st) f cdv A outer s H E).nox (defBody st) { nx := fun _ H' => Q .non H', rt := Q } (start N vs) H) : FnOk P w K mg base CX0 (k + 1) f fd ps sp := by
  obtain ⟨oc, od, kV, doc, pm, an, cdv, ct, osl, rfl, lk, hcd⟩ := F.ex
  exact fn_of lk hcd S len fun A outer s H vs Q E r q => ⟨_, pss_wp, nox_B (hbody cdv A outer s H vs Q E r q)⟩
end
section
variable {X : Cx} {σ : L2.St} {H G : Hp} {γ τ : Type} [Rep γ] [ArgsR τ] {e : Expr} {es : List Expr} {pos p : Pos} {w : τ} {k j : Nat} {ps : List Str} {nm : Str}
theorem ec_V0 {fn : τ → Option γ} {r : γ} (C : Cal0 X.prog X.w X.K X.mg X.base nm k ps (spV fn X.K)) (hr : Room j X.A) (hk : k ≤ j) (h : fn w = some r) (ha : EvA X (e :: es) σ H G w)
    (hg : Gl X nm := by rfl) (hdb : (nm == ("__debug__" : Str)) = false := by decide) (he : starEach (e :: es) X.env = (false, eval e X.env) :: starEach es X.env := by rfl) (hpl : (backTo pos (starEach es X.env)).any (·.1) = false := by rfl) : EvX X (.Call (.Name nm p) (e :: es) [] pos) σ H G r := by
  obtain ⟨f, fd, F, c1, c2, c3⟩ := C.ex
  intro H1 G1 s Q q
  refine toE (pe_call F (hr.mono hk) hg c1 c2 c3 .nil pass0 pa_wp hdb he hpl) ?_
  show wpA X (e :: es) σ H1 _
  refine ha H1 G1 s _ fun vs H2 G2 s2 r2 => ?_
  show spV fn X.K (vs ++ []) H2 Q E0
  rw [List.append_nil]
  exact ⟨G2, w, r, s2.sub, r2, h, fun v H3 G3 s3 r3 => q v H3 G3 (s2.trans s3) r3⟩
/-- the call as a statement's expression -/
theorem wc0 {sp : Sp} {Q : VK} (C : Cal0 X.prog X.w X.K X.mg X.base nm k ps sp) (hr : Room j X.A) (hk : k ≤ j) (h : wpA X (e :: es) σ H fun vs H1 => sp vs H1 Q E0)
    (hg : Gl X nm := by rfl) (hdb : (nm == ("__debug__" : Str)) = false := by decide) (he : starEach (e :: es) X.env = (false, eval e X.env) :: starEach es X.env := by rfl) (hpl : (backTo pos (starEach es X.env)).any (·.1) = false := by rfl) : wpE X (.Call (.Name nm p) (e :: es) [] pos) σ H Q := by
  obtain ⟨f, fd, F, c1, c2, c3⟩ := C.ex
  refine toE (pe_call F (hr.mono hk) hg c1 c2 c3 .nil pass0 pa_wp hdb he hpl) ?_
  show wpA X (e :: es) σ H fun vs H1 => sp (vs ++ []) H1 Q E0
  have q : (fun vs H1 => sp (vs ++ []) H1 Q E0) = fun vs H1 => sp vs H1 Q E0 := by
    funext vs H1
    rw [List.append_nil]
  rw [q]
  exact h
end

/-! ### a body that yields -/
def wpGs (X : Cx) (sts : List Stmt) : TGn := fun D ys σ H =>
  ∀ (A : Around) (S : Addr) (ip : List (Addr × Obj)) (R : GenEnd) (n : Nat) (s₀ : Shared) (c : Code) (fs : List Frame) (K : Flow → Sem PySem.Fin) (J : Value → Sem PySem.Fin) (gd : Bool → Bool) (lv : List Value → List Value) (s : Shared),
    GC X S ip A c fs gd → n + ys.length = sizeLine → GK X S ip A R c fs K J D → GI X S ip ys σ H s → Seg (model X.prog X.w) A R (GY X S) n s₀ c ((execs sts X.env).wrap K J gd lv) fs s
section
variable {X : Cx} {st : Stmt} {sts rest : List Stmt} {D : GEnds} {ys : List V} {σ : L2.St} {H G : Hp}
theorem gss_wp : GSs X sts (wpGs X sts) := ⟨fun A S ip R n ys s₀ c fs K J gd lv s σ H D g hn k hI h => h A S ip R n s₀ c fs K J gd lv s g hn k hI⟩
theorem toGs {t : TGn} (h : GSs X sts t) (q : t D ys σ H) : wpGs X sts D ys σ H := fun A S ip R n s₀ c fs K J gd lv s g hn k hI => h.run A S ip R n ys s₀ c fs K J gd lv s σ H D g hn k hI q
theorem wg_nil (h : D.nx ys σ H) : wpGs X [] D ys σ H := toGs gss_nil h
theorem wg_cons (h : wpS X st { nx := fun σ H => wpGs X rest D ys σ H, rt := D.rt ys, bk := D.bk ys, ct := D.ct ys } σ H) : wpGs X (st :: rest) D ys σ H := toGs (gss_cons (gs_ps ps_wp) gss_wp) h
theorem wg_yield {γ : Type} [Rep γ] {e : Expr} {yp pos : Pos} {out zs : List γ} {x : γ} (h : EvX X e σ H G x) (g : Ex G H) (ry : Rels X.K G ys out) (ha : appO out x = some zs) (k : ∀ ys' H2 G2, Rc [] H G H2 G2 → Rels X.K G2 ys' zs → wpGs X rest D ys' σ H2)
    (hco : X.env.scope.isCoroutine = false := by rfl) (hi : interactive X.env = false := by rfl) : wpGs X (.Expr (.Yield (some e) yp) pos :: rest) D ys σ H := by
  obtain ⟨h1, h2⟩ := dite_some ha
  subst h2
  refine toGs (gss_cons (gs_yield pe_wp hco hi) gss_wp) ?_
  exact ⟨by rw [Paired.len ry]; exact line_lt h1, h.go g fun v H2 G2 s2 r2 => k _ H2 G2 s2 (Paired.append (Rels.mono s2.ex ry) (.cons r2 .nil))⟩
theorem wg_while {S γ : Type} [Rep γ] {test : S → Option Bool} {body : S × List γ → Option (Ctl Unit (S × List γ))} {n : Nat} {s0 : S} {out : List γ} {cc : Ctl Unit (S × List γ)} {c : Expr} {pos : Pos} (hp : PassesOwn (model X.prog X.w) X.A X.env X.xe)
    (h : whl (fun s => test s.1) body n (s0, out) = some cc) (I : S → L2.St → Hp → Hp → Prop) (h0 : I s0 σ H G) (ry : Rels X.K G ys out)
    (ht : ∀ s σ1 H1 G1 b, test s = some b → I s σ1 H1 G1 → wpT X c σ1 H1 fun b' H2 => b' = b ∧ ∃ G2, Rc [] H1 G1 H2 G2)
    (hm : ∀ s σ1 H1 G1 H2 G2, I s σ1 H1 G1 → Rc [] H1 G1 H2 G2 → I s σ1 H2 G2)
    (hb : ∀ s o σ1 H1 G1 c' ys, test s = some true → body (s, o) = some c' → I s σ1 H1 G1 → Rels X.K G1 ys o →
      wpGs X sts { nx := fun ys σ H => ∃ s' o' G, c' = .nx (s', o') ∧ I s' σ H G ∧ Rels X.K G ys o', rt := fun _ _ _ => False } ys σ1 H1)
    (k : ∀ s o ys σ1 H1 G1, cc = .nx (s, o) → I s σ1 H1 G1 → Rels X.K G1 ys o → wpGs X rest D ys σ1 H1) : wpGs X (.While c sts [] pos :: rest) D ys σ H := by
  refine toGs (gss_cons (gs_while hp pt_wp gss_wp) gss_wp) ?_
  refine ⟨fun m ys' σ' H' => ∃ s o G', I s σ' H' G' ∧ Rels X.K G' ys' o ∧ whl (fun s => test s.1) body m (s, o) = some cc, ⟨n, s0, out, G, h0, ry, h⟩, ?_⟩
  rintro m ys' σ' H' ⟨s, o, G', hI, ry', hf⟩
  cases m with
  | zero => cases hf
  | succ m =>
    obtain ⟨b, hb1, hf⟩ := bind_some hf
    refine wpT_mono ?_ (ht s σ' H' G' b hb1 hI)
    rintro b' H2 ⟨rfl, G2, s2⟩
    have hI2 := hm _ _ _ _ _ _ hI s2
    have ry2 := Rels.mono s2.ex ry'
    rcases cond_some hf with ⟨eb, hf⟩ | ⟨eb, hf⟩
    · subst eb
      rw [if_pos rfl]
      obtain ⟨c', hc', hf⟩ := bind_some hf
      refine ⟨fun ys1 σ1 H1 => ∃ s o G', I s σ1 H1 G' ∧ Rels X.K G' ys1 o ∧ whl (fun s => test s.1) body m (s, o) = some cc, fun ys1 σ1 H1 q => ⟨m, Nat.lt_succ_self m, q⟩, ?_⟩
      have q := hb s o σ' H2 G2 c' ys' hb1 hc' hI2 ry2
      intro A S ip R n s₀ c fs K J gd lv s1 g hn gk hI1
      refine q A S ip R n s₀ c fs K J gd lv s1 g hn ⟨fun n' ys1 s₁ s2 f hn' hs => ?_, gk.exc⟩ hI1
      refine gk.ok n' ys1 s₁ s2 f hn' ?_
      cases f with
      | next =>
        obtain ⟨σ3, H3, hg, s', o', G3, ec, k1, k2⟩ := hs
        subst ec
        exact ⟨σ3, H3, hg, s', o', G3, k1, k2, hf⟩
      | brk =>
        obtain ⟨σ3, H3, hg, z⟩ := hs
        exact z.elim
      | cont =>
        obtain ⟨σ3, H3, hg, z⟩ := hs
        exact z.elim
      | ret u =>
        obtain ⟨v, σ3, H3, hg, _, z⟩ := hs
        exact z.elim
    · subst eb
      rw [if_neg Bool.false_ne_true]
      exact k s o ys' σ' H2 G2 (Option.some.inj hf).symm hI2 ry2
end
/-- what a def hands out, one by one -/
def spG {γ τ : Type} [Rep γ] [ArgsR τ] (f : τ → Option (List γ)) (K : PySem.W.Frag) : SpG := fun vs H Q _ => ∃ G w r, Ex G H ∧ ArgsR.rel K G vs w ∧ f w = some r ∧ ∀ ys H2 G2, Rc [] H G H2 G2 → Rels K G2 ys r → Q ys H2
theorem lenG {γ τ : Type} [Rep γ] [ArgsR τ] {f : τ → Option (List γ)} {K : PySem.W.Frag} {n : Nat} (h : ArgsR.n τ = n) : ∀ vs H Q E, spG f K vs H Q E → vs.length = n := fun vs H Q E ⟨_, _, _, _, q, _⟩ => by rw [ArgsR.len q, h]
section
variable {P : Program} {w : World} {K : PySem.W.Frag} {mg : Str → Option Value} {base : Heap} {k : Nat} {f : Addr} {fd : FuncData} {ps : List Str} {sp : SpG}
theorem defY {x qual : Str} {st : Stmt} {N : List Str} (F : Fun K x qual st f fd) (S : GScope N ps (defScope st)) (len : ∀ vs H Q E, sp vs H Q E → vs.length = ps.length)
    (hbody : ∀ (cdv : Value) (A : Around) (outer : List Env) (s : Shared) (H : Hp) (vs : List V) (Q : List V → Hp → Prop) (E : XK) (pn : List (Addr × Obj)), Room k (A.deeper (envOfC qual (defScope st) s.heap.objs.size f cdv)) → sp vs H Q E →
      wpGs (gcxOf P w K mg base N qual (defScope st) f cdv A outer s H E pn) (defBody st) { nx := fun ys _ H' => Q ys H', rt := fun ys v H' => v = .non ∧ Q ys H' } [] (start N vs) H) : GFn P w K mg base (k + 1) f fd ps sp := by
  obtain ⟨oc, od, kV, doc, pm, an, cdv, ct, osl, rfl, lk, hcd⟩ := F.ex
  exact gfn_of lk hcd S len fun A outer s H vs Q E pn r q => ⟨_, gss_wp, hbody cdv A outer s H vs Q E pn r q⟩
structure CalG (P : Program) (w : World) (K : PySem.W.Frag) (mg : Str → Option Value) (base : Heap) (nm : Str) (k : Nat) (ps : List Str) (sp : SpG) : Prop where
  ex : ∃ (f : Addr) (fd : FuncData), GFn P w K mg base k f fd ps sp ∧ mg nm = some (.ref f) ∧ PySem.W.keepIn K (.ref f) = true ∧ Binds K fd ps []
end
section
variable {X : Cx} {σ : L2.St} {H G : Hp} {γ τ : Type} [Rep γ] [ArgsR τ] {e : Expr} {es : List Expr} {pos p pos2 p2 : Pos} {w : τ} {k j : Nat} {ps : List Str} {nm : Str}
theorem ev_listG {fn : τ → Option (List γ)} {r : List γ} (C : CalG X.prog X.w X.K X.mg X.base nm k ps (spG fn X.K)) (hr : Room j X.A) (hk : k + 3 ≤ j) (hm : X.mg "list" = none) (h : fn w = some r) (ha : EvA X (e :: es) σ H G w)
    (hg : Gl X nm := by rfl) (hgl : Gl X "list" := by rfl) (hdb : (nm == ("__debug__" : Str)) = false := by decide) (he : starEach (e :: es) X.env = (false, eval e X.env) :: starEach es X.env := by rfl) (hpl : (backTo pos (starEach es X.env)).any (·.1) = false := by rfl)
    (he2 : starEach [.Call (.Name nm p) (e :: es) [] pos] X.env = (false, eval (.Call (.Name nm p) (e :: es) [] pos) X.env) :: starEach [] X.env := by rfl) : EvN X (.Call (.Name "list" p2) [.Call (.Name nm p) (e :: es) [] pos] [] pos2) σ H G r := by
  obtain ⟨f, fd, F, c1, c2, c3⟩ := C.ex
  intro H1 G1 s Q q
  have pg := pgen_call (E := E0) (pos' := pos) (p := p) F (hr.mono (by omega)) hg c1 c2 c3 .nil (pa_wp (es := e :: es)) hdb he hpl
  refine toE (pe_listG pg (fun _ _ _ _ _ _ _ z => ?_) (fun _ _ _ z => z.elim) (hr.mono hk) hgl hm (by decide +kernel) (by decide) (by decide) he2) ?_
  · obtain ⟨_, _, _, _, _, _, _, _, _, _, _, _, z⟩ := z
    exact z.elim
  show wpA X (e :: es) σ H1 _
  refine ha H1 G1 s _ fun vs H2 G2 s2 r2 => ?_
  show spG fn X.K (vs ++ []) H2 _ E0
  rw [List.append_nil]
  exact ⟨G2, w, r, s2.sub, r2, h, fun ys H3 G3 s3 r3 d nd => q d _ G3 ((s2.trans s3).trans (Rc.new s3.sub nd)) (none_back (s2.trans s3).exH nd) (Own.mk s3.sub nd r3)⟩
end
/-! ### xs.index(x) -/
def indO (xs : List Int) (x : Int) : Option Int := if x ∈ xs then some (xs.idxOf x : Nat) else none
theorem idx_flat {xs : List Int} {x : Int} (h : x ∈ xs) : xs[xs.idxOf x]? = some x ∧ ∀ m y, m < xs.idxOf x → xs[m]? = some y → y ≠ x := by
  refine ⟨?_, fun m y hm hy e => ?_⟩
  · have := List.idxOf_lt_length_of_mem h
    rw [List.getElem?_eq_getElem this, List.getElem_idxOf this]
  · subst e
    have := List.idxOf_lt_length_of_mem h
    have hm2 : m < xs.length := by omega
    have hz : xs[m] = y := by
      rw [List.getElem?_eq_getElem hm2] at hy
      exact Option.some.inj hy
    have := List.not_of_lt_findIdx (p := fun z => z == y) (xs := xs) (i := m) hm
    rw [hz] at this
    simp at this
section
variable {X : Cx} {σ : L2.St} {H G : Hp} {e o : Expr} {apos cpos : Pos}
theorem ev_index {xs : List Int} {x r : Int} (h : indO xs x = some r) (ho : EvX X o σ H G xs) (ha : EvX X e σ H G x)
    (hbase : attributeBase o "index" X.env (eval o X.env) = eval o X.env := by rfl)
    (hfew : ((backTo cpos (starEach [e] X.env)).all (fun x => !x.1) && (backToKw cpos (keywordEach [] X.env)).all (fun x => x.1.isSome) && decide ([e].length + ([] : List Keyword).length + (if ([] : List Keyword).isEmpty then 0 else 1) < 30)) = true := by rfl)
    (hline : (apos.endLine == cpos.line) = true := by rfl) (hst : starEach [e] X.env = (false, eval e X.env) :: starEach [] X.env := by rfl) (hpl : (backTo cpos (starEach [] X.env)).any (·.1) = false := by rfl) :
    EvX X (.Call (.Attribute o "index" apos) [e] [] cpos) σ H G r := by
  obtain ⟨h1, h2⟩ := dite_some h
  subst h2
  intro H1 G1 s Q q
  refine toE (pe_bm PySem.F.plainAttrs_list PySem.F.slot_list_index PySem.F.type_list_index mt_index pe_wp (pa_cons pe_wp pa_nil hst) hbase hfew hline hst hpl) ?_
  show wpE X o σ H1 _
  refine ho H1 G1 s _ fun v H2 G2 s2 r2 => ?_
  obtain ⟨b, vs, q1, q2, q3⟩ := r2
  subst q1
  refine ⟨.inl ⟨rfl, _, .inl (.inl (s2.sub _ _ q2))⟩, ?_⟩
  show wpE X e σ H2 _
  refine ha H2 G2 (s.trans s2) _ fun u H3 G3 s3 r3 => ?_
  obtain rfl : u = V.int x := r3
  rw [rels_int q3] at q2
  obtain ⟨i1, i2⟩ := idx_flat h1
  refine ⟨b, xs.map V.int, .int x, xs.idxOf x, .int x, rfl, rfl, .inl (.inl (s3.sub _ _ (s3.ex _ _ q2))), rfl, flat_int, by rw [List.getElem?_map, i1]; rfl, by simp [eqV], fun m z' hm hz => ?_, q _ H3 G3 (s2.trans s3) rfl⟩
  rw [List.getElem?_map] at hz
  cases hy : xs[m]? with
  | none =>
    rw [hy] at hz
    cases hz
  | some y =>
    rw [hy] at hz
    obtain rfl : V.int y = z' := Option.some.inj hz
    have := i2 m y hm hy
    simp [eqV, this]
end
end PX

/-! PM: the mathematics of rows and times, apart from any program. -/
namespace PX
open PySem L2

/-! ### loops of mirrors -/
theorem forL_inv {ι ρ S : Type} {body : ι → S → Option (Ctl ρ S)} {items : List ι} {s0 : S} (I : Nat → S → Prop) (h0 : I 0 s0)
    (step : ∀ i x s, items[i]? = some x → I i s → ∃ s', body x s = some (.nx s') ∧ I (i + 1) s') : ∃ s, forL body items s0 = some (.nx s) ∧ I items.length s := by
  suffices H : ∀ (l : List ι) (i : Nat) (s : S), items.drop i = l → I i s → ∃ s', forL body l s = some (.nx s') ∧ I (i + l.length) s' by
    obtain ⟨s, h1, h2⟩ := H items 0 s0 (List.drop_zero ..) h0
    rw [Nat.zero_add] at h2
    exact ⟨s, h1, h2⟩
  intro l
  induction l with
  | nil =>
    intro i s hd hI
    exact ⟨s, rfl, hI⟩
  | cons x r ih =>
    intro i s hd hI
    have hx : items[i]? = some x := by
      have := congrArg (fun z => z[0]?) hd
      simpa using this
    obtain ⟨s', h1, h2⟩ := step i x s hx hI
    have hd' : items.drop (i + 1) = r := by
      have := congrArg (fun z => z.drop 1) hd
      simpa [List.drop_drop, Nat.add_comm] using this
    obtain ⟨s2, h3, h4⟩ := ih (i + 1) s' hd' h2
    refine ⟨s2, ?_, ?_⟩
    · show Option.bind (body x s) _ = _
      rw [h1]
      exact h3
    · rw [List.length_cons]
      have e : i + (r.length + 1) = i + 1 + r.length := by omega
      rw [e]
      exact h4
/-- a loop that may hand back: either it goes through, or it hands back at some item -/
theorem forL_all {ι ρ S : Type} {body : ι → S → Option (Ctl ρ S)} {items : List ι} {s0 : S} (I : S → Prop) (h0 : I s0)
    (step : ∀ x s, x ∈ items → I s → ∃ s', body x s = some (.nx s') ∧ I s') : ∃ s, forL body items s0 = some (.nx s) ∧ I s := by
  induction items generalizing s0 with
  | nil => exact ⟨s0, rfl, h0⟩
  | cons x r ih =>
    obtain ⟨s', h1, h2⟩ := step x s0 List.mem_cons_self h0
    obtain ⟨s2, h3, h4⟩ := ih h2 fun y s hy => step y s (List.mem_cons_of_mem _ hy)
    refine ⟨s2, ?_, h4⟩
    show Option.bind (body x s0) _ = _
    rw [h1]
    exact h3
theorem whl_inv {ρ S : Type} {test : S → Option Bool} {body : S → Option (Ctl ρ S)} (I Q : S → Prop) (μ : S → Nat)
    (step : ∀ s, I s → ∃ b, test s = some b ∧ (b = true → ∃ s', body s = some (.nx s') ∧ I s' ∧ μ s' < μ s) ∧ (b = false → Q s)) : ∀ (n : Nat) (s0 : S), I s0 → μ s0 < n → ∃ s, whl test body n s0 = some (.nx s) ∧ I s ∧ Q s := by
  intro n
  induction n with
  | zero => intro s0 _ h; omega
  | succ n ih =>
    intro s0 h0 hn
    obtain ⟨b, hb, h1, h2⟩ := step s0 h0
    cases b with
    | true =>
      obtain ⟨s', hs, hi, hm⟩ := h1 rfl
      obtain ⟨s, h3, h4, h5⟩ := ih s' hi (by omega)
      refine ⟨s, ?_, h4, h5⟩
      show Option.bind (test s0) _ = _
      rw [hb]
      show Option.bind (body s0) _ = _
      rw [hs]
      exact h3
    | false =>
      refine ⟨s0, ?_, h0, h2 rfl⟩
      show Option.bind (test s0) _ = _
      rw [hb]
      rfl
theorem lcO_map {ι β : Type} {f : ι → Option β} {g : ι → β} : ∀ (l : List ι), (∀ x ∈ l, f x = some (g x)) → lcO (fun _ => some true) f l = some (l.map g)
  | [], _ => rfl
  | x :: r, h => by
    show Option.bind (f x) (fun y => Option.bind (lcO (fun _ => some true) f r) fun ys => some (y :: ys)) = _
    rw [h x List.mem_cons_self, lcO_map r fun y hy => h y (List.mem_cons_of_mem _ hy)]
    rfl
theorem lcO_filter {ι β : Type} {c : ι → Option Bool} {f : ι → Option β} {p : ι → Bool} {g : ι → β} : ∀ (l : List ι), (∀ x ∈ l, c x = some (p x)) → (∀ x ∈ l, p x = true → f x = some (g x)) → lcO c f l = some ((l.filter p).map g)
  | [], _, _ => rfl
  | x :: r, h, k => by
    have ih := lcO_filter (c := c) (f := f) r (fun y hy => h y (List.mem_cons_of_mem _ hy)) (fun y hy => k y (List.mem_cons_of_mem _ hy))
    show Option.bind (c x) _ = _
    rw [h x List.mem_cons_self]
    cases hp : p x with
    | true =>
      show Option.bind (f x) _ = _
      rw [k x List.mem_cons_self hp, List.filter_cons_of_pos hp, List.map_cons]
      show Option.bind (lcO c f r) _ = _
      rw [ih]
      rfl
    | false =>
      rw [List.filter_cons_of_neg (by rw [hp]; exact Bool.false_ne_true)]
      exact ih

/-! ### lists by places -/
def nth (xs : List Int) (i : Nat) : Int := xs[i]?.getD 0
theorem nth_some {xs : List Int} {i : Nat} (h : i < xs.length) : xs[i]? = some (nth xs i) := by
  unfold nth
  rw [List.getElem?_eq_getElem h]
  rfl
theorem nth_of {xs : List Int} {i : Nat} {x : Int} (h : xs[i]? = some x) : nth xs i = x := by
  unfold nth
  rw [h]
  rfl
theorem ix_nat {xs : List Int} {i : Nat} (h : i < xs.length) : ix xs (i : Int) = some (nth xs i) := atI_nat (nth_some h)
theorem ix_int {xs : List Int} {z : Int} (h0 : 0 ≤ z) (h : z < xs.length) : ix xs z = some (nth xs z.toNat) := by
  have e : z = (z.toNat : Int) := by omega
  rw [e]
  exact ix_nat (by omega)
theorem ix_last {xs : List Int} {x : Int} : ix (xs ++ [x]) (-1) = some x := atI_last xs x
theorem popO_last {xs : List Int} {x : Int} : popO (xs ++ [x]) = some (x, xs) := by
  unfold popO
  rw [List.getLast?_concat]
  show some (x, (xs ++ [x]).dropLast) = _
  rw [List.dropLast_concat]
theorem ixN_nat {n i : Nat} (h : i < n) : ixN n (i : Int) = some i := by
  unfold ixN
  rw [if_pos (by omega), if_pos (by omega)]
  simp
theorem setO_nat {α : Type} {xs : List α} {i : Nat} {x : α} (h : i < xs.length) : setO xs (i : Int) x = some (xs.set i x) := by
  unfold setO
  rw [ixN_nat h]
  rfl
theorem nth_set {xs : List Int} {i j : Nat} {x : Int} (h : i < xs.length) : nth (xs.set i x) j = if i = j then x else nth xs j := by
  unfold nth
  rw [List.getElem?_set]
  by_cases c : i = j
  · subst c
    rw [if_pos rfl, if_pos rfl, if_pos h]
    rfl
  · rw [if_neg c, if_neg c]
theorem nth_app {xs ys : List Int} {j : Nat} (h : j < xs.length) : nth (xs ++ ys) j = nth xs j := by
  unfold nth
  rw [List.getElem?_append_left h]
theorem nth_app2 {xs ys : List Int} {j : Nat} (h : xs.length ≤ j) : nth (xs ++ ys) j = nth ys (j - xs.length) := by
  unfold nth
  rw [List.getElem?_append_right h]
theorem ext_nth {xs ys : List Int} (hl : xs.length = ys.length) (h : ∀ i < xs.length, nth xs i = nth ys i) : xs = ys := by
  apply List.ext_getElem? 
  intro i
  by_cases c : i < xs.length
  · rw [nth_some c, nth_some (by omega), h i c]
  · rw [List.getElem?_eq_none (by omega), List.getElem?_eq_none (by omega)]
theorem enumI_get {α : Type} {xs : List α} {i : Nat} {x : Int × α} (h : (enumI xs)[i]? = some x) : i < xs.length ∧ x.1 = (i : Int) ∧ xs[i]? = some x.2 := by
  unfold enumI at h
  rw [List.getElem?_map, List.getElem?_zipIdx] at h
  cases e : xs[i]? with
  | none =>
    rw [e] at h
    cases h
  | some y =>
    rw [e] at h
    have ex : (((0 + i : Nat) : Int), y) = x := Option.some.inj h
    subst ex
    exact ⟨(List.getElem?_eq_some_iff.mp e).1, by rw [Nat.zero_add], rfl⟩
theorem enumI_length {α : Type} {xs : List α} : (enumI xs).length = xs.length := by
  unfold enumI
  rw [List.length_map, List.length_zipIdx]
theorem catO_ok {α : Type} {xs ys : List α} (h : xs.length + ys.length ≤ line) : catO xs ys = some (xs ++ ys) := if_pos h
theorem appO_ok {α : Type} {xs : List α} {x : α} (h : xs.length < line) : appO xs x = some (xs ++ [x]) := if_pos h
theorem rngO_ok0 {n : Nat} (h : n ≤ line) : rngO 0 (n : Int) = some ((List.range n).map fun (i : Nat) => (i : Int)) := by
  have e : (line : Int) = 16000000 := rfl
  unfold rngO
  rw [if_pos (by refine ⟨?_, ?_, ?_, ?_, ?_⟩ <;> omega)]
  unfold rng
  rw [Int.sub_zero, Int.toNat_natCast]
  congr 1
  apply List.map_congr_left
  intro i _
  omega

/-! ### what an entry sees; the times -/
def Sees (e : Nat → Int) (n j k : Nat) : Prop := k < n ∧ k ≠ j ∧ ∀ m, (j < m ∧ m ≤ k) ∨ (k ≤ m ∧ m < j) → e j < e m
def Eqn (e r : Nat → Int) (n j : Nat) : Prop := 1 ≤ r j ∧ (∀ k, Sees e n j k → r k < r j) ∧ (r j = 1 ∨ ∃ k, Sees e n j k ∧ r k + 1 = r j)
/-- ts are the times of row -/
def IsT (row ts : List Int) : Prop := ts.length = row.length ∧ ∀ j, j < row.length → Eqn (nth row) (nth ts) row.length j
theorem eqn_unique {e r r' : Nat → Int} {n : Nat} (h : ∀ j < n, Eqn e r n j) (h' : ∀ j < n, Eqn e r' n j) : ∀ j < n, r j = r' j := by
  suffices H : ∀ (m : Nat) (j : Nat), j < n → r j ≤ m → r j = r' j by
    intro j hj
    exact H (r j).toNat j hj (by omega)
  intro m
  induction m with
  | zero =>
    intro j hj hm
    have := (h j hj).1
    omega
  | succ m ih =>
    intro j hj hm
    obtain ⟨a1, a2, a3⟩ := h j hj
    obtain ⟨b1, b2, b3⟩ := h' j hj
    have up : r' j ≤ r j := by
      rcases b3 with b3 | ⟨k, hk, e1⟩
      · omega
      · have := a2 k hk
        have := ih k hk.1 (by omega)
        omega
    rcases a3 with a3 | ⟨k, hk, e1⟩
    · omega
    · have e2 := ih k hk.1 (by omega)
      have := b2 k hk
      omega
theorem IsT.unique {row ts ts' : List Int} (h : IsT row ts) (h' : IsT row ts') : ts = ts' :=
  ext_nth (h.1.trans h'.1.symm) fun i hi => eqn_unique h.2 h'.2 i (by rw [← h.1]; exact hi)
end PX

/-! PN: what a stack of waiting places keeps, while the times of a row are found. -/
namespace PX
open PySem L2

/-- kept out of omega's sight -/
structure Box (p : Prop) : Prop where
  out : p

def lo : List Nat → Nat
  | [] => 0
  | t :: _ => t + 1
def SK (e r : Nat → Int) : Nat → List Nat → Prop
  | _, [] => True
  | hi, w :: rest => w < hi ∧ lo rest ≤ w ∧ (∀ k, lo rest ≤ k → k < w → e w < e k) ∧ (∀ t, rest.head? = some t → e t ≤ e w) ∧ Eqn e r hi w ∧ SK e r w rest
def Closed (e r : Nat → Int) (N p : Nat) (ws : List Nat) : Prop := ∀ j, j < p → j ∉ ws → (∀ k, Sees e N j k → k < p ∧ k ∉ ws) ∧ Eqn e r N j
def Top (e : Nat → Int) (p : Nat) (g : Int) (r : Nat → Int) (ws : List Nat) : Prop :=
  0 ≤ g ∧ (∀ k, lo ws ≤ k → k < p → r k ≤ g ∧ e p < e k) ∧ (g = 0 ∨ ∃ k, lo ws ≤ k ∧ k < p ∧ r k = g) ∧ (∀ t, ws.head? = some t → ∀ k, t < k → k < p → e t ≤ e k)

theorem eqn_congr {e r r' : Nat → Int} {n j : Nat} (hj : r' j = r j) (h : ∀ k, Sees e n j k → r' k = r k) (q : Eqn e r n j) : Eqn e r' n j := by
  obtain ⟨a, b, c⟩ := q
  refine ⟨by omega, fun k hk => ?_, ?_⟩
  · have := h k hk
    have := b k hk
    omega
  · rcases c with c | ⟨k, hk, d⟩
    · exact Or.inl (by omega)
    · exact Or.inr ⟨k, hk, by have := h k hk; omega⟩
/-- the same things are seen -/
theorem eqn_sees {e r : Nat → Int} {n n' j : Nat} (h : ∀ k, Sees e n j k ↔ Sees e n' j k) (q : Eqn e r n j) : Eqn e r n' j := by
  obtain ⟨a, b, c⟩ := q
  refine ⟨a, fun k hk => b k ((h k).mpr hk), ?_⟩
  rcases c with c | ⟨k, hk, d⟩
  · exact Or.inl c
  · exact Or.inr ⟨k, (h k).mp hk, d⟩
theorem SK.congr {e r r' : Nat → Int} : ∀ {ws : List Nat} {hi : Nat}, (∀ k, k < hi → r' k = r k) → SK e r hi ws → SK e r' hi ws
  | [], _, _, _ => trivial
  | w :: rest, hi, h, ⟨a, b, c, d, q, s⟩ =>
    ⟨a, b, c, d, eqn_congr (h w a) (fun k hk => h k hk.1) q, SK.congr (fun k hk => h k (Nat.lt_trans hk a)) s⟩
theorem SK.mem {e r : Nat → Int} : ∀ {rest : List Nat} {w hi : Nat}, SK e r hi (w :: rest) → ∀ k, k ∈ rest → k < w ∧ e k ≤ e w
  | [], _, _, _, _, h => absurd h List.not_mem_nil
  | t :: rest, w, hi, ⟨a, b, c, d, q, s⟩, k, h => by
    have hb : t + 1 ≤ w := b
    have hd := d t rfl
    rcases List.mem_cons.mp h with rfl | h
    · exact ⟨by omega, hd⟩
    · have := SK.mem s k h
      exact ⟨by omega, by omega⟩
theorem SK.len {e r : Nat → Int} : ∀ {ws : List Nat} {hi : Nat}, SK e r hi ws → ws.length ≤ hi
  | [], _, _ => Nat.zero_le _
  | w :: rest, hi, ⟨a, b, c, d, q, s⟩ => by
    have := SK.len s
    rw [List.length_cons]
    omega

/-- what is closed by the place p -/
theorem sees_p {e : Nat → Int} {N p w k : Nat} (hw : w < p) (hp : p ≤ N) (h : p < N → e p ≤ e w) : Sees e N w k ↔ Sees e p w k := by
  constructor
  · rintro ⟨a, b, c⟩
    refine ⟨?_, b, c⟩
    by_cases hk : k < p
    · exact hk
    · have := c p (Or.inl ⟨hw, by omega⟩)
      have := h (by omega)
      omega
  · rintro ⟨a, b, c⟩
    exact ⟨by omega, b, c⟩

/-- the top ends at p -/
theorem pop_closed {e r : Nat → Int} {N p w : Nat} {rest : List Nat} (hp : p < N) (hs : SK e r p (w :: rest)) (hc : Closed e r N p (w :: rest)) (he : e p < e w) : Closed e r N p rest := by
  intro j hj hn
  by_cases c : j = w
  · subst c
    refine ⟨fun k hk => ?_, eqn_sees (fun k => (sees_p hj (by omega) fun _ => by omega).symm) hs.2.2.2.2.1⟩
    refine ⟨((sees_p hj (by omega) fun _ => by omega).mp hk).1, fun hm => ?_⟩
    have h1 := hs.mem k hm
    have h2 := hk.2.2 k (Or.inr ⟨Nat.le_refl _, h1.1⟩)
    omega
  · obtain ⟨a, b⟩ := hc j hj (fun h => (List.mem_cons.mp h).elim c hn)
    exact ⟨fun k hk => ⟨(a k hk).1, fun h => (a k hk).2 (List.mem_cons_of_mem _ h)⟩, b⟩
theorem pop_top {e r : Nat → Int} {p w : Nat} {g : Int} {rest : List Nat} (hs : SK e r p (w :: rest)) (ht : Top e p g r (w :: rest)) (he : e p < e w) : Top e p (max g (r w)) r rest := by
  obtain ⟨g0, g1, g2, g3⟩ := ht
  obtain ⟨a, b, c, d, q, s⟩ := hs
  have q1 := q.1
  have g3' := g3 w rfl
  have g1' : ∀ k, w + 1 ≤ k → k < p → r k ≤ g ∧ e p < e k := g1
  refine ⟨by omega, fun k h1 h2 => ?_, ?_, fun t h k h1 h2 => ?_⟩
  · rcases Nat.lt_trichotomy k w with h | h | h
    · have hv : Sees e p w k := ⟨h2, by omega, fun m hm => by
        rcases hm with hm | hm
        · omega
        · exact c m (by omega) hm.2⟩
      have := q.2.1 k hv
      have := c k h1 h
      exact ⟨by omega, by omega⟩
    · subst h
      exact ⟨by omega, he⟩
    · have := g1' k h h2
      exact ⟨by omega, this.2⟩
  · by_cases hm : g ≤ r w
    · exact Or.inr ⟨w, b, a, by omega⟩
    · rcases g2 with g2 | ⟨k, k1, k2, k3⟩
      · omega
      · have k1' : w + 1 ≤ k := k1
        exact Or.inr ⟨k, by omega, k2, by omega⟩
  · have hd := d t h
    have hlo : lo rest = t + 1 := by
      cases rest with
      | nil => cases h
      | cons x y =>
        have : x = t := Option.some.inj h
        subst this
        rfl
    rcases Nat.lt_trichotomy k w with h3 | h3 | h3
    · have := c k (by omega) h3
      omega
    · subst h3
      omega
    · have := g3' k h3 h2
      omega
/-- the next one waits on: it has not seen past the ended one -/
theorem pop_same {e r : Nat → Int} {p w t : Nat} {rest : List Nat} (hs : SK e r p (w :: t :: rest)) (hn : ¬ e t < e w) : SK e r p (t :: rest) := by
  obtain ⟨a, b, c, d, q, s⟩ := hs
  obtain ⟨a', b', c', d', q', s'⟩ := s
  refine ⟨by omega, b', c', d', eqn_sees (fun k => (sees_p a' (by omega) fun _ => by omega).symm) q', s'⟩
/-- the next one sees the ended one, and all behind it -/
theorem pop_more {e r r' : Nat → Int} {p w t : Nat} {g : Int} {rest : List Nat} (hs : SK e r p (w :: t :: rest)) (ht : Top e p g r (w :: t :: rest)) (he : e p < e w) (hn : e t < e w) (hr : ∀ k, k ≠ t → r' k = r k)
    (hu : r' t = max (r t) (max g (r w) + 1)) : SK e r' p (t :: rest) := by
  have hT := pop_top hs ht he
  obtain ⟨a, b, c, d, q, s⟩ := hs
  obtain ⟨a', b', c', d', q', s'⟩ := s
  have b2 : t + 1 ≤ w := b
  have c2 : ∀ k, t + 1 ≤ k → k < w → e w < e k := c
  have T1 : ∀ k, t + 1 ≤ k → k < p → r k ≤ max g (r w) ∧ e p < e k := hT.2.1
  have g3 := ht.2.2.2 w rfl
  have rw1 := q.1
  have rt1 := q'.1
  have hd := d t rfl
  have gt : ∀ k, t < k → k < p → e t < e k := by
    intro k h1 h2
    rcases Nat.lt_trichotomy k w with h | h | h
    · have := c2 k h1 h
      omega
    · subst h
      exact hn
    · have := g3 k h h2
      omega
  generalize hG : max g (r w) = G at *
  have hG1 : 1 ≤ G := by omega
  have T2 : Box _ := ⟨hT.2.2.1⟩
  have q2 := q'.2.1
  have q3 : Box _ := ⟨q'.2.2⟩
  clear hT q' q ht
  refine ⟨by omega, b', c', d', ⟨by omega, fun k hk => ?_, ?_⟩, s'.congr fun k hk => hr k (by omega)⟩
  · rw [hr k hk.2.1, hu]
    by_cases h : k < t
    · have := q2 k ⟨by omega, hk.2.1, hk.2.2⟩
      omega
    · have := (T1 k (by have := hk.2.1; omega) hk.1).1
      omega
  · by_cases hm : r t ≤ G
    · right
      rcases T2.out with T2 | ⟨k, k1, k2, k3⟩
      · omega
      · have k1' : t + 1 ≤ k := k1
        refine ⟨k, ⟨k2, by omega, fun m hm => ?_⟩, ?_⟩
        · rcases hm with hm | hm
          · exact gt m hm.1 (by omega)
          · omega
        · rw [hr k (by omega), hu]
          omega
    · rcases q3.out with q3 | ⟨k, hk, q3⟩
      · omega
      · right
        refine ⟨k, ⟨by have := hk.1; omega, hk.2.1, hk.2.2⟩, ?_⟩
        rw [hr k hk.2.1, hu]
        omega
/-- what is closed stays, if only a waiting place changes -/
theorem closed_congr {e r r' : Nat → Int} {N p : Nat} {ws : List Nat} (hc : Closed e r N p ws) (h : ∀ k, k < p → k ∉ ws → r' k = r k) : Closed e r' N p ws := by
  intro j hj hn
  obtain ⟨a, b⟩ := hc j hj hn
  exact ⟨a, eqn_congr (h j hj hn) (fun k hk => h k (a k hk).1 (a k hk).2) b⟩
theorem top_congr {e r r' : Nat → Int} {p : Nat} {g : Int} {ws : List Nat} (h : ∀ k, lo ws ≤ k → k < p → r' k = r k) (ht : Top e p g r ws) : Top e p g r' ws := by
  obtain ⟨a, b, c, d⟩ := ht
  refine ⟨a, fun k h1 h2 => by rw [h k h1 h2]; exact b k h1 h2, ?_, d⟩
  rcases c with c | ⟨k, k1, k2, k3⟩
  · exact Or.inl c
  · exact Or.inr ⟨k, k1, k2, by rw [h k k1 k2]; exact k3⟩
/-- p begins to wait -/
theorem push {e r r' : Nat → Int} {N p : Nat} {g : Int} {ws : List Nat} (hp : p < N) (hs : SK e r p ws) (hc : Closed e r N p ws) (ht : Top e p g r ws) (hx : ∀ t, ws.head? = some t → e t ≤ e p) (hr : ∀ k, k ≠ p → r' k = r k)
    (hu : r' p = g + 1) : SK e r' (p + 1) (p :: ws) ∧ Closed e r' N (p + 1) (p :: ws) := by
  have hlo : lo ws ≤ p := by
    cases ws with
    | nil => exact Nat.zero_le _
    | cons t _ => exact hs.1
  obtain ⟨T0, T1, T2, T3⟩ := ht
  have vis : ∀ k, Sees e (p + 1) p k → lo ws ≤ k ∧ k < p := by
    intro k hk
    refine ⟨?_, by have := hk.1; have := hk.2.1; omega⟩
    cases ws with
    | nil => exact Nat.zero_le _
    | cons t _ =>
      by_cases c : t + 1 ≤ k
      · exact c
      · have h1 := hx t rfl
        have h2 := hs.1
        have h3 := hk.2.2 t (Or.inr ⟨by omega, h2⟩)
        omega
  refine ⟨⟨Nat.lt_succ_self _, hlo, fun k h1 h2 => (T1 k h1 h2).2, hx, ⟨by omega, fun k hk => ?_, ?_⟩, hs.congr fun k hk => hr k (by omega)⟩, fun j hj hn => ?_⟩
  · have h := vis k hk
    rw [hr k (by omega), hu]
    have := (T1 k h.1 h.2).1
    omega
  · rcases T2 with T2 | ⟨k, k1, k2, k3⟩
    · exact Or.inl (by omega)
    · refine Or.inr ⟨k, ⟨by omega, by omega, fun m hm => ?_⟩, ?_⟩
      · rcases hm with hm | hm
        · omega
        · exact (T1 m (by omega) hm.2).2
      · rw [hr k (by omega), hu]
        omega
  · have hj' : j < p := by
      have : j ≠ p := fun h => hn (h ▸ List.mem_cons_self)
      omega
    obtain ⟨a, b⟩ := hc j hj' fun h => hn (List.mem_cons_of_mem _ h)
    refine ⟨fun k hk => ⟨by have := (a k hk).1; omega, fun h => ?_⟩, eqn_congr (hr j (by omega)) (fun k hk => hr k (by have := (a k hk).1; omega)) b⟩
    have := a k hk
    rcases List.mem_cons.mp h with rfl | h
    · omega
    · exact this.2 h
end PX

/-! PO: what a mirror comes to. -/
namespace PX
open PySem L2

def Ok {α : Type} (x : Option α) (P : α → Prop) : Prop := ∃ a, x = some a ∧ P a
theorem Ok.ret {α : Type} {a : α} {P : α → Prop} (h : P a) : Ok (some a) P := ⟨a, rfl, h⟩
theorem Ok.is {α : Type} {x : Option α} {a : α} {P : α → Prop} (h : x = some a) (p : P a) : Ok x P := ⟨a, h, p⟩
theorem Ok.bind {α β : Type} {x : Option α} {f : α → Option β} {P : α → Prop} {Q : β → Prop} (h : Ok x P) (k : ∀ a, P a → Ok (f a) Q) : Ok (Option.bind x f) Q := by
  obtain ⟨a, rfl, p⟩ := h
  exact k a p
theorem Ok.bis {α β : Type} {x : Option α} {f : α → Option β} {a : α} {Q : β → Prop} (h : x = some a) (k : Ok (f a) Q) : Ok (Option.bind x f) Q := by
  subst h
  exact k
theorem Ok.mono {α : Type} {x : Option α} {P Q : α → Prop} (h : Ok x P) (k : ∀ a, P a → Q a) : Ok x Q := ⟨h.choose, h.choose_spec.1, k _ h.choose_spec.2⟩
theorem Ok.cond {α : Type} {b : Bool} {x y : Option α} {Q : α → Prop} (h : b = true → Ok x Q) (k : b = false → Ok y Q) : Ok (cond b x y) Q := by
  cases b with
  | true => exact h rfl
  | false => exact k rfl
theorem Ok.tt {α : Type} {b : Bool} {x y : Option α} {Q : α → Prop} (e : b = true) (h : Ok x Q) : Ok (_root_.cond b x y) Q := by
  subst e
  exact h
theorem Ok.ff {α : Type} {b : Bool} {x y : Option α} {Q : α → Prop} (e : b = false) (h : Ok y Q) : Ok (_root_.cond b x y) Q := by
  subst e
  exact h
theorem Ok.eq {α : Type} {x : Option α} {a : α} (h : Ok x (· = a)) : x = some a := by
  obtain ⟨_, e, rfl⟩ := h
  exact e
theorem forL_ok {ι ρ S : Type} {body : ι → S → Option (Ctl ρ S)} {items : List ι} {s0 : S} (I : Nat → S → Prop) (h0 : I 0 s0)
    (step : ∀ i x s, items[i]? = some x → I i s → Ok (body x s) fun c => ∃ s', c = .nx s' ∧ I (i + 1) s') : Ok (forL body items s0) fun c => ∃ s, c = .nx s ∧ I items.length s := by
  obtain ⟨s, h1, h2⟩ := forL_inv I h0 fun i x s hx hI => by
    obtain ⟨_, e, s', rfl, h⟩ := step i x s hx hI
    exact ⟨s', e, h⟩
  exact ⟨_, h1, s, rfl, h2⟩
theorem whl_ok {ρ S : Type} {test : S → Option Bool} {body : S → Option (Ctl ρ S)} (I Q : S → Prop) (μ : S → Nat)
    (step : ∀ s, I s → Ok (test s) fun b => (b = true → Ok (body s) fun c => ∃ s', c = .nx s' ∧ I s' ∧ μ s' < μ s) ∧ (b = false → Q s)) {n : Nat} {s0 : S} (h0 : I s0) (hn : μ s0 < n) : Ok (whl test body n s0) fun c => ∃ s, c = .nx s ∧ I s ∧ Q s := by
  obtain ⟨s, h1, h2⟩ := whl_inv (test := test) (body := body) I Q μ (fun s hs => by
    obtain ⟨b, e, h1, h2⟩ := step s hs
    refine ⟨b, e, fun hb => ?_, h2⟩
    obtain ⟨_, e, s', rfl, h⟩ := h1 hb
    exact ⟨s', e, h⟩) n s0 h0 hn
  exact ⟨_, h1, s, rfl, h2⟩
theorem Ok.aft {ρ S T : Type} {x : Option (Ctl ρ S)} {k : S → Option T} {r : ρ → Option T} {P : S → Prop} {Q : T → Prop} (h : Ok x fun c => ∃ s, c = .nx s ∧ P s) (hk : ∀ s, P s → Ok (k s) Q) : Ok (Option.bind x fun c => aft c k r) Q := by
  obtain ⟨_, rfl, s, rfl, p⟩ := h
  exact hk s p

/-! ### cuts -/
theorem sIx_nn (n d : Nat) {v : Int} (h : 0 ≤ v) : HT.sIx n d (some v) = min v.toNat n := by
  have e : v = ((v.toNat : Nat) : Int) := by omega
  rw [e, HT.sIx_nat, Int.toNat_natCast]
theorem cut_head {α : Type} (xs : List α) {v : Int} (h : 0 ≤ v) : cut xs none (some v) = xs.take v.toNat := by
  unfold cut
  rw [sIx_nn _ _ h, HT.sIx_none, List.drop_zero, Nat.sub_zero]
  by_cases c : v.toNat ≤ xs.length
  · rw [Nat.min_eq_left c]
  · rw [Nat.min_eq_right (by omega), List.take_of_length_le (Nat.le_refl _), List.take_of_length_le (by omega)]
theorem cut_tail {α : Type} (xs : List α) {v : Int} (h : 0 ≤ v) : cut xs (some v) none = xs.drop v.toNat := by
  unfold cut
  rw [sIx_nn _ _ h, HT.sIx_none]
  by_cases c : v.toNat ≤ xs.length
  · rw [Nat.min_eq_left c, List.take_of_length_le (by rw [List.length_drop]; exact Nat.le_refl _)]
  · rw [Nat.min_eq_right (by omega), Nat.sub_self, List.take_zero, List.drop_of_length_le (by omega)]
theorem cut_mid {α : Type} (xs : List α) {v w : Int} (h : 0 ≤ v) (h2 : v ≤ w) : cut xs (some v) (some w) = (xs.drop v.toNat).take (w - v).toNat := by
  unfold cut
  rw [sIx_nn _ _ h, sIx_nn _ _ (by omega)]
  have e : (w - v).toNat = w.toNat - v.toNat := by omega
  rw [e]
  by_cases c : v.toNat ≤ xs.length
  · rw [Nat.min_eq_left c]
    by_cases c2 : w.toNat ≤ xs.length
    · rw [Nat.min_eq_left c2]
    · rw [Nat.min_eq_right (by omega), List.take_of_length_le (by rw [List.length_drop]; exact Nat.le_refl _), List.take_of_length_le (by rw [List.length_drop]; omega)]
  · have e1 : min v.toNat xs.length = xs.length := by omega
    have e2 : xs.drop v.toNat = [] := List.drop_of_length_le (by omega)
    rw [e1, List.drop_length, e2, List.take_nil, List.take_nil]
theorem cut_last {α : Type} (xs : List α) : cut xs none (some (-1)) = xs.dropLast := by
  unfold cut
  have e : HT.sIx xs.length xs.length (some (-1)) = xs.length - 1 := by
    unfold HT.sIx
    simp only
    rw [if_pos (by decide)]
    omega
  rw [e, HT.sIx_none, List.drop_zero, Nat.sub_zero, List.dropLast_eq_take]
theorem nth_take {xs : List Int} {a i : Nat} (h : i < a) : nth (xs.take a) i = nth xs i := by
  unfold nth
  rw [List.getElem?_take, if_pos h]
theorem nth_drop {xs : List Int} {a i : Nat} : nth (xs.drop a) i = nth xs (a + i) := by
  unfold nth
  rw [List.getElem?_drop]
theorem nth_map {xs : List Int} {f : Int → Int} {i : Nat} (h : i < xs.length) : nth (xs.map f) i = f (nth xs i) := by
  unfold nth
  rw [List.getElem?_map, List.getElem?_eq_getElem h]
  rfl
theorem nth_mem {xs : List Int} {i : Nat} (h : i < xs.length) : nth xs i ∈ xs := List.mem_of_getElem? (nth_some h)
theorem mem_nth {xs : List Int} {x : Int} (h : x ∈ xs) : ∃ i, i < xs.length ∧ nth xs i = x := by
  obtain ⟨i, hi, e⟩ := List.getElem_of_mem h
  refine ⟨i, hi, ?_⟩
  unfold nth
  rw [List.getElem?_eq_getElem hi, e]
  rfl
theorem minD_le {d : Int} {xs : List Int} {y : Int} (h : y ∈ xs) : minD d xs ≤ y := by
  cases xs with
  | nil => cases h
  | cons x r => exact foldl_min_le r x y (List.mem_cons.mp h)
theorem maxD_ge {d : Int} {xs : List Int} {y : Int} (h : y ∈ xs) : y ≤ maxD d xs := by
  cases xs with
  | nil => cases h
  | cons x r => exact le_foldl_max r x y (List.mem_cons.mp h)
theorem foldl_max_mem : ∀ (r : List Int) (x : Int), r.foldl max x = x ∨ r.foldl max x ∈ r
  | [], x => Or.inl rfl
  | y :: r, x => by
    show r.foldl max (max x y) = x ∨ r.foldl max (max x y) ∈ y :: r
    rcases foldl_max_mem r (max x y) with h | h
    · rw [h]
      by_cases c : x ≤ y
      · rw [Int.max_eq_right c]
        exact Or.inr List.mem_cons_self
      · rw [Int.max_eq_left (by omega)]
        exact Or.inl rfl
    · exact Or.inr (List.mem_cons_of_mem _ h)
theorem maxD_mem {d : Int} {xs : List Int} (h : xs ≠ []) : maxD d xs ∈ xs := by
  cases xs with
  | nil => exact absurd rfl h
  | cons x r =>
    rcases foldl_max_mem r x with e | e
    · show r.foldl max x ∈ x :: r
      rw [e]
      exact List.mem_cons_self
    · exact List.mem_cons_of_mem _ e
theorem maxD_eq {d m : Int} {xs : List Int} (h : ∀ y ∈ xs, y ≤ m) (k : m ∈ xs ∨ (xs = [] ∧ d = m)) : maxD d xs = m := by
  rcases k with k | ⟨rfl, rfl⟩
  · have h1 := maxD_ge (d := d) k
    have h2 := h _ (maxD_mem (d := d) (List.ne_nil_of_mem k))
    omega
  · rfl
theorem rep0 : ∀ (n : Nat), (List.replicate n [(0 : Int)]).flatten = List.replicate n 0
  | 0 => rfl
  | n + 1 => by
    rw [List.replicate_succ, List.flatten_cons, rep0 n]
    rfl
theorem repO_0 {n : Nat} (h : n ≤ line) : repO [(0 : Int)] (n : Int) = some (List.replicate n 0) := by
  have e : line = 16000000 := rfl
  unfold repO
  rw [if_pos (by refine ⟨?_, ?_, ?_⟩ <;> simp <;> omega), Int.toNat_natCast, rep0]
end PX

/-! PQ: parts of rows, rows with given times, loops that hand back, and pots that are drawn from. -/
namespace PX
open PySem L2

theorem forL_ret {ι ρ S : Type} {body : ι → S → Option (Ctl ρ S)} {items : List ι} {s0 : S} (I : Nat → S → Prop) (R : ρ → Prop) (h0 : I 0 s0)
    (step : ∀ i x s, items[i]? = some x → I i s → Ok (body x s) fun c => (∃ s', c = .nx s' ∧ I (i + 1) s') ∨ ∃ y, c = .rt y ∧ R y) :
    Ok (forL body items s0) fun c => (∃ s, c = .nx s ∧ I items.length s) ∨ ∃ y, c = .rt y ∧ R y := by
  suffices H : ∀ (l : List ι) (i : Nat) (s : S), items.drop i = l → I i s → Ok (forL body l s) fun c => (∃ s', c = .nx s' ∧ I (i + l.length) s') ∨ ∃ y, c = .rt y ∧ R y by
    have := H items 0 s0 (List.drop_zero ..) h0
    rw [Nat.zero_add] at this
    exact this
  intro l
  induction l with
  | nil =>
    intro i s hd hI
    exact Ok.ret (Or.inl ⟨s, rfl, hI⟩)
  | cons x r ih =>
    intro i s hd hI
    have hx : items[i]? = some x := by
      have := congrArg (fun z => z[0]?) hd
      simpa using this
    have hd' : items.drop (i + 1) = r := by
      have := congrArg (fun z => z.drop 1) hd
      simpa [List.drop_drop, Nat.add_comm] using this
    refine Ok.bind (step i x s hx hI) ?_
    rintro _ (⟨s', rfl, h⟩ | ⟨y, rfl, h⟩)
    · refine (ih (i + 1) s' hd' h).mono ?_
      have e : i + (x :: r).length = i + 1 + r.length := by rw [List.length_cons]; omega
      rw [e]
      exact fun _ z => z
    · exact Ok.ret (Or.inr ⟨y, rfl, h⟩)
theorem Ok.aft2 {ρ S T : Type} {x : Option (Ctl ρ S)} {k : S → Option T} {r : ρ → Option T} {P : S → Prop} {R : ρ → Prop} {Q : T → Prop} (h : Ok x fun c => (∃ s, c = .nx s ∧ P s) ∨ ∃ y, c = .rt y ∧ R y) (hk : ∀ s, P s → Ok (k s) Q)
    (hr : ∀ y, R y → Ok (r y) Q) : Ok (Option.bind x fun c => PX.aft c k r) Q := by
  obtain ⟨_, rfl, ⟨s, rfl, p⟩ | ⟨s, rfl, p⟩⟩ := h
  · exact hk s p
  · exact hr s p
theorem lcM_ok {ι β S : Type} {f : ι → S → Option (β × S)} (I : Nat → S → Prop) (Q : β → Prop) : ∀ (l : List ι) (i0 : Nat) (s : S), I i0 s →
    (∀ i x s, x ∈ l → i < i0 + l.length → I i s → Ok (f x s) fun r => Q r.1 ∧ I (i + 1) r.2) → Ok (lcM f l s) fun r => r.1.length = l.length ∧ (∀ y ∈ r.1, Q y) ∧ I (i0 + l.length) r.2
  | [], i, s, h, _ => Ok.ret ⟨rfl, fun _ z => (nomatch z), h⟩
  | x :: l, i, s, h, k => by
    have e : i + (x :: l).length = i + 1 + l.length := by rw [List.length_cons]; omega
    refine Ok.bind (k i x s List.mem_cons_self (by rw [e]; omega) h) ?_
    rintro ⟨y, s1⟩ ⟨h1, h2⟩
    refine Ok.bind (lcM_ok I Q l (i + 1) s1 h2 fun i x s m q => k i x s (List.mem_cons_of_mem _ m) (by rw [e]; exact q)) ?_
    rintro ⟨ys, s2⟩ ⟨h3, h4, h5⟩
    refine Ok.ret ⟨congrArg (· + 1) h3, fun z hz => ?_, ?_⟩
    · rcases List.mem_cons.mp hz with rfl | hz
      · exact h1
      · exact h4 z hz
    · rw [e]
      exact h5
theorem lcO_none {ι β : Type} {c : ι → Option Bool} {f : ι → Option β} (l : List ι) (h : ∀ x ∈ l, c x = some false) : lcO c f l = some [] := by
  induction l with
  | nil => rfl
  | cons x r ih =>
    show Option.bind (c x) _ = _
    rw [h x List.mem_cons_self]
    exact ih fun y hy => h y (List.mem_cons_of_mem _ hy)
theorem lcO_ok {ι β : Type} {c : ι → Option Bool} {f : ι → Option β} (Q : β → Prop) : ∀ (l : List ι), (∀ x ∈ l, Ok (c x) fun b => b = true → Ok (f x) Q) → Ok (lcO c f l) fun r => ∀ y ∈ r, Q y
  | [], _ => Ok.ret fun _ z => nomatch z
  | x :: r, h => by
    have ih := lcO_ok Q r fun y hy => h y (List.mem_cons_of_mem _ hy)
    refine Ok.bind (h x List.mem_cons_self) ?_
    rintro (_ | _) hb
    · exact ih
    · refine Ok.bind (hb rfl) fun y hy => Ok.bind ih fun ys hys => Ok.ret fun z hz => ?_
      rcases List.mem_cons.mp hz with rfl | hz
      · exact hy
      · exact hys z hz
theorem rng_ok {z : Int} (h0 : 0 ≤ z) (h : z ≤ line) : rngO 0 z = some ((List.range z.toNat).map fun (i : Nat) => (i : Int)) := by
  have e : z = ((z.toNat : Nat) : Int) := by omega
  rw [e, rngO_ok0 (by omega), Int.toNat_natCast]
theorem rng_mem {n : Nat} {x : Int} (h : x ∈ (List.range n).map fun (i : Nat) => (i : Int)) : 0 ≤ x ∧ x < n := by
  obtain ⟨i, hi, rfl⟩ := List.mem_map.mp h
  have := List.mem_range.mp hi
  omega
theorem rng_get {n i : Nat} {x : Int} (h : ((List.range n).map fun (i : Nat) => (i : Int))[i]? = some x) : i < n ∧ x = i := by
  rw [List.getElem?_map] at h
  cases e : (List.range n)[i]? with
  | none =>
    rw [e] at h
    cases h
  | some y =>
    rw [e] at h
    have h1 := List.getElem?_eq_some_iff.mp e
    obtain ⟨h2, h3⟩ := h1
    rw [List.getElem_range] at h3
    rw [List.length_range] at h2
    subst h3
    exact ⟨h2, (Option.some.inj h).symm⟩
theorem enumI_mem {α : Type} {xs : List α} {x : Int × α} (h : x ∈ enumI xs) : ∃ i, i < xs.length ∧ x.1 = (i : Int) ∧ xs[i]? = some x.2 := by
  obtain ⟨i, hi⟩ := List.getElem?_of_mem h
  obtain ⟨a, b, c⟩ := enumI_get hi
  exact ⟨i, a, b, c⟩

/-! ### parts of rows -/
/-- the part from a to b -/
def part (xs : List Int) (a b : Nat) : List Int := (xs.drop a).take (b - a)
theorem part_len {xs : List Int} {a b : Nat} (h : b ≤ xs.length) : (part xs a b).length = b - a := by
  unfold part
  rw [List.length_take, List.length_drop]
  omega
theorem nth_part {xs : List Int} {a b i : Nat} (h : i < b - a) : nth (part xs a b) i = nth xs (a + i) := by
  unfold part
  rw [nth_take h, nth_drop]
theorem IsT.sub {row ts : List Int} {a b : Nat} (h : IsT row ts) (hb : b ≤ row.length) (h1 : a = 0 ∨ ∀ j, a ≤ j → j < b → nth row (a - 1) ≤ nth row j) (h2 : b = row.length ∨ ∀ j, a ≤ j → j < b → nth row b ≤ nth row j) : IsT (part row a b) (part ts a b) := by
  have hl := h.1
  refine ⟨by rw [part_len hb, part_len (by omega)], fun j hj => ?_⟩
  rw [part_len hb] at hj ⊢
  have hs : ∀ k, Sees (nth (part row a b)) (b - a) j k ↔ (a ≤ a + k ∧ Sees (nth row) row.length (a + j) (a + k)) := by
    intro k
    constructor
    · rintro ⟨p, q, r⟩
      refine ⟨by omega, by omega, by omega, fun m hm => ?_⟩
      have := r (m - a) (by omega)
      rw [nth_part hj, nth_part (by omega)] at this
      have e : a + (m - a) = m := by omega
      rw [e] at this
      exact this
    · rintro ⟨_, p, q, r⟩
      have hk : k < b - a := by
        by_cases hk : k < b - a
        · exact hk
        · rcases h2 with h2 | h2
          · omega
          · have h3 := r b (Or.inl ⟨by omega, by omega⟩)
            have h4 := h2 (a + j) (by omega) (by omega)
            omega
      refine ⟨hk, by omega, fun m hm => ?_⟩
      rw [nth_part hj, nth_part (by omega)]
      exact r (a + m) (by omega)
  have hs2 : ∀ k, Sees (nth row) row.length (a + j) k → a ≤ k := by
    rintro k ⟨p, q, r⟩
    by_cases hk : a ≤ k
    · exact hk
    · rcases h1 with h1 | h1
      · omega
      · have h3 := r (a - 1) (Or.inr ⟨by omega, by omega⟩)
        have h4 := h1 (a + j) (by omega) (by omega)
        omega
  obtain ⟨p, q, r⟩ := h.2 (a + j) (by omega)
  refine ⟨by rw [nth_part hj]; exact p, fun k hk => ?_, ?_⟩
  · rw [nth_part hj, nth_part hk.1]
    exact q (a + k) ((hs k).mp hk).2
  · rw [nth_part hj]
    rcases r with r | ⟨k, hk, r⟩
    · exact Or.inl r
    · have ha := hs2 k hk
      have e : a + (k - a) = k := by omega
      have hk' := (hs (k - a)).mpr ⟨by omega, by rw [e]; exact hk⟩
      refine Or.inr ⟨k - a, hk', ?_⟩
      rw [nth_part hk'.1, e]
      exact r
theorem IsT.head {row ts : List Int} {b : Nat} (h : IsT row ts) (hb : b < row.length) (h2 : ∀ j, j < b → nth row b ≤ nth row j) : IsT (row.take b) (ts.take b) := by
  have := h.sub (a := 0) (b := b) (by omega) (Or.inl rfl) (Or.inr fun j _ hj => h2 j hj)
  unfold part at this
  rw [List.drop_zero, List.drop_zero, Nat.sub_zero] at this
  exact this
theorem part_tail {xs : List Int} {a : Nat} : part xs a xs.length = xs.drop a := by
  unfold part
  rw [List.take_of_length_le (by rw [List.length_drop]; exact Nat.le_refl _)]
theorem IsT.tail {row ts : List Int} {a : Nat} (h : IsT row ts) (hb : a < row.length) (h2 : ∀ j, a < j → j < row.length → nth row a ≤ nth row j) : IsT (row.drop (a + 1)) (ts.drop (a + 1)) := by
  have := h.sub (a := a + 1) (b := row.length) (Nat.le_refl _) (Or.inr fun j h3 h4 => h2 j h3 h4) (Or.inl rfl)
  rw [part_tail] at this
  rw [← h.1, part_tail] at this
  exact this
/-- a row with these times: the greater the time, the lesser the entry -/
theorem IsT.anti {row ts : List Int} {f : Int → Int} (h : IsT row ts) (hf : ∀ x y, f x < f y ↔ y < x) : IsT (ts.map f) ts := by
  have hl := h.1
  refine ⟨(List.length_map ..).symm, fun j hj => ?_⟩
  rw [List.length_map] at hj ⊢
  obtain ⟨p, q, r⟩ := h.2 j (by omega)
  refine ⟨p, fun k hk => ?_, ?_⟩
  · have := hk.2.2 k (by have := hk.2.1; omega)
    rw [nth_map hj, nth_map hk.1, hf] at this
    exact this
  · rcases r with r | ⟨k, hk, r⟩
    · exact Or.inl r
    · refine Or.inr ⟨k, ⟨by have := hk.1; omega, hk.2.1, fun m hm => ?_⟩, r⟩
      have hk1 := hk.1
      have hm2 := q m ⟨by omega, by omega, fun m2 hm2 => hk.2.2 m2 (by omega)⟩
      rw [nth_map hj, nth_map (by omega), hf]
      exact hm2
theorem IsT.pos {row ts : List Int} (h : IsT row ts) : ∀ y ∈ ts, 1 ≤ y := by
  intro y hy
  obtain ⟨i, hi, rfl⟩ := mem_nth hy
  exact (h.2 i (by have := h.1; omega)).1
theorem maxD0_pos {row ts : List Int} (h : IsT row ts) : maxO (ts ++ [0]) = some (maxD 0 ts) := by
  cases ts with
  | nil => rfl
  | cons x r =>
    show some ((r ++ [0]).foldl max x) = some (r.foldl max x)
    rw [List.foldl_append]
    congr 1
    show max (r.foldl max x) 0 = _
    have := h.pos x List.mem_cons_self
    have := le_foldl_max r x x (Or.inl rfl)
    omega
/-- the time of an entry by its blocks -/
theorem IsT.blocks {row ts : List Int} {j a b : Nat} (h : IsT row ts) (hj : j < row.length) (ha : a ≤ j) (hb : j < b) (hn : b ≤ row.length) (h1 : ∀ k, a ≤ k → k < j → nth row j < nth row k) (h2 : ∀ k, j < k → k < b → nth row j < nth row k)
    (h3 : a = 0 ∨ nth row (a - 1) ≤ nth row j) (h4 : b = row.length ∨ nth row b ≤ nth row j) : IsT (part row a j) (part ts a j) ∧ IsT (part row (j + 1) b) (part ts (j + 1) b) ∧ nth ts j = 1 + max (maxD 0 (part ts a j)) (maxD 0 (part ts (j + 1) b)) := by
  have hl := h.1
  refine ⟨h.sub (by omega) (h3.imp id fun h3 k p q => by have := h1 k p q; omega) (Or.inr fun k p q => by have := h1 k p q; omega), h.sub hn (Or.inr fun k p q => by have := h2 k (by omega) q; show nth row j ≤ _; omega) (h4.imp id fun h4 k p q => by have := h2 k (by omega) q; omega), ?_⟩
  obtain ⟨p, q, r⟩ := h.2 j hj
  have hs : ∀ k, Sees (nth row) row.length j k ↔ ((a ≤ k ∧ k < j) ∨ (j < k ∧ k < b)) := by
    intro k
    constructor
    · rintro ⟨x, y, z⟩
      have u1 : a ≤ k := by
        by_cases hk : a ≤ k
        · exact hk
        · rcases h3 with h3 | h3
          · omega
          · have := z (a - 1) (Or.inr ⟨by omega, by omega⟩)
            omega
      have u2 : k < b := by
        by_cases hk : k < b
        · exact hk
        · rcases h4 with h4 | h4
          · omega
          · have := z b (Or.inl ⟨by omega, by omega⟩)
            omega
      omega
    · intro hk
      refine ⟨by omega, by omega, fun m hm => ?_⟩
      rcases hm with hm | hm
      · exact h2 m hm.1 (by omega)
      · exact h1 m (by omega) hm.2
  have m1 : ∀ y ∈ part ts a j, y ≤ nth ts j - 1 := by
    intro y hy
    obtain ⟨i, hi, rfl⟩ := mem_nth hy
    rw [part_len (by omega)] at hi
    rw [nth_part hi]
    have := q (a + i) ((hs _).mpr (by omega))
    omega
  have m2 : ∀ y ∈ part ts (j + 1) b, y ≤ nth ts j - 1 := by
    intro y hy
    obtain ⟨i, hi, rfl⟩ := mem_nth hy
    rw [part_len (by omega)] at hi
    rw [nth_part hi]
    have := q (j + 1 + i) ((hs _).mpr (by omega))
    omega
  have bound : ∀ xs : List Int, (∀ y ∈ xs, y ≤ nth ts j - 1) → maxD 0 xs ≤ nth ts j - 1 := by
    intro xs hx
    by_cases c : xs = []
    · subst c
      show (0 : Int) ≤ _
      omega
    · exact hx _ (maxD_mem c)
  have n0 : ∀ a' b', b' ≤ row.length → 0 ≤ maxD 0 (part ts a' b') := by
    intro a' b' _
    by_cases c : part ts a' b' = []
    · rw [c]
      exact Int.le_refl _
    · have := maxD_mem (d := 0) c
      have := h.pos _ (List.mem_of_mem_drop (List.mem_of_mem_take this))
      omega
  have b1 := bound _ m1
  have b2 := bound _ m2
  have c1 := n0 a j (by omega)
  have c2 := n0 (j + 1) b hn
  generalize hA : maxD 0 (part ts a j) = A at *
  generalize hB : maxD 0 (part ts (j + 1) b) = B at *
  rcases r with r | ⟨k, hk, r⟩
  · omega
  · rcases (hs k).mp hk with hk | hk
    · have e : nth (part ts a j) (k - a) = nth ts k := by rw [nth_part (by omega)]; congr 1; omega
      have := maxD_ge (d := 0) (nth_mem (xs := part ts a j) (i := k - a) (by rw [part_len (by omega)]; omega))
      rw [e, hA] at this
      omega
    · have e : nth (part ts (j + 1) b) (k - (j + 1)) = nth ts k := by rw [nth_part (by omega)]; congr 1; omega
      have := maxD_ge (d := 0) (nth_mem (xs := part ts (j + 1) b) (i := k - (j + 1)) (by rw [part_len (by omega)]; omega))
      rw [e, hB] at this
      omega
end PX

/-! PS: what times tell about two entries. -/
namespace PX
open PySem L2
theorem last_of (P : Nat → Prop) [DecidablePred P] (q : Nat) : ∀ p, q < p → P q → ∃ m, q ≤ m ∧ m < p ∧ P m ∧ ∀ k, m < k → k < p → ¬ P k := by
  intro p
  induction p with
  | zero => intro h; omega
  | succ p ih =>
    intro h hq
    by_cases c : P p
    · exact ⟨p, by omega, by omega, c, fun k h1 h2 => by omega⟩
    · have : q ≠ p := fun e => c (e ▸ hq)
      obtain ⟨m, h1, h2, h3, h4⟩ := ih (by omega) hq
      refine ⟨m, h1, by omega, h3, fun k k1 k2 => ?_⟩
      by_cases e : k = p
      · exact e ▸ c
      · exact h4 k k1 (by omega)
theorem first_of (P : Nat → Prop) [DecidablePred P] (p : Nat) : ∀ d q, q = p + d + 1 → P q → ∃ m, p < m ∧ m ≤ q ∧ P m ∧ ∀ k, p < k → k < m → ¬ P k := by
  intro d
  induction d generalizing p with
  | zero =>
    intro q h hq
    exact ⟨q, by omega, by omega, hq, fun k h1 h2 => by omega⟩
  | succ d ih =>
    intro q h hq
    by_cases c : P (p + 1)
    · exact ⟨p + 1, by omega, by omega, c, fun k h1 h2 => by omega⟩
    · obtain ⟨m, h1, h2, h3, h4⟩ := ih (p + 1) q (by omega) hq
      refine ⟨m, by omega, h2, h3, fun k k1 k2 => ?_⟩
      by_cases e : k = p + 1
      · exact e ▸ c
      · exact h4 k (by omega) k2
/-- the nearest to p of those from p (without it) to q, that have P -/
theorem near_of (P : Nat → Prop) [DecidablePred P] {p q : Nat} (h : q ≠ p) (hq : P q) : ∃ m, m ≠ p ∧ ((p < m ∧ m ≤ q) ∨ (q ≤ m ∧ m < p)) ∧ P m ∧ ∀ k, (p < k ∧ k < m) ∨ (m < k ∧ k < p) → ¬ P k := by
  by_cases c : q < p
  · obtain ⟨m, h1, h2, h3, h4⟩ := last_of P q p c hq
    exact ⟨m, by omega, Or.inr ⟨h1, h2⟩, h3, fun k hk => h4 k (by omega) (by omega)⟩
  · obtain ⟨m, h1, h2, h3, h4⟩ := first_of P p (q - p - 1) q (by omega) hq
    exact ⟨m, by omega, Or.inl ⟨h1, h2⟩, h3, fun k hk => h4 k (by omega) (by omega)⟩
def StandU (e t : Nat → Int) (n : Nat) : Prop := ∀ p q, p < n → q < n → p ≠ q → (∀ m, (p < m ∧ m < q) ∨ (q < m ∧ m < p) → t m ≤ t p) → t q ≤ t p → e p ≤ e q
def Les (t : Nat → Int) (n j k : Nat) : Prop := k < n ∧ k ≠ j ∧ ∀ m, (j < m ∧ m ≤ k) ∨ (k ≤ m ∧ m < j) → t m < t j
def StepsU (e t : Nat → Int) (n : Nat) : Prop := ∀ j, j < n → 1 < t j → ∃ k, Les t n j k ∧ t k = t j - 1 ∧ e j < e k
theorem eqn_stand {e t : Nat → Int} {n : Nat} (h : ∀ j, j < n → Eqn e t n j) : StandU e t n := by
  intro p q hp hq hne hb hle
  by_cases c : e p ≤ e q
  · exact c
  · obtain ⟨m, m1, m2, m3, m4⟩ := near_of (fun k => e k ≤ e q) (p := p) (q := q) (fun h => hne h.symm) (Int.le_refl _)
    have hv : Sees e n m p := ⟨hp, fun h => m1 h.symm, fun k hk => by
      by_cases ck : k = p
      · rw [ck]
        omega
      · have := m4 k (by omega)
        omega⟩
    have h1 := (h m (by omega)).2.1 p hv
    by_cases cq : m = q
    · rw [cq] at h1
      omega
    · have := hb m (by omega)
      omega
theorem eqn_steps {e t : Nat → Int} {n : Nat} (h : ∀ j, j < n → Eqn e t n j) : StepsU e t n := by
  intro j hj h1
  obtain ⟨a, b, c⟩ := h j hj
  rcases c with c | ⟨k, hk, c⟩
  · omega
  · refine ⟨k, ⟨hk.1, hk.2.1, fun m hm => b m ⟨by have := hk.1; omega, by omega, fun x hx => hk.2.2 x (by omega)⟩⟩, by omega, hk.2.2 k (by have := hk.2.1; omega)⟩
theorem eqn_of {e t : Nat → Int} {n : Nat} (h1 : ∀ j, j < n → 1 ≤ t j) (h2 : StandU e t n) (h3 : StepsU e t n) : ∀ j, j < n → Eqn e t n j := by
  intro j hj
  refine ⟨h1 j hj, fun k hk => ?_, ?_⟩
  · by_cases c : t k < t j
    · exact c
    · obtain ⟨m, m1, m2, m3, m4⟩ := near_of (fun x => t j ≤ t x) (p := j) (q := k) hk.2.1 (by omega)
      have hm := h2 m j (by have := hk.1; omega) hj m1 (fun x hx => by have := m4 x (by omega); omega) m3
      have := hk.2.2 m m2
      omega
  · by_cases c : t j = 1
    · exact Or.inl c
    · have := h1 j hj
      obtain ⟨k, hk, k1, k2⟩ := h3 j hj (by omega)
      refine Or.inr ⟨k, ⟨hk.1, hk.2.1, fun m hm => ?_⟩, by omega⟩
      by_cases ck : m = k
      · rw [ck]
        exact k2
      · have hm' := hk.2.2 m hm
        have := h2 k m hk.1 (by have := hk.1; omega) (fun h => ck h.symm) (fun x hx => by have := hk.2.2 x (by omega); omega) (by omega)
        omega
/-- a list stands to the times of another one as their words tell, and has the steps: then it has these times; and the other way around -/
theorem times_iff {row one ts : List Int} (h : IsT row ts) (hl : one.length = row.length) : IsT one ts ↔ StandU (nth one) (nth ts) row.length ∧ StepsU (nth one) (nth ts) row.length := by
  constructor
  · rintro ⟨_, k⟩
    rw [hl] at k
    exact ⟨eqn_stand k, eqn_steps k⟩
  · rintro ⟨a, b⟩
    refine ⟨by rw [h.1, hl], ?_⟩
    rw [hl]
    exact eqn_of (fun j hj => (h.2 j hj).1) a b
/-- the word for two places -/
def covO (ts : List Int) (p q : Nat) : Int := maxD 0 (cut ts (some ((min p q : Nat) + (1 : Int))) (some ((max p q : Nat) : Int)))
theorem cov_le {ts : List Int} {p q : Nat} {x : Int} (hx : 0 ≤ x) (hp : p < ts.length) (hq : q < ts.length) (hne : p ≠ q) : covO ts p q ≤ x ↔ ∀ m, (p < m ∧ m < q) ∨ (q < m ∧ m < p) → nth ts m ≤ x := by
  have e : cut ts (some ((min p q : Nat) + (1 : Int))) (some ((max p q : Nat) : Int)) = part ts (min p q + 1) (max p q) := by
    rw [cut_mid _ (by omega) (by omega)]
    unfold part
    congr 1
    omega
  unfold covO
  rw [e]
  constructor
  · intro h m hm
    have hi : nth (part ts (min p q + 1) (max p q)) (m - (min p q + 1)) = nth ts m := by rw [nth_part (by omega)]; congr 1; omega
    have := maxD_ge (d := 0) (nth_mem (xs := part ts (min p q + 1) (max p q)) (i := m - (min p q + 1)) (by rw [part_len (by omega)]; omega))
    rw [hi] at this
    omega
  · intro h
    by_cases c : part ts (min p q + 1) (max p q) = []
    · rw [c]
      exact hx
    · obtain ⟨i, hi, ei⟩ := mem_nth (maxD_mem (d := 0) c)
      rw [part_len (by omega)] at hi
      rw [nth_part hi] at ei
      rw [← ei]
      exact h _ (by omega)
def relW (ts : List Int) (p q : Nat) : Str := if max (nth ts p) (nth ts q) < covO ts p q then "open" else if nth ts p = nth ts q then "=" else if nth ts q < nth ts p then "<=" else ">="
/-- what a word says of two entries -/
def Says (w : Str) (x y : Int) : Prop := (w = "=" → x = y) ∧ (w = "<=" → x ≤ y) ∧ (w = ">=" → y ≤ x)
theorem says_iff {ts : List Int} {one : Nat → Int} (pos : ∀ j, j < ts.length → 1 ≤ nth ts j) : (∀ p q, p < q → q < ts.length → Says (relW ts p q) (one p) (one q)) ↔ StandU one (nth ts) ts.length := by
  have n1 : ("open" : Str) ≠ "=" := by decide +kernel
  have n2 : ("open" : Str) ≠ "<=" := by decide +kernel
  have n3 : ("open" : Str) ≠ ">=" := by decide +kernel
  have n4 : ("=" : Str) ≠ "<=" := by decide +kernel
  have n5 : ("=" : Str) ≠ ">=" := by decide +kernel
  have n6 : ("<=" : Str) ≠ "=" := by decide +kernel
  have n7 : ("<=" : Str) ≠ ">=" := by decide +kernel
  have n8 : (">=" : Str) ≠ "=" := by decide +kernel
  have n9 : (">=" : Str) ≠ "<=" := by decide +kernel
  constructor
  · intro h p q hp hq hne hb hle
    have hpos := pos p hp
    by_cases c : p < q
    · have hs := h p q c hq
      have hc : covO ts p q ≤ max (nth ts p) (nth ts q) := (cov_le (by omega) hp hq hne).mpr fun m hm => by have := hb m hm; omega
      unfold relW at hs
      rw [if_neg (by omega)] at hs
      by_cases c1 : nth ts p = nth ts q
      · rw [if_pos c1] at hs
        exact Int.le_of_eq (hs.1 rfl)
      · rw [if_neg c1, if_pos (by omega)] at hs
        exact hs.2.1 rfl
    · have hs := h q p (by omega) hp
      have hc : covO ts q p ≤ max (nth ts q) (nth ts p) := (cov_le (by omega) hq hp (fun e => hne e.symm)).mpr fun m hm => by have := hb m (by omega); omega
      unfold relW at hs
      rw [if_neg (by omega)] at hs
      by_cases c1 : nth ts q = nth ts p
      · rw [if_pos c1] at hs
        exact Int.le_of_eq (hs.1 rfl).symm
      · rw [if_neg c1, if_neg (by omega)] at hs
        exact hs.2.2 rfl
  · intro h p q hpq hq
    have hp : p < ts.length := by omega
    have h1 := pos p hp
    have h2 := pos q hq
    unfold relW
    by_cases c0 : max (nth ts p) (nth ts q) < covO ts p q
    · rw [if_pos c0]
      exact ⟨fun e => absurd e n1, fun e => absurd e n2, fun e => absurd e n3⟩
    · rw [if_neg c0]
      have hc := (cov_le (x := max (nth ts p) (nth ts q)) (by omega) hp hq (by omega)).mp (by omega)
      by_cases c1 : nth ts p = nth ts q
      · rw [if_pos c1]
        have u1 := h p q hp hq (by omega) (fun m hm => by have := hc m hm; omega) (by omega)
        have u2 := h q p hq hp (by omega) (fun m hm => by have := hc m (by omega); omega) (by omega)
        exact ⟨fun _ => by omega, fun e => absurd e n4, fun e => absurd e n5⟩
      · rw [if_neg c1]
        by_cases c2 : nth ts q < nth ts p
        · rw [if_pos c2]
          have u1 := h p q hp hq (by omega) (fun m hm => by have := hc m hm; omega) (by omega)
          exact ⟨fun e => absurd e n6, fun _ => u1, fun e => absurd e n7⟩
        · rw [if_neg c2]
          have u2 := h q p hq hp (by omega) (fun m hm => by have := hc m (by omega); omega) (by omega)
          exact ⟨fun e => absurd e n8, fun e => absurd e n9, fun _ => u2⟩
theorem ix_mem {α : Type} {xs : List α} {z : Int} (h0 : 0 ≤ z) (h : z < xs.length) : ∃ x, ix xs z = some x ∧ x ∈ xs := by
  have e : z = ((z.toNat : Nat) : Int) := by omega
  have hi : z.toNat < xs.length := by omega
  refine ⟨xs[z.toNat], ?_, List.getElem_mem hi⟩
  have h1 : ix xs ((z.toNat : Nat) : Int) = some xs[z.toNat] := atI_nat (List.getElem?_eq_getElem hi)
  rw [← e] at h1
  exact h1
theorem list_int_eq {xs : List Int} {n : Nat} (h : xs.length = n) : (xs.length : Int) = n := by omega
end PX

/-! PT: rounds that are played: who vanishes in the next round. -/
namespace PX
open PySem L2
/-- q stands beside p among those that are left after r rounds -/
def Adj (t : Nat → Int) (n : Nat) (r : Int) (p q : Nat) : Prop := q < n ∧ q ≠ p ∧ r < t q ∧ ∀ m, (p < m ∧ m < q) ∨ (q < m ∧ m < p) → t m ≤ r
theorem peak_iff {e t : Nat → Int} {n p : Nat} {r : Int} (h : ∀ j, j < n → Eqn e t n j) (h0 : 0 ≤ r) (hp : p < n) (ht : r < t p) : t p = r + 1 ↔ ∀ q, Adj t n r p q → e q ≤ e p := by
  constructor
  · rintro h1 q ⟨hq, hne, hq2, hb⟩
    by_cases c : e q ≤ e p
    · exact c
    · obtain ⟨m, m1, m2, m3, m4⟩ := near_of (fun k => e k ≤ e p) (p := q) (q := p) (fun e => hne e.symm) (Int.le_refl _)
      have hv : Sees e n m q := ⟨hq, fun e => m1 e.symm, fun x hx => by
        by_cases cx : x = q
        · rw [cx]
          omega
        · have := m4 x (by omega)
          omega⟩
      have h2 := (h m (by omega)).2.1 q hv
      by_cases cm : m = p
      · rw [cm] at h2
        omega
      · have := hb m (by omega)
        omega
  · intro hq
    by_cases c : t p = r + 1
    · exact c
    · obtain ⟨_, _, h3⟩ := h p hp
      rcases h3 with h3 | ⟨k, hk, h3⟩
      · omega
      · obtain ⟨m, m1, m2, m3, m4⟩ := near_of (fun x => r < t x) (p := p) (q := k) hk.2.1 (by omega)
        have h4 := hq m ⟨by have := hk.1; omega, m1, m3, fun x hx => by have := m4 x (by omega); omega⟩
        have := hk.2.2 m m2
        omega
end PX

/-! PU: the places that are left after some rounds. -/
namespace PX
open PySem L2
def Lft (ts : List Int) (n r : Nat) : List Nat := (List.range n).filter fun j => decide ((r : Int) < nth ts j)
theorem lft_mem {ts : List Int} {n r j : Nat} : j ∈ Lft ts n r ↔ j < n ∧ (r : Int) < nth ts j := by
  unfold Lft
  rw [List.mem_filter, List.mem_range, decide_eq_true_iff]
theorem lft_lt {ts : List Int} {n r i j p q : Nat} (h1 : (Lft ts n r)[i]? = some p) (h2 : (Lft ts n r)[j]? = some q) (h : i < j) : p < q := by
  have hs : (Lft ts n r).Pairwise (· < ·) := List.pairwise_lt_range.filter _
  obtain ⟨a, e1⟩ := List.getElem?_eq_some_iff.mp h1
  obtain ⟨b, e2⟩ := List.getElem?_eq_some_iff.mp h2
  have := List.pairwise_iff_getElem.mp hs i j a b h
  omega
theorem lft_ix {ts : List Int} {n r i j p q : Nat} (h1 : (Lft ts n r)[i]? = some p) (h2 : (Lft ts n r)[j]? = some q) (h : p < q) : i < j := by
  by_cases c : i < j
  · exact c
  · by_cases e : i = j
    · subst e
      rw [h1] at h2
      have := Option.some.inj h2
      omega
    · have := lft_lt h2 h1 (by omega)
      omega
/-- who stands beside the one at i -/
theorem lft_adj {ts : List Int} {n r i p q : Nat} (h1 : (Lft ts n r)[i]? = some p) : Adj (nth ts) n r p q ↔ ((Lft ts n r)[i + 1]? = some q ∨ (0 < i ∧ (Lft ts n r)[i - 1]? = some q)) := by
  have hp := lft_mem.mp (List.mem_of_getElem? h1)
  constructor
  · rintro ⟨hq, hne, hq2, hb⟩
    obtain ⟨j, hj⟩ := List.getElem?_of_mem (lft_mem.mpr ⟨hq, hq2⟩ : q ∈ Lft ts n r)
    by_cases c : p < q
    · have hij := lft_ix h1 hj c
      by_cases e : j = i + 1
      · exact Or.inl (e ▸ hj)
      · have hl : i + 1 < (Lft ts n r).length := by
          have := (List.getElem?_eq_some_iff.mp hj).1
          omega
        have hm := List.getElem?_eq_getElem hl
        have a := lft_lt h1 hm (by omega)
        have b := lft_lt hm hj (by omega)
        have := hb _ (Or.inl ⟨a, b⟩)
        have := (lft_mem.mp (List.mem_of_getElem? hm)).2
        omega
    · have hij := lft_ix hj h1 (by omega)
      by_cases e : j = i - 1
      · exact Or.inr ⟨by omega, e ▸ hj⟩
      · have hl : i - 1 < (Lft ts n r).length := by
          have := (List.getElem?_eq_some_iff.mp h1).1
          omega
        have hm := List.getElem?_eq_getElem hl
        have a := lft_lt hm h1 (by omega)
        have b := lft_lt hj hm (by omega)
        have := hb _ (Or.inr ⟨b, a⟩)
        have := (lft_mem.mp (List.mem_of_getElem? hm)).2
        omega
  · rintro (h | ⟨h0, h⟩)
    · have hq := lft_mem.mp (List.mem_of_getElem? h)
      have := lft_lt h1 h (by omega)
      refine ⟨hq.1, by omega, hq.2, fun m hm => ?_⟩
      by_cases c : (r : Int) < nth ts m
      · obtain ⟨j, hj⟩ := List.getElem?_of_mem (lft_mem.mpr ⟨by omega, c⟩ : m ∈ Lft ts n r)
        have a := lft_ix h1 hj (by omega)
        have b := lft_ix hj h (by omega)
        omega
      · omega
    · have hq := lft_mem.mp (List.mem_of_getElem? h)
      have := lft_lt h h1 (by omega)
      refine ⟨hq.1, by omega, hq.2, fun m hm => ?_⟩
      by_cases c : (r : Int) < nth ts m
      · obtain ⟨j, hj⟩ := List.getElem?_of_mem (lft_mem.mpr ⟨by omega, c⟩ : m ∈ Lft ts n r)
        have a := lft_ix h hj (by omega)
        have b := lft_ix hj h1 (by omega)
        omega
      · omega
/-- as long as something is left, something vanishes -/
theorem next_time {e t : Nat → Int} {n : Nat} (h : ∀ j, j < n → Eqn e t n j) (r : Nat) : ∀ (d j : Nat), j < n → (r : Int) < t j → t j ≤ r + 1 + d → ∃ k, k < n ∧ t k = r + 1
  | 0, j, hj, h1, h2 => ⟨j, hj, by omega⟩
  | d + 1, j, hj, h1, h2 => by
    by_cases c : t j = r + 1
    · exact ⟨j, hj, c⟩
    · obtain ⟨_, _, h3⟩ := h j hj
      rcases h3 with h3 | ⟨k, hk, h3⟩
      · omega
      · exact next_time h r d k hk.1 (by omega) (by omega)
theorem filter_len_lt {l : List Nat} {p q : Nat → Bool} (h : ∀ x ∈ l, p x = true → q x = true) (hx : ∃ x ∈ l, q x = true ∧ p x = false) : (l.filter p).length < (l.filter q).length := by
  induction l with
  | nil => obtain ⟨x, hx, _⟩ := hx; cases hx
  | cons y l ih =>
    have hm : ∀ x ∈ l, p x = true → q x = true := fun x hx => h x (List.mem_cons_of_mem _ hx)
    have le : ∀ (l : List Nat), (∀ x ∈ l, p x = true → q x = true) → (l.filter p).length ≤ (l.filter q).length := by
      intro l
      induction l with
      | nil => intro _; exact Nat.le_refl _
      | cons z l ih =>
        intro hz
        have ih' := ih fun x hx => hz x (List.mem_cons_of_mem _ hx)
        rw [List.filter_cons, List.filter_cons]
        cases hp : p z with
        | true =>
          rw [hz z List.mem_cons_self hp]
          simp only [if_true, List.length_cons]
          omega
        | false =>
          simp only [Bool.false_eq_true, if_false]
          split
          · rw [List.length_cons]
            omega
          · exact ih'
    rw [List.filter_cons, List.filter_cons]
    obtain ⟨x, hx, hq, hp⟩ := hx
    rcases List.mem_cons.mp hx with rfl | hx
    · rw [hq, hp]
      simp only [if_true, Bool.false_eq_true, if_false, List.length_cons]
      have := le l hm
      omega
    · have ih' := ih hm ⟨x, hx, hq, hp⟩
      cases hp' : p y with
      | true =>
        rw [h y List.mem_cons_self hp']
        simp only [if_true, List.length_cons]
        omega
      | false =>
        simp only [Bool.false_eq_true, if_false]
        split
        · rw [List.length_cons]
          omega
        · exact ih'
theorem lft_less {row ts : List Int} {r : Nat} (h : IsT row ts) (hne : Lft ts row.length r ≠ []) : (Lft ts row.length (r + 1)).length < (Lft ts row.length r).length := by
  obtain ⟨j, hj⟩ := List.exists_mem_of_ne_nil _ hne
  obtain ⟨h1, h2⟩ := lft_mem.mp hj
  obtain ⟨k, k1, k2⟩ := next_time h.2 r (nth ts j).toNat j h1 h2 (by omega)
  refine filter_len_lt (fun x _ hx => ?_) ⟨k, List.mem_range.mpr k1, decide_eq_true (by omega), decide_eq_false (by omega)⟩
  have := of_decide_eq_true hx
  exact decide_eq_true (by omega)
theorem lft_next (ts : List Int) (n r : Nat) : (Lft ts n r).filter (fun j => decide (nth ts j ≠ (r : Int) + 1)) = Lft ts n (r + 1) := by
  unfold Lft
  rw [List.filter_filter]
  congr 1
  funext j
  rw [Bool.eq_iff_iff, Bool.and_eq_true, decide_eq_true_iff, decide_eq_true_iff, decide_eq_true_iff]
  omega
end PX

/-! PV: rows from right to left; times joined with a greater one between; how many different ones. -/
namespace PX
open PySem L2
theorem nth_rev {xs : List Int} {i : Nat} (h : i < xs.length) : nth xs.reverse i = nth xs (xs.length - 1 - i) := by
  unfold nth
  rw [List.getElem?_reverse h]
theorem IsT.rev {row ts : List Int} (h : IsT row ts) : IsT row.reverse ts.reverse := by
  have hl := h.1
  refine ⟨by rw [List.length_reverse, List.length_reverse, hl], fun j hj => ?_⟩
  rw [List.length_reverse] at hj ⊢
  have hs : ∀ k, k < row.length → (Sees (nth row.reverse) row.length j k ↔ Sees (nth row) row.length (row.length - 1 - j) (row.length - 1 - k)) := by
    intro k hk
    constructor
    · rintro ⟨a, b, c⟩
      refine ⟨by omega, by omega, fun m hm => ?_⟩
      have := c (row.length - 1 - m) (by omega)
      rw [nth_rev hj, nth_rev (by omega), show row.length - 1 - (row.length - 1 - m) = m by omega] at this
      exact this
    · rintro ⟨a, b, c⟩
      refine ⟨hk, by omega, fun m hm => ?_⟩
      rw [nth_rev hj, nth_rev (by omega)]
      exact c _ (by omega)
  have e : ∀ k, k < row.length → nth ts.reverse k = nth ts (row.length - 1 - k) := fun k hk => by rw [nth_rev (by omega), hl]
  obtain ⟨p, q, r⟩ := h.2 (row.length - 1 - j) (by omega)
  refine ⟨by rw [e j hj]; exact p, fun k hk => ?_, ?_⟩
  · rw [e j hj, e k hk.1]
    exact q _ ((hs k hk.1).mp hk)
  · rw [e j hj]
    rcases r with r | ⟨k, hk, r⟩
    · exact Or.inl r
    · have hk1 := hk.1
      refine Or.inr ⟨row.length - 1 - k, (hs _ (by omega)).mpr ?_, ?_⟩
      · rw [show row.length - 1 - (row.length - 1 - k) = k by omega]
        exact hk
      · rw [e _ (by omega), show row.length - 1 - (row.length - 1 - k) = k by omega]
        exact r
theorem nodup_len {l : List Int} : ∀ {l' : List Int}, l.Nodup → (∀ a ∈ l, a ∈ l') → l.length ≤ l'.length := by
  induction l with
  | nil => intro l' _ _; exact Nat.zero_le _
  | cons x l ih =>
    intro l' hn hs
    have hx := hs x List.mem_cons_self
    obtain ⟨h1, h2⟩ := List.nodup_cons.mp hn
    have := ih (l' := l'.erase x) h2 fun a ha => (List.mem_erase_of_ne (a := a) (b := x) (fun (e : a = x) => h1 (by rw [← e]; exact ha))).mpr (hs a (List.mem_cons_of_mem _ ha))
    rw [List.length_erase_of_mem hx] at this
    have : 0 < l'.length := List.length_pos_of_mem hx
    rw [List.length_cons]
    omega
/-- two rows of times beside one another with a greater one between -/
theorem IsT.join {r1 t1 r2 t2 : List Int} {s g : Int} (h1 : IsT r1 t1) (h2 : IsT r2 t2) (hs : ∀ x ∈ r1 ++ r2, s < x) (hg : g = 1 + max (maxD 0 t1) (maxD 0 t2)) : IsT (r1 ++ [s] ++ r2) (t1 ++ [g] ++ t2) := by
  have l1 := h1.1
  have l2 := h2.1
  have hn : (r1 ++ [s] ++ r2).length = r1.length + 1 + r2.length := by simp only [List.length_append, List.length_singleton]
  have a1 : ∀ j, j < r1.length → nth (r1 ++ [s] ++ r2) j = nth r1 j := fun j hj => by rw [List.append_assoc, nth_app hj]
  have a2 : nth (r1 ++ [s] ++ r2) r1.length = s := by
    rw [List.append_assoc, nth_app2 (Nat.le_refl _), Nat.sub_self]
    rfl
  have a3 : ∀ j, j < r2.length → nth (r1 ++ [s] ++ r2) (r1.length + 1 + j) = nth r2 j := fun j hj => by
    rw [nth_app2 (by rw [List.length_append, List.length_singleton]; omega), List.length_append, List.length_singleton]
    congr 1
    omega
  have b1 : ∀ j, j < r1.length → nth (t1 ++ [g] ++ t2) j = nth t1 j := fun j hj => by rw [List.append_assoc, nth_app (by omega)]
  have b2 : nth (t1 ++ [g] ++ t2) r1.length = g := by
    rw [List.append_assoc, nth_app2 (by omega), l1, Nat.sub_self]
    rfl
  have b3 : ∀ j, j < r2.length → nth (t1 ++ [g] ++ t2) (r1.length + 1 + j) = nth t2 j := fun j hj => by
    rw [nth_app2 (by rw [List.length_append, List.length_singleton]; omega), List.length_append, List.length_singleton]
    congr 1
    omega
  have s1 : ∀ j, j < r1.length → s < nth r1 j := fun j hj => hs _ (List.mem_append_left _ (nth_mem hj))
  have s2 : ∀ j, j < r2.length → s < nth r2 j := fun j hj => hs _ (List.mem_append_right _ (nth_mem hj))
  refine ⟨by simp only [List.length_append, List.length_singleton]; omega, fun j hj => ?_⟩
  rw [hn] at hj ⊢
  by_cases c : j < r1.length
  · have hsee : ∀ k, Sees (nth (r1 ++ [s] ++ r2)) (r1.length + 1 + r2.length) j k ↔ Sees (nth r1) r1.length j k := by
      intro k
      constructor
      · rintro ⟨x, y, z⟩
        have hk : k < r1.length := by
          by_cases hk : k < r1.length
          · exact hk
          · have := z r1.length (Or.inl ⟨c, by omega⟩)
            rw [a1 j c, a2] at this
            have := s1 j c
            omega
        refine ⟨hk, y, fun m hm => ?_⟩
        have := z m hm
        rw [a1 j c, a1 m (by omega)] at this
        exact this
      · rintro ⟨x, y, z⟩
        refine ⟨by omega, y, fun m hm => ?_⟩
        rw [a1 j c, a1 m (by omega)]
        exact z m hm
    obtain ⟨p, q, r⟩ := h1.2 j c
    refine ⟨by rw [b1 j c]; exact p, fun k hk => ?_, ?_⟩
    · have hk' := (hsee k).mp hk
      rw [b1 j c, b1 k hk'.1]
      exact q k hk'
    · rw [b1 j c]
      rcases r with r | ⟨k, hk, r⟩
      · exact Or.inl r
      · exact Or.inr ⟨k, (hsee k).mpr hk, by rw [b1 k hk.1]; exact r⟩
  · by_cases c2 : j = r1.length
    · subst c2
      have pos1 : ∀ y ∈ t1, y ≤ maxD 0 t1 := fun y hy => maxD_ge hy
      have pos2 : ∀ y ∈ t2, y ≤ maxD 0 t2 := fun y hy => maxD_ge hy
      have n1 : 0 ≤ maxD 0 t1 := by
        by_cases c : t1 = []
        · rw [c]
          exact Int.le_refl _
        · have := h1.pos _ (maxD_mem (d := 0) c)
          omega
      have n2 : 0 ≤ maxD 0 t2 := by
        by_cases c : t2 = []
        · rw [c]
          exact Int.le_refl _
        · have := h2.pos _ (maxD_mem (d := 0) c)
          omega
      have vis : ∀ k, k < r1.length + 1 + r2.length → k ≠ r1.length → Sees (nth (r1 ++ [s] ++ r2)) (r1.length + 1 + r2.length) r1.length k := by
        intro k hk hne
        refine ⟨hk, hne, fun m hm => ?_⟩
        rw [a2]
        by_cases cm : m < r1.length
        · rw [a1 m cm]
          exact s1 m cm
        · rw [show m = r1.length + 1 + (m - (r1.length + 1)) by omega, a3 _ (by omega)]
          exact s2 _ (by omega)
      refine ⟨by rw [b2]; omega, fun k hk => ?_, ?_⟩
      · rw [b2]
        by_cases cm : k < r1.length
        · rw [b1 k cm]
          have := pos1 _ (nth_mem (xs := t1) (i := k) (by omega))
          omega
        · have hk1 := hk.1
          have hk2 := hk.2.1
          rw [show k = r1.length + 1 + (k - (r1.length + 1)) by omega, b3 _ (by omega)]
          have := pos2 _ (nth_mem (xs := t2) (i := k - (r1.length + 1)) (by omega))
          omega
      · rw [b2]
        by_cases c0 : g = 1
        · exact Or.inl c0
        · right
          by_cases cm : maxD 0 t2 ≤ maxD 0 t1
          · have hne : t1 ≠ [] := by
              intro e
              rw [e] at hg cm
              have : maxD 0 ([] : List Int) = 0 := rfl
              omega
            obtain ⟨i, hi, ei⟩ := mem_nth (maxD_mem (d := 0) hne)
            refine ⟨i, vis i (by omega) (by omega), ?_⟩
            rw [b1 i (by omega), ei]
            omega
          · have hne : t2 ≠ [] := by
              intro e
              rw [e] at cm
              have : maxD 0 ([] : List Int) = 0 := rfl
              omega
            obtain ⟨i, hi, ei⟩ := mem_nth (maxD_mem (d := 0) hne)
            refine ⟨r1.length + 1 + i, vis _ (by omega) (by omega), ?_⟩
            rw [b3 i (by omega), ei]
            omega
    · obtain ⟨i, rfl⟩ : ∃ i, j = r1.length + 1 + i := ⟨j - (r1.length + 1), by omega⟩
      have hi : i < r2.length := by omega
      have hsee : ∀ k, Sees (nth (r1 ++ [s] ++ r2)) (r1.length + 1 + r2.length) (r1.length + 1 + i) k ↔ ∃ k', k = r1.length + 1 + k' ∧ Sees (nth r2) r2.length i k' := by
        intro k
        constructor
        · rintro ⟨x, y, z⟩
          have hk : r1.length < k := by
            by_cases hk : r1.length < k
            · exact hk
            · have := z r1.length (Or.inr ⟨by omega, by omega⟩)
              rw [a3 i hi, a2] at this
              have := s2 i hi
              omega
          refine ⟨k - (r1.length + 1), by omega, by omega, by omega, fun m hm => ?_⟩
          have := z (r1.length + 1 + m) (by omega)
          rw [a3 i hi, a3 m (by omega)] at this
          exact this
        · rintro ⟨k', rfl, x, y, z⟩
          refine ⟨by omega, by omega, fun m hm => ?_⟩
          rw [a3 i hi, show m = r1.length + 1 + (m - (r1.length + 1)) by omega, a3 _ (by omega)]
          exact z _ (by omega)
      obtain ⟨p, q, r⟩ := h2.2 i hi
      refine ⟨by rw [b3 i hi]; exact p, fun k hk => ?_, ?_⟩
      · obtain ⟨k', rfl, hk'⟩ := (hsee k).mp hk
        rw [b3 i hi, b3 k' hk'.1]
        exact q k' hk'
      · rw [b3 i hi]
        rcases r with r | ⟨k, hk, r⟩
        · exact Or.inl r
        · exact Or.inr ⟨r1.length + 1 + k, (hsee _).mpr ⟨k, rfl, hk⟩, by rw [b3 k hk.1]; exact r⟩
end PX

/-! PW: texts of lists of ints have room; how many different ones a list has. -/
namespace PX
open PySem L2
theorem textFrom_le : ∀ (ts : List Str) (k : Nat) (acc : Str), (PySem.textFrom k acc ts).length ≤ acc.length + PySem.piled ts
  | [], k, acc => by rw [PySem.piled_nil]; exact Nat.le_refl _
  | t :: r, k, acc => by
    have ih := textFrom_le r (k + 1) (acc ++ (if k > 0 then ", " else "" : String) ++ t)
    have e : (acc ++ (if k > 0 then ", " else "" : String) ++ t).length = acc.length + (if k > 0 then 2 else 0) + t.length := by
      rw [PySem.strLen_append, PySem.strLen_append]
      split <;> rfl
    rw [e] at ih
    rw [PySem.piled_cons]
    show (PySem.textFrom (k + 1) _ r).length ≤ _
    have : (if k > 0 then 2 else 0 : Nat) ≤ 2 := by split <;> omega
    omega
theorem ints_shown : ∀ (xs : List Int), (∀ x ∈ xs, x.natAbs.log2 < 1920) → PyData.showableAll (xs.map PyData.int) = true ∧ PySem.piled (PyData.shownAll (xs.map PyData.int)) ≤ xs.length * 1923
  | [], _ => ⟨rfl, Nat.le_refl _⟩
  | x :: r, h => by
    obtain ⟨h1, h2⟩ := ints_shown r fun y hy => h y (List.mem_cons_of_mem _ hy)
    have hx := h x List.mem_cons_self
    refine ⟨?_, ?_⟩
    · simp only [List.map_cons, PyData.showableAll, PyData.showable, h1, Bool.and_true]
      exact decide_eq_true hx
    · simp only [List.map_cons, PyData.shownAll, PyData.shown]
      rw [PySem.piled_cons, List.length_cons]
      have h3 := PyProof.Rows.int_text_len_1921 hx
      have h4 : ((toString x : Str)).length ≤ 1921 := h3
      omega
theorem repr_ok {xs : List Int} (h : ∀ x ∈ xs, x.natAbs.log2 < 1920) (hl : xs.length ≤ 1000) : ∃ t, reprO xs = some t := by
  obtain ⟨h1, h2⟩ := ints_shown xs h
  refine ⟨_, if_pos ⟨?_, ?_⟩⟩
  · show (PyData.list (xs.map PyData.int)).showable = true
    simp only [PyData.showable]
    exact h1
  · show (PyData.list (xs.map PyData.int)).shown.length ≤ line
    simp only [PyData.shown]
    have h3 := textFrom_le (PyData.shownAll (xs.map PyData.int)) 0 "["
    have e : (PySem.listText (PyData.shownAll (xs.map PyData.int))).length = (PySem.textFrom 0 "[" (PyData.shownAll (xs.map PyData.int))).length + 1 := by
      show (PySem.textFrom 0 "[" _ ++ "]").length = _
      rw [PySem.strLen_append]
      rfl
    have e2 : ("[" : Str).length = 1 := rfl
    have e3 : line = 16000000 := rfl
    rw [e]
    rw [e2] at h3
    omega
theorem dedup_inv : ∀ (xs acc : List Int), acc.Nodup → (xs.foldl PyProof.Rows.step_dedup acc).Nodup ∧ ∀ y, y ∈ xs.foldl PyProof.Rows.step_dedup acc ↔ y ∈ acc ∨ y ∈ xs
  | [], acc, h => ⟨h, fun y => by simp⟩
  | x :: r, acc, h => by
    have hs : (PyProof.Rows.step_dedup acc x).Nodup ∧ ∀ y, y ∈ PyProof.Rows.step_dedup acc x ↔ y ∈ acc ∨ y = x := by
      unfold PyProof.Rows.step_dedup
      by_cases c : acc.any (· == x) = true
      · rw [if_pos c]
        refine ⟨h, fun y => ⟨Or.inl, fun z => z.elim id fun e => ?_⟩⟩
        obtain ⟨w, hw, e2⟩ := List.any_eq_true.mp c
        rw [e, ← eq_of_beq e2]
        exact hw
      · rw [if_neg c]
        have hx : x ∉ acc := fun hm => c (List.any_eq_true.mpr ⟨x, hm, beq_self_eq_true x⟩)
        refine ⟨List.nodup_append.mpr ⟨h, by simp, fun a ha b hb => ?_⟩, fun y => by simp⟩
        rw [List.mem_singleton.mp hb]
        exact fun e => hx (e ▸ ha)
    obtain ⟨h1, h2⟩ := dedup_inv r _ hs.1
    refine ⟨h1, fun y => ?_⟩
    rw [List.foldl_cons, h2, hs.2, List.mem_cons]
    constructor
    · rintro ((z | z) | z)
      · exact Or.inl z
      · exact Or.inr (Or.inl z)
      · exact Or.inr (Or.inr z)
    · rintro (z | z | z)
      · exact Or.inl (Or.inl z)
      · exact Or.inl (Or.inr z)
      · exact Or.inr z
theorem range_getD (xs : List Int) : (List.range xs.length).map (fun i => xs.getD i 0) = xs := by
  apply List.ext_getElem?
  intro i
  rw [List.getElem?_map]
  by_cases c : i < xs.length
  · rw [List.getElem?_range c, List.getElem?_eq_getElem c]
    simp [List.getD, c]
  · rw [List.getElem?_eq_none (by rw [List.length_range]; omega), List.getElem?_eq_none (by omega)]
    rfl
theorem dif_spec (xs : List Int) : (dif xs).Nodup ∧ ∀ y, y ∈ dif xs ↔ y ∈ xs := by
  unfold dif PyProof.Rows.firstMet
  rw [range_getD]
  obtain ⟨h1, h2⟩ := dedup_inv xs [] List.nodup_nil
  exact ⟨h1, fun y => by rw [h2]; simp⟩
theorem dif_len {xs : List Int} {top : Nat} (h1 : ∀ y ∈ xs, 0 ≤ y ∧ y < top) (h2 : ∀ v : Nat, v < top → (v : Int) ∈ xs) : (dif xs).length = top := by
  obtain ⟨hn, hm⟩ := dif_spec xs
  have hr : ((List.range top).map fun (x : Nat) => (x : Int)).length = top := by rw [List.length_map, List.length_range]
  have hrn : ((List.range top).map fun (x : Nat) => (x : Int)).Nodup := by
    refine List.Pairwise.map _ (fun a b hab => ?_) List.nodup_range
    omega
  have a := nodup_len hn (l' := (List.range top).map fun (x : Nat) => (x : Int)) fun y hy => by
    have := h1 y ((hm y).mp hy)
    exact List.mem_map.mpr ⟨y.toNat, List.mem_range.mpr (by omega), by omega⟩
  have b := nodup_len hrn (l' := dif xs) fun y hy => by
    obtain ⟨v, hv, rfl⟩ := List.mem_map.mp hy
    exact (hm _).mpr (h2 v (List.mem_range.mp hv))
  omega
/-- the different ones of the row of point 9 -/
theorem dif_row {row ts : List Int} (h : IsT row ts) : ((dif (ts.map fun x => maxD 0 ts - x)).length : Int) = maxD 0 ts := by
  have hl := h.1
  have n0 : 0 ≤ maxD 0 ts := by
    by_cases c : ts = []
    · rw [c]
      exact Int.le_refl _
    · have := h.pos _ (maxD_mem (d := 0) c)
      omega
  have hd := dif_len (xs := ts.map fun x => maxD 0 ts - x) (top := (maxD 0 ts).toNat) (fun y hy => ?_) fun v hv => ?_
  · omega
  · obtain ⟨t, ht, rfl⟩ := List.mem_map.mp hy
    have := h.pos t ht
    have := maxD_ge (d := 0) ht
    omega
  · have hne : ts ≠ [] := by
      intro e
      rw [e] at hv
      have : maxD 0 ([] : List Int) = 0 := rfl
      omega
    obtain ⟨i, hi, ei⟩ := mem_nth (maxD_mem (d := 0) hne)
    obtain ⟨k, k1, k2⟩ := next_time h.2 ((maxD 0 ts).toNat - v - 1) (nth ts i).toNat i (by omega) (by omega) (by omega)
    exact List.mem_map.mpr ⟨nth ts k, nth_mem (by omega), by omega⟩
end PX

/-! PY: a row after some rounds: its entries, its times, its peaks. -/
namespace PX
open PySem L2
theorem zip_range {row ts : List Int} (h : ts.length = row.length) : List.zip row ts = (List.range row.length).map fun j => (nth row j, nth ts j) := by
  apply List.ext_getElem?
  intro i
  by_cases c : i < row.length
  · rw [List.getElem?_map, List.getElem?_range c, (List.getElem?_zip_eq_some (z := (nth row i, nth ts i))).mpr ⟨nth_some c, nth_some (by omega)⟩]
    rfl
  · rw [List.getElem?_eq_none (by rw [List.length_zip]; omega), List.getElem?_eq_none (by rw [List.length_map, List.length_range]; omega)]
theorem enum_range (ts : List Int) : enumI ts = (List.range ts.length).map fun (j : Nat) => ((j : Int), nth ts j) := by
  apply List.ext_getElem?
  intro i
  by_cases c : i < ts.length
  · rw [List.getElem?_map, List.getElem?_range c]
    unfold enumI
    rw [List.getElem?_map, List.getElem?_zipIdx, nth_some c]
    simp
  · rw [List.getElem?_eq_none (by rw [enumI_length]; omega), List.getElem?_eq_none (by rw [List.length_map, List.length_range]; omega)]
/-- the row after r rounds, and its times -/
def Rst (row ts : List Int) (r : Nat) : List Int := (Lft ts row.length r).map fun j => nth row j
def RstT (row ts : List Int) (r : Nat) : List Int := (Lft ts row.length r).map fun j => nth ts j - r
theorem nth_mapL {L : List Nat} {f : Nat → Int} {i j : Nat} (h : L[i]? = some j) : nth (L.map f) i = f j := by
  apply nth_of
  rw [List.getElem?_map, h]
  rfl
theorem lft_some {ts : List Int} {n r i : Nat} (h : i < (Lft ts n r).length) : ∃ j, (Lft ts n r)[i]? = some j ∧ j < n ∧ (r : Int) < nth ts j := by
  have h1 := List.getElem?_eq_getElem h
  exact ⟨_, h1, lft_mem.mp (List.mem_of_getElem? h1)⟩
theorem lft_at {ts : List Int} {n r j : Nat} (h1 : j < n) (h2 : (r : Int) < nth ts j) : ∃ i, i < (Lft ts n r).length ∧ (Lft ts n r)[i]? = some j := by
  obtain ⟨i, hi⟩ := List.getElem?_of_mem (lft_mem.mpr ⟨h1, h2⟩)
  exact ⟨i, (List.getElem?_eq_some_iff.mp hi).1, hi⟩
theorem lft_eq {ts : List Int} {n r i j p q : Nat} (h1 : (Lft ts n r)[i]? = some p) (h2 : (Lft ts n r)[j]? = some q) : i < j ↔ p < q := ⟨lft_lt h1 h2, lft_ix h1 h2⟩
theorem rst_is {row ts : List Int} (h : IsT row ts) (r : Nat) : IsT (Rst row ts r) (RstT row ts r) := by
  unfold Rst RstT
  have hlen := h.1
  refine ⟨by rw [List.length_map, List.length_map], ?_⟩
  rw [List.length_map]
  have hst := eqn_stand h.2
  have hsp := eqn_steps h.2
  refine eqn_of (fun i hi => ?_) (fun p q hp hq hne hm hle => ?_) fun j hj h1 => ?_
  · obtain ⟨j, e, _, h2⟩ := lft_some hi
    rw [nth_mapL e]
    omega
  · obtain ⟨P, eP, hP, hP2⟩ := lft_some hp
    obtain ⟨Q, eQ, hQ, hQ2⟩ := lft_some hq
    rw [nth_mapL eP] at hle ⊢
    rw [nth_mapL eQ] at hle ⊢
    have hne' : P ≠ Q := fun e => by
      rcases Nat.lt_or_gt_of_ne hne with c | c
      · have := (lft_eq eP eQ).mp c
        omega
      · have := (lft_eq eQ eP).mp c
        omega
    refine hst P Q hP hQ hne' (fun m' hm' => ?_) (by omega)
    by_cases c : (r : Int) < nth ts m'
    · obtain ⟨m, _, em⟩ := lft_at (n := row.length) (show m' < row.length by omega) c
      have := hm m (by
        rcases hm' with ⟨a, b⟩ | ⟨a, b⟩
        · exact Or.inl ⟨(lft_eq eP em).mpr a, (lft_eq em eQ).mpr b⟩
        · exact Or.inr ⟨(lft_eq eQ em).mpr a, (lft_eq em eP).mpr b⟩)
      rw [nth_mapL em, nth_mapL eP] at this
      omega
    · omega
  · obtain ⟨J, eJ, hJ, hJ2⟩ := lft_some hj
    rw [nth_mapL eJ] at h1
    obtain ⟨K, ⟨hK, hKJ, hbt⟩, hKt, hKe⟩ := hsp J hJ (by omega)
    obtain ⟨k, hk, ek⟩ := lft_at hK (show (r : Int) < nth ts K by omega)
    refine ⟨k, ⟨hk, fun e => ?_, fun m hm => ?_⟩, ?_, ?_⟩
    · rw [e, eJ] at ek
      exact hKJ (Option.some.inj ek).symm
    · have hml : m < (Lft ts row.length r).length := by omega
      obtain ⟨M, eM, hM, hM2⟩ := lft_some hml
      rw [nth_mapL eM, nth_mapL eJ]
      have := hbt M (by
        rcases hm with ⟨a, b⟩ | ⟨a, b⟩
        · refine Or.inl ⟨(lft_eq eJ eM).mp a, ?_⟩
          by_cases c : m = k
          · rw [c, ek] at eM
            exact Nat.le_of_eq (Option.some.inj eM).symm
          · exact Nat.le_of_lt ((lft_eq eM ek).mp (by omega))
        · refine Or.inr ⟨?_, (lft_eq eM eJ).mp b⟩
          by_cases c : m = k
          · rw [c, ek] at eM
            exact Nat.le_of_eq (Option.some.inj eM)
          · exact Nat.le_of_lt ((lft_eq ek eM).mp (by omega)))
      omega
    · rw [nth_mapL ek, nth_mapL eJ]
      omega
    · rw [nth_mapL ek, nth_mapL eJ]
      exact hKe
/-- an entry has the time 1 where no neighbour is greater -/
theorem peak_at {row ts : List Int} {i : Nat} (h : IsT row ts) (hi : i < row.length) : nth ts i = 1 ↔ nth row (i - 1) ≤ nth row i ∧ (i + 1 < row.length → nth row (i + 1) ≤ nth row i) := by
  obtain ⟨h1, h2, h3⟩ := h.2 i hi
  have hp : ∀ k, k < row.length → 1 ≤ nth ts k := fun k hk => (h.2 k hk).1
  constructor
  · intro e
    constructor
    · by_cases c : nth row (i - 1) ≤ nth row i
      · exact c
      · have hi0 : i ≠ 0 := fun z => by
          subst z
          exact c (Int.le_refl _)
        have := h2 (i - 1) ⟨by omega, by omega, fun m hm => by
          have : m = i - 1 := by omega
          rw [this]
          omega⟩
        have := hp (i - 1) (by omega)
        omega
    · intro hn
      by_cases c : nth row (i + 1) ≤ nth row i
      · exact c
      · have := h2 (i + 1) ⟨by omega, by omega, fun m hm => by
          have : m = i + 1 := by omega
          rw [this]
          omega⟩
        have := hp (i + 1) hn
        omega
  · rintro ⟨a, b⟩
    rcases h3 with e | ⟨k, ⟨k1, k2, k3⟩, _⟩
    · exact e
    · rcases Nat.lt_or_gt_of_ne k2 with c | c
      · have := k3 (i - 1) (Or.inr ⟨by omega, by omega⟩)
        omega
      · have := k3 (i + 1) (Or.inl ⟨by omega, by omega⟩)
        have := b (by omega)
        omega
/-- how many rounds a row needs -/
def topN (ts : List Int) : Nat := (maxD 0 ts).toNat
theorem topN_int {row ts : List Int} (h : IsT row ts) : (topN ts : Int) = maxD 0 ts := by
  unfold topN
  by_cases c : ts = []
  · rw [c]
    rfl
  · have := h.pos _ (maxD_mem (d := 0) c)
    omega
theorem lft_nil {row ts : List Int} (h : IsT row ts) {r : Nat} : Lft ts row.length r = [] ↔ topN ts ≤ r := by
  have ht := topN_int h
  have hlen := h.1
  constructor
  · intro e
    by_cases c : ts = []
    · rw [c]
      exact Nat.zero_le _
    · obtain ⟨j, hj, ej⟩ := mem_nth (maxD_mem (d := 0) c)
      by_cases c2 : topN ts ≤ r
      · exact c2
      · have : j ∈ Lft ts row.length r := lft_mem.mpr ⟨by omega, by omega⟩
        rw [e] at this
        cases this
  · intro e
    cases hl : Lft ts row.length r with
    | nil => rfl
    | cons j l =>
      have := lft_mem.mp (show j ∈ Lft ts row.length r by rw [hl]; exact List.mem_cons_self)
      have := maxD_ge (d := 0) (nth_mem (xs := ts) (i := j) (by omega))
      omega
theorem rst_nil {row ts : List Int} (h : IsT row ts) {r : Nat} : Rst row ts r = [] ↔ topN ts ≤ r := by
  unfold Rst
  rw [List.map_eq_nil_iff]
  exact lft_nil h
theorem rst_zero {row ts : List Int} (h : IsT row ts) : Rst row ts 0 = row := by
  have hlen := h.1
  unfold Rst
  have e : Lft ts row.length 0 = List.range row.length := by
    unfold Lft
    refine List.filter_eq_self.mpr fun j hj => ?_
    have := (h.2 j (List.mem_range.mp hj)).1
    exact decide_eq_true (by omega)
  rw [e]
  apply ext_nth
  · rw [List.length_map, List.length_range]
  · intro i hi
    rw [List.length_map, List.length_range] at hi
    exact nth_mapL (List.getElem?_range hi)
/-- from the zip of a row and its times -/
theorem rst_zip {row ts : List Int} (h : ts.length = row.length) (r : Nat) : ((List.zip row ts).filter fun x => decide ((r : Int) < x.2)).map (fun x => x.1) = Rst row ts r := by
  rw [zip_range h, List.filter_map, List.map_map]
  rfl
theorem lft_enum {row ts : List Int} (h : ts.length = row.length) (r : Nat) : ((enumI ts).filter fun x => decide ((r : Int) < x.2)).map (fun x => x.1) = (Lft ts row.length r).map fun (j : Nat) => (j : Int) := by
  rw [enum_range, List.filter_map, List.map_map, h]
  rfl
theorem lft_add (ts : List Int) (n r s : Nat) : (Lft ts n r).filter (fun j => decide ((s : Int) < nth ts j - r)) = Lft ts n (r + s) := by
  unfold Lft
  rw [List.filter_filter]
  refine List.filter_congr fun j _ => ?_
  rw [Bool.eq_iff_iff]
  simp only [Bool.and_eq_true, decide_eq_true_eq]
  omega
/-- the rest's rest -/
theorem rst_rst {row ts : List Int} (r s : Nat) : Rst (Rst row ts r) (RstT row ts r) s = Rst row ts (r + s) := by
  have e : (RstT row ts r).length = (Rst row ts r).length := by
    unfold Rst RstT
    rw [List.length_map, List.length_map]
  rw [← rst_zip e]
  unfold Rst RstT
  rw [← lft_add]
  generalize Lft ts row.length r = L
  induction L with
  | nil => rfl
  | cons j l ih =>
    simp only [List.map_cons, List.zip_cons_cons, List.filter_cons]
    by_cases c : (s : Int) < nth ts j - r
    · simp [c, ih]
    · simp [c, ih]
/-- where the peaks of the rest stand -/
theorem lft_at_time (ts : List Int) (n r : Nat) : (Lft ts n r).filter (fun j => decide (nth ts j = (r : Int) + 1)) = (List.range n).filter fun j => decide (nth ts j = (r : Int) + 1) := by
  unfold Lft
  rw [List.filter_filter]
  refine List.filter_congr fun j _ => ?_
  rw [Bool.eq_iff_iff]
  simp only [Bool.and_eq_true, decide_eq_true_eq]
  omega
theorem lft_nodup (ts : List Int) (n r : Nat) : (Lft ts n r).Nodup := List.Pairwise.filter _ List.nodup_range
theorem map_range_get {L : List Nat} {α : Type} (f : Nat → α) (d : Nat) : (List.range L.length).map (fun i => f (L.getD i d)) = L.map f := by
  apply List.ext_getElem?
  intro i
  by_cases c : i < L.length
  · rw [List.getElem?_map, List.getElem?_range c, List.getElem?_map, List.getElem?_eq_getElem c]
    simp [List.getD, List.getElem?_eq_getElem c]
  · rw [List.getElem?_eq_none (by rw [List.length_map, List.length_range]; omega), List.getElem?_eq_none (by rw [List.length_map]; omega)]
theorem filter_range_get {L : List Nat} (p : Nat → Bool) (d : Nat) : ((List.range L.length).filter (fun i => p (L.getD i d))).map (fun i => L.getD i d) = L.filter p := by
  have e : L = (List.range L.length).map fun i => L.getD i d := by
    have := map_range_get (L := L) (fun j => j) d
    rw [List.map_id'] at this
    exact this.symm
  conv => rhs; rw [e]
  rw [List.filter_map]
  rfl
end PX

/-! PXp: values of many kinds, lists of them; what they are; tuple(xs), repr of True and False. -/
namespace PX
open PySem L2
inductive Elt where
  | non
  | bl (b : Bool)
  | int (i : Int)
  | str (s : Str)
  | tup (l : List Int)
  | lst (l : List Int)
  | dic
def Elt.rel (G : Hp) (v : V) : Elt → Prop
  | .non => v = .non
  | .bl b => v = .bl b
  | .int i => v = .int i
  | .str s => v = .str s
  | .tup l => ∃ a, v = .ref a ∧ G a = some (.tup (l.map V.int))
  | .lst l => ∃ a, v = .ref a ∧ G a = some (.lst (l.map V.int))
  | .dic => ∃ a, v = .ref a ∧ G a = some (.dK [])
instance : Rep Elt where
  rel := fun _ G v x => x.rel G v
  mono := fun {K G G' v x} e h => by
    cases x with
    | tup l => exact ⟨h.choose, h.choose_spec.1, e _ _ h.choose_spec.2⟩
    | lst l => exact ⟨h.choose, h.choose_spec.1, e _ _ h.choose_spec.2⟩
    | dic => exact ⟨h.choose, h.choose_spec.1, e _ _ h.choose_spec.2⟩
    | _ => exact h
inductive Val where
  | one (e : Elt)
  | many (l : List Elt)
instance : Rep Val where
  rel := fun K G v x => match x with
    | .one e => Rep.rel K G v e
    | .many l => Rep.rel K G v l
  mono := fun {K G G' v x} e h => by
    cases x with
    | one y => exact Rep.mono (α := Elt) e h
    | many l => exact Rep.mono (α := List Elt) e h
/-- data whose type is known at run time -/
class DynTy (α : Type) extends Rep α where
  tn : α → String
  ty : ∀ {K : PySem.W.Frag} {G : Hp} {v : V} {x : α}, Rep.rel K G v x → TyX K G v (.type (tn x))
def Elt.tn : Elt → String
  | .non => "NoneType"
  | .bl _ => "bool"
  | .int _ => "int"
  | .str _ => "str"
  | .tup _ => "tuple"
  | .lst _ => "list"
  | .dic => "dict"
theorem Elt.ty {K : PySem.W.Frag} {G : Hp} {v : V} {x : Elt} (h : Rep.rel K G v x) : TyX K G v (.type x.tn) := by
  cases x with
  | non => cases (show v = .non from h); exact .base .non
  | bl b => cases (show v = .bl b from h); exact .base (.bl _)
  | int i => cases (show v = .int i from h); exact .base (.int _)
  | str s => cases (show v = .str s from h); exact .base (.str _)
  | tup l =>
    obtain ⟨a, e, q⟩ := h
    subst e
    exact .base (.tup q)
  | lst l =>
    obtain ⟨a, e, q⟩ := h
    subst e
    exact .base (.lst q)
  | dic =>
    obtain ⟨a, e, q⟩ := h
    subst e
    exact .base (.dK q)
instance : DynTy Elt where
  tn := Elt.tn
  ty := Elt.ty
def Val.tn : Val → String
  | .one e => e.tn
  | .many _ => "list"
instance : DynTy Val where
  tn := Val.tn
  ty := fun {K G v x} h => by
    cases x with
    | one e => exact Elt.ty h
    | many l =>
      obtain ⟨a, vs, h1, h2, h3⟩ := h
      subst h1
      exact .base (.lst h2)
def isD {α : Type} [DynTy α] (N : String) (x : α) : Bool := (kitB (DynTy.tn x) N).getD false
theorem kitS {t N : String} (ht : t = "NoneType" ∨ t = "bool" ∨ t = "int" ∨ t = "str" ∨ t = "tuple" ∨ t = "list" ∨ t = "dict") (h : N = "list" ∨ N = "int" ∨ N = "bool") : ∃ b, kitB t N = some b := by
  rcases h with rfl | rfl | rfl <;> rcases ht with rfl | rfl | rfl | rfl | rfl | rfl | rfl <;> first | exact ⟨true, by decide +kernel⟩ | exact ⟨false, by decide +kernel⟩
theorem kitE (x : Elt) {N : String} (h : N = "list" ∨ N = "int" ∨ N = "bool") : ∃ b, kitB (DynTy.tn x) N = some b := kitS (by cases x <;> simp [DynTy.tn, Elt.tn]) h
theorem kitV (x : Val) {N : String} (h : N = "list" ∨ N = "int" ∨ N = "bool") : ∃ b, kitB (DynTy.tn x) N = some b := by
  cases x with
  | one e => exact kitE e h
  | many l => exact kitS (t := "list") (by simp) h
/-- the items of a list -/
def asL : Val → Option (List Elt)
  | .many l => some l
  | .one (.lst l) => some (l.map .int)
  | .one _ => none
theorem rels_elt {K : PySem.W.Frag} {G : Hp} : ∀ (l : List Int), Rels K G (l.map V.int) (l.map Elt.int)
  | [] => .nil
  | x :: r => .cons (show Rep.rel K G (V.int x) (Elt.int x) from rfl) (rels_elt r)
section
variable {X : Cx} {σ : L2.St} {H G : Hp} {a : Expr} {es : List Expr} {pos p : Pos}
theorem EvX.to {α β : Type} [Rep α] [Rep β] {x : α} {y : β} (h : EvX X a σ H G x) (k : ∀ v G', Rep.rel X.K G' v x → Rep.rel X.K G' v y) : EvX X a σ H G y := fun H1 G1 s Q q => h H1 G1 s Q fun v H2 G2 s2 r2 => q v H2 G2 s2 (k v G2 r2)
theorem ev_eNon (h : EvX X a σ H G ()) : EvX X a σ H G Elt.non := h.to fun _ _ r => r
theorem ev_eBl {b : Bool} (h : EvX X a σ H G b) : EvX X a σ H G (Elt.bl b) := h.to fun _ _ r => r
theorem ev_eInt {i : Int} (h : EvX X a σ H G i) : EvX X a σ H G (Elt.int i) := h.to fun _ _ r => r
theorem ev_eStr {i : Str} (h : EvX X a σ H G i) : EvX X a σ H G (Elt.str i) := h.to fun _ _ r => r
theorem ev_eLst {l : List Int} (h : EvX X a σ H G l) : EvX X a σ H G (Elt.lst l) := h.to fun _ _ ⟨b, vs, h1, h2, h3⟩ => ⟨b, h1, by rw [rels_int h3] at h2; exact h2⟩
theorem ev_eTup {l : List Int} {k1} (h : EvL X es σ H G l) (hz : l.length ≤ 100000 := by decide) : EvX X (.Tuple es k1 pos) σ H G (Elt.tup l) := fun H1 G1 s Q k =>
  toE (pe_tup pa_wp) (show wpA X es σ H1 _ from h H1 G1 s _ fun vs H2 G2 s2 r2 => ⟨by rw [Paired.len r2]; exact Nat.le_trans hz (by decide), fun d nd => by
    rw [rels_int r2]
    exact k _ _ (upd G2 d (.tup (l.map V.int))) (s2.trans (Rc.newG s2.sub nd)) ⟨d, rfl, upd_same⟩⟩)
theorem ev_eDic : EvX X (.Dict [] [] pos) σ H G Elt.dic := fun H1 G1 s Q k =>
  toE pe_dnewK (fun d nd => k _ _ (upd G1 d (.dK [])) (Rc.newG s.sub nd) ⟨d, rfl, upd_same⟩)
theorem ev_asElts {l : List Int} (h : EvX X a σ H G l) : EvX X a σ H G (l.map Elt.int) := h.to fun _ _ ⟨b, vs, h1, h2, h3⟩ => ⟨b, vs, h1, h2, by rw [rels_int h3]; exact rels_elt l⟩
theorem ev_vOne {e : Elt} (h : EvX X a σ H G e) : EvX X a σ H G (Val.one e) := h.to fun _ _ r => r
theorem ev_vMany {l : List Elt} (h : EvX X a σ H G l) : EvX X a σ H G (Val.many l) := h.to fun _ _ r => r
theorem ev_asL {x : Val} {l : List Elt} (hl : asL x = some l) (h : EvX X a σ H G x) : EvX X a σ H G l := h.to fun v G' r => by
  cases x with
  | many m =>
    cases hl
    exact r
  | one e =>
    cases e with
    | lst m =>
      cases hl
      obtain ⟨b, h1, h2⟩ := r
      exact ⟨b, _, h1, h2, rels_elt m⟩
    | _ => cases hl
theorem ev_tupleE {l : List Int} (hm : X.mg "tuple" = none) (ha : EvX X a σ H G l) (hg : Gl X "tuple" := by rfl) (he : starEach [a] X.env = (false, eval a X.env) :: starEach [] X.env := by rfl) : EvX X (.Call (.Name "tuple" p) [a] [] pos) σ H G (Elt.tup l) :=
  ev_ty call_tuple_of hm (by decide +kernel) (ea_cons ha ea_nil he) (fun vs H1 G1 s r Q k => by
    obtain ⟨v, rfl, d, ws, q1, q2, q3⟩ := args1 r
    rw [rels_int q3] at q2
    exact ⟨d, l.map V.int, by rw [q1], .inl ⟨.inl (.inl (s.sub _ _ q2)), fun t nt => k _ _ (upd G1 t (.tup (l.map V.int))) (Rc.newG s.sub nt) ⟨t, rfl, upd_same⟩⟩⟩) hg (by decide) (by decide) he
theorem ev_isiD {α : Type} [DynTy α] {x : α} {T : Str} {N : String} {pT : Pos} (hk : ∃ b, kitB (DynTy.tn x) N = some b) (hm : X.mg "isinstance" = none) (hmT : X.mg T = none) (hvT : bootBuiltins T = some (.type N)) (ha : EvX X a σ H G x)
    (hg : Gl X "isinstance" := by rfl) (hgT : Gl X T := by rfl) (hn : T ≠ "__name__" := by decide) (hd : (T == ("__debug__" : Str)) = false := by decide) (he : starEach [a, .Name T pT] X.env = (false, eval a X.env) :: starEach [.Name T pT] X.env := by rfl)
    (he2 : starEach [.Name T pT] X.env = (false, eval (.Name T pT) X.env) :: starEach [] X.env := by rfl) (hpl : (backTo pos (starEach [.Name T pT] X.env)).any (·.1) = false := by rfl) : EvX X (.Call (.Name "isinstance" p) [a, .Name T pT] [] pos) σ H G (isD N x) := fun H1 G1 s Q k => by
  obtain ⟨b, hb⟩ := hk
  have e : isD N x = b := by
    unfold isD
    rw [hb]
    rfl
  rw [e] at k
  exact toE (pe_callB call_isi hg hm (by decide +kernel) (pa_cons pe_wp (pa_cons (pe_bltn (v := .ty N) hgT hmT hvT rfl hn hd) pa_nil he2) he) (by decide) (by decide) he hpl) (show wpE X a σ H1 _ from ha H1 G1 s _ fun v H2 G2 s2 r2 =>
    ⟨v, .ty N, _, _, b, rfl, .ty N, DynTy.ty (Rep.mono s2.sub r2), kit_ty hb, k _ H2 G2 s2 rfl⟩)
def reprB (b : Bool) : Str := if b then "True" else "False"
theorem call_repr_bl : CallR X (.builtin "repr") (fun xs H Q => ∃ b, xs = [.bl b] ∧ Q (.str (reprB b)) H) := by
  intro pins s σ H xs us Q I r h
  obtain ⟨b, rfl, q⟩ := h
  obtain ⟨u, rfl, rx⟩ := vals1 r
  cases (show u = Value.bool b from rx)
  exact PySem.P.repr_of_bool ⟨.str _, H, I.tok _, ⟨_, rfl⟩, q⟩
theorem ev_reprB {b : Bool} (hm : X.mg "repr" = none) (ha : EvX X a σ H G b) (hg : Gl X "repr" := by rfl) (he : starEach [a] X.env = (false, eval a X.env) :: starEach [] X.env := by rfl) : EvX X (.Call (.Name "repr" p) [a] [] pos) σ H G (reprB b) :=
  ev_bi call_repr_bl hm (by decide +kernel) (ea_cons ha ea_nil he) (fun vs H1 G1 s r Q k => by
    obtain ⟨v, rfl, hv⟩ := args1 r
    exact ⟨b, by rw [show v = V.bl b from hv], k _ H1 G1 (Rc.refl s.sub) rfl⟩) hg (by decide) (by decide) he
end
/-! ### displays of many items: kept from being run by the elaborator -/
section
variable {α : Type} [Rep α] {X : Cx} {σ : L2.St} {H G : Hp} {e : Expr} {es : List Expr} {pos : Pos} {x : α}
@[irreducible] def EvLI (X : Cx) (es : List Expr) (σ : L2.St) (H G : Hp) (xs : List α) : Prop := EvL X es σ H G xs
theorem eli_nil : EvLI X [] σ H G ([] : List α) := by
  unfold EvLI
  exact el_nil
theorem eli_cons {xs : List α} (h : EvX X e σ H G x) (r : EvLI X es σ H G xs) (hs : starEach (e :: es) X.env = (false, eval e X.env) :: starEach es X.env := by rfl) : EvLI X (e :: es) σ H G (x :: xs) := by
  unfold EvLI at r ⊢
  exact el_cons h r hs
theorem EvN.ofLst {xs : List α} (he : Expr.List es pos = e) (h : EvLI X es σ H G xs) (hz : xs.length ≤ 100000 := by decide) : EvN X e σ H G xs := by
  unfold EvLI at h
  subst he
  exact ev_lst h hz
end
end PX

/-! PZ: rows in the same sequence, between two lesser entries, with a copy of an entry; how tall rows of different entries are. -/
namespace PX
open PySem L2
theorem IsT.same {row row' ts : List Int} (h : IsT row ts) (hl : row'.length = row.length) (hm : ∀ i j, i < row.length → j < row.length → (nth row i < nth row j ↔ nth row' i < nth row' j)) : IsT row' ts := by
  refine ⟨by rw [hl]; exact h.1, fun j hj => ?_⟩
  rw [hl] at hj ⊢
  have hs : ∀ k, Sees (nth row) row.length j k ↔ Sees (nth row') row.length j k := fun k => by
    unfold Sees
    constructor
    · rintro ⟨a, b, c⟩
      exact ⟨a, b, fun m hm' => (hm j m hj (by omega)).mp (c m hm')⟩
    · rintro ⟨a, b, c⟩
      exact ⟨a, b, fun m hm' => (hm j m hj (by omega)).mpr (c m hm')⟩
  obtain ⟨a, b, c⟩ := h.2 j hj
  exact ⟨a, fun k hk => b k ((hs k).mpr hk), c.imp id fun ⟨k, h1, h2⟩ => ⟨k, (hs k).mp h1, h2⟩⟩
theorem IsT.mapped {row ts : List Int} {f : Int → Int} (h : IsT row ts) (hf : ∀ x y, x ∈ row → y ∈ row → (x < y ↔ f x < f y)) : IsT (row.map f) ts := by
  refine h.same (List.length_map ..) fun i j hi hj => ?_
  rw [nth_map hi, nth_map hj]
  exact hf _ _ (nth_mem hi) (nth_mem hj)
/-- each entry has its blocks -/
theorem left_block {e : Nat → Int} {v : Int} : ∀ j : Nat, ∃ a, a ≤ j ∧ (∀ k, a ≤ k → k < j → v < e k) ∧ (a = 0 ∨ e (a - 1) ≤ v)
  | 0 => ⟨0, Nat.le_refl _, fun k _ hk => absurd hk (Nat.not_lt_zero _), Or.inl rfl⟩
  | j + 1 => by
    by_cases c : v < e j
    · obtain ⟨a, h1, h2, h3⟩ := left_block (e := e) (v := v) j
      refine ⟨a, by omega, fun k p q => ?_, h3⟩
      by_cases d : k = j
      · rw [d]
        exact c
      · exact h2 k p (by omega)
    · exact ⟨j + 1, Nat.le_refl _, fun k p q => by omega, Or.inr (by show e j ≤ v; omega)⟩
theorem right_block {e : Nat → Int} {v : Int} {n : Nat} : ∀ d i : Nat, i + d = n → ∃ b, i ≤ b ∧ b ≤ n ∧ (∀ k, i ≤ k → k < b → v < e k) ∧ (b = n ∨ e b ≤ v)
  | 0, i, h => ⟨i, Nat.le_refl _, by omega, fun k p q => by omega, Or.inl (by omega)⟩
  | d + 1, i, h => by
    by_cases c : v < e i
    · obtain ⟨b, h1, h2, h3, h4⟩ := right_block (e := e) (v := v) (n := n) d (i + 1) (by omega)
      refine ⟨b, by omega, h2, fun k p q => ?_, h4⟩
      by_cases z : k = i
      · rw [z]
        exact c
      · exact h3 k (by omega) q
    · exact ⟨i, Nat.le_refl _, by omega, fun k p q => by omega, Or.inr (by omega)⟩
theorem blocks_ex {row : List Int} {j : Nat} (hj : j < row.length) : ∃ a b, a ≤ j ∧ j < b ∧ b ≤ row.length ∧ (∀ k, a ≤ k → k < j → nth row j < nth row k) ∧ (∀ k, j < k → k < b → nth row j < nth row k) ∧ (a = 0 ∨ nth row (a - 1) ≤ nth row j) ∧ (b = row.length ∨ nth row b ≤ nth row j) := by
  obtain ⟨a, a1, a2, a3⟩ := left_block (e := nth row) (v := nth row j) j
  obtain ⟨b, b1, b2, b3, b4⟩ := right_block (e := nth row) (v := nth row j) (n := row.length) (row.length - (j + 1)) (j + 1) (by omega)
  exact ⟨a, b, a1, by omega, b2, a2, fun k p q => b3 k (by omega) q, a3, b4⟩
theorem part_nil {xs : List Int} {a b : Nat} (h : b ≤ a) : part xs a b = [] := by
  unfold part
  rw [Nat.sub_eq_zero_of_le h]
  rfl
theorem part_eq {xs ys : List Int} {a b c d : Nat} (h : b - a = d - c) (hb : b ≤ xs.length) (hd : d ≤ ys.length) (k : ∀ i, i < b - a → nth xs (a + i) = nth ys (c + i)) : part xs a b = part ys c d := by
  apply ext_nth
  · rw [part_len hb, part_len hd, h]
  · intro i hi
    rw [part_len hb] at hi
    rw [nth_part hi, nth_part (by omega)]
    exact k i hi
/-- between two entries that are equal, and less than all -/
theorem IsT.wrap {row ts tw : List Int} {s : Int} (h : IsT row ts) (hs : ∀ x ∈ row, s < x) (hw : IsT ([s] ++ row ++ [s]) tw) : tw = [maxD 0 ts + 1] ++ ts ++ [maxD 0 ts + 1] := by
  have hlen := h.1
  have hn : ([s] ++ row ++ [s]).length = row.length + 2 := by simp only [List.length_append, List.length_singleton]; omega
  have hwl := hw.1
  rw [hn] at hwl
  have e0 : nth ([s] ++ row ++ [s]) 0 = s := rfl
  have e1 : ∀ i, i < row.length → nth ([s] ++ row ++ [s]) (1 + i) = nth row i := fun i hi => by
    rw [nth_app (by simp only [List.length_append, List.length_singleton]; omega), nth_app2 (by simp only [List.length_singleton]; omega)]
    congr 1
    simp only [List.length_singleton]
    omega
  have e2 : nth ([s] ++ row ++ [s]) (row.length + 1) = s := by
    rw [nth_app2 (by simp only [List.length_append, List.length_singleton]; omega)]
    simp only [List.length_append, List.length_singleton]
    rw [show row.length + 1 - (1 + row.length) = 0 by omega]
    rfl
  have big : ∀ k, 1 ≤ k → k < row.length + 1 → s < nth ([s] ++ row ++ [s]) k := fun k p q => by
    rw [show k = 1 + (k - 1) by omega, e1 _ (by omega)]
    exact hs _ (nth_mem (by omega))
  have hpart : part ([s] ++ row ++ [s]) 1 (row.length + 1) = row := by
    apply ext_nth
    · rw [part_len (by omega)]
      omega
    · intro i hi
      rw [part_len (by omega)] at hi
      rw [nth_part (by omega), e1 _ (by omega)]
  obtain ⟨_, q1, q2⟩ := hw.blocks (j := 0) (a := 0) (b := row.length + 1) (by omega) (Nat.le_refl _) (by omega) (by omega) (fun k p q => by omega) (fun k p q => by rw [e0]; exact big k (by omega) q) (Or.inl rfl) (Or.inr (by rw [e0, e2]; exact Int.le_refl _))
  obtain ⟨r1, _, r2⟩ := hw.blocks (j := row.length + 1) (a := 1) (b := row.length + 2) (by omega) (by omega) (by omega) (by omega) (fun k p q => by rw [e2]; exact big k p q) (fun k p q => by omega) (Or.inr (by rw [e2]; exact Int.le_of_eq e0)) (Or.inl hn.symm)
  rw [show 0 + 1 = 1 from rfl, hpart] at q1
  have et : part tw 1 (row.length + 1) = ts := q1.unique h
  rw [show 0 + 1 = 1 from rfl, et, part_nil (Nat.le_refl 0)] at q2
  rw [et, part_nil (Nat.le_refl _)] at r2
  have top0 : 0 ≤ maxD 0 ts := by
    by_cases c : ts = []
    · rw [c]
      exact Int.le_refl _
    · have := h.pos _ (maxD_mem (d := 0) c)
      omega
  have z0 : maxD 0 ([] : List Int) = 0 := rfl
  rw [z0] at q2 r2
  apply ext_nth
  · simp only [List.length_append, List.length_singleton]
    omega
  · intro i hi
    by_cases c0 : i = 0
    · subst c0
      rw [q2]
      show _ = maxD 0 ts + 1
      omega
    · by_cases c1 : i = row.length + 1
      · subst c1
        rw [r2, nth_app2 (by simp only [List.length_append, List.length_singleton]; omega)]
        simp only [List.length_append, List.length_singleton]
        rw [show row.length + 1 - (1 + ts.length) = 0 by omega]
        show _ = maxD 0 ts + 1
        omega
      · rw [nth_app (by simp only [List.length_append, List.length_singleton]; omega), nth_app2 (by simp only [List.length_singleton]; omega)]
        have : nth tw i = nth (part tw 1 (row.length + 1)) (i - 1) := by
          rw [nth_part (by omega)]
          congr 1
          omega
        rw [this, et]
        rfl
/-- a copy of an entry beside it -/
theorem IsT.copy {row ts tw : List Int} {j : Nat} (h : IsT row ts) (hj : j < row.length) (hw : IsT (row.take (j + 1) ++ row.drop j) tw) : max (nth tw j) (nth tw (j + 1)) = nth ts j := by
  have hlen := h.1
  have hn : (row.take (j + 1) ++ row.drop j).length = row.length + 1 := by rw [List.length_append, List.length_take, List.length_drop]; omega
  have hwl := hw.1
  rw [hn] at hwl
  have e1 : ∀ i, i ≤ j → nth (row.take (j + 1) ++ row.drop j) i = nth row i := fun i hi => by
    rw [nth_app (by rw [List.length_take]; omega), nth_take (by omega)]
  have e2 : ∀ i, j < i → nth (row.take (j + 1) ++ row.drop j) i = nth row (i - 1) := fun i hi => by
    rw [nth_app2 (by rw [List.length_take]; omega), nth_drop, List.length_take]
    congr 1
    omega
  obtain ⟨a, b, ha, hb, hbn, h1, h2, h3, h4⟩ := blocks_ex hj
  obtain ⟨p1, p2, p3⟩ := h.blocks hj ha hb hbn h1 h2 h3 h4
  have w1 := e1 j (Nat.le_refl _)
  have w2 := e2 (j + 1) (by omega)
  rw [Nat.add_sub_cancel] at w2
  obtain ⟨q1, q2, q3⟩ := hw.blocks (j := j) (a := a) (b := j + 1) (by omega) ha (by omega) (by omega) (fun k p q => by rw [w1, e1 k (by omega)]; exact h1 k p q) (fun k p q => by omega) (h3.imp id fun h3 => by rw [w1, e1 _ (by omega)]; exact h3) (Or.inr (by rw [w1, w2]; exact Int.le_refl _))
  obtain ⟨r1, r2, r3⟩ := hw.blocks (j := j + 1) (a := j + 1) (b := b + 1) (by omega) (Nat.le_refl _) (by omega) (by omega) (fun k p q => by omega) (fun k p q => by rw [w2, e2 k (by omega)]; exact h2 (k - 1) (by omega) (by omega)) (Or.inr (by rw [Nat.add_sub_cancel, w1, w2]; exact Int.le_refl _)) (by
    rcases h4 with h4 | h4
    · exact Or.inl (by omega)
    · right
      rw [w2, e2 (b + 1) (by omega), Nat.add_sub_cancel]
      exact h4)
  rw [part_eq (ys := row) (c := a) (d := j) rfl (by omega) (by omega) (fun i hi => e1 _ (by omega))] at q1
  rw [part_eq (ys := row) (c := j + 1) (d := b) (by omega) (by omega) hbn (fun i hi => by rw [e2 _ (by omega)]; congr 1; omega)] at r2
  have g1 := q1.unique p1
  have g2 := r2.unique p2
  rw [g1, part_nil (Nat.le_refl _)] at q3
  rw [g2, part_nil (Nat.le_refl _)] at r3
  have z0 : maxD 0 ([] : List Int) = 0 := rfl
  rw [z0] at q3 r3
  have t1 : 0 ≤ maxD 0 (part ts a j) := by
    by_cases c : part ts a j = []
    · rw [c]
      exact Int.le_refl _
    · have := p1.pos _ (maxD_mem (d := 0) c)
      omega
  have t2 : 0 ≤ maxD 0 (part ts (j + 1) b) := by
    by_cases c : part ts (j + 1) b = []
    · rw [c]
      exact Int.le_refl _
    · have := p2.pos _ (maxD_mem (d := 0) c)
      omega
  rw [q3, r3, p3]
  omega
theorem min_at {row : List Int} (h : row ≠ []) : ∃ j, j < row.length ∧ ∀ k, k < row.length → nth row j ≤ nth row k := by
  have hm : minD 0 row ∈ row := by
    cases row with
    | nil => exact absurd rfl h
    | cons x r =>
      have key : ∀ (l : List Int) (y : Int), l.foldl min y = y ∨ l.foldl min y ∈ l := by
        intro l
        induction l with
        | nil => exact fun y => Or.inl rfl
        | cons z l ih =>
          intro y
          rw [List.foldl_cons]
          rcases ih (min y z) with e | e
          · rw [e]
            by_cases c : y ≤ z
            · left
              omega
            · right
              rw [show min y z = z by omega]
              exact List.mem_cons_self
          · exact Or.inr (List.mem_cons_of_mem _ e)
      rcases key r x with e | e
      · show List.foldl min x r ∈ _
        rw [e]
        exact List.mem_cons_self
      · exact List.mem_cons_of_mem _ e
  obtain ⟨j, hj, e⟩ := mem_nth hm
  exact ⟨j, hj, fun k hk => by rw [e]; exact minD_le (nth_mem hk)⟩
theorem topN_part {row ts : List Int} {m : Nat} (h : IsT row ts) (hm : maxD 0 ts ≤ m) : topN ts ≤ m := by
  have := topN_int h
  omega
/-- a row of different entries is not longer than its rounds allow -/
theorem tall_of : ∀ (n : Nat) (row ts : List Int), row.length ≤ n → IsT row ts → (∀ i j, i < j → j < row.length → nth row i ≠ nth row j) → row.length < 2 ^ topN ts
  | n, [], ts, _, _, _ => Nat.two_pow_pos _
  | 0, _ :: _, _, hl, _, _ => by
    rw [List.length_cons] at hl
    omega
  | n + 1, x :: r, ts, hl, h, hd => by
    generalize hrow : x :: r = row at hl h hd ⊢
    have hne : row ≠ [] := by rw [← hrow]; exact List.cons_ne_nil _ _
    obtain ⟨j, hj, hmin⟩ := min_at hne
    have hlt : ∀ k, k < row.length → k ≠ j → nth row j < nth row k := fun k hk hkj => by
      have h1 := hmin k hk
      have h2 : nth row j ≠ nth row k := by
        rcases Nat.lt_or_gt_of_ne hkj with c | c
        · exact (hd k j c hj).symm
        · exact hd j k c hk
      omega
    obtain ⟨p1, p2, p3⟩ := h.blocks (a := 0) (b := row.length) hj (Nat.zero_le _) hj (Nat.le_refl _) (fun k _ q => hlt k (by omega) (by omega)) (fun k p q => hlt k q (by omega)) (Or.inl rfl) (Or.inl rfl)
    have l1 : (part row 0 j).length = j := by rw [part_len (by omega)]; omega
    have l2 : (part row (j + 1) row.length).length = row.length - (j + 1) := part_len (Nat.le_refl _)
    have i1 := tall_of n _ _ (by omega) p1 fun i k hik hk => by
      rw [l1] at hk
      rw [nth_part (by omega), nth_part (by omega)]
      exact hd _ _ (by omega) (by omega)
    have i2 := tall_of n _ _ (by omega) p2 fun i k hik hk => by
      rw [l2] at hk
      rw [nth_part (by omega), nth_part (by omega)]
      exact hd _ _ (by omega) (by omega)
    rw [l1] at i1
    rw [l2] at i2
    have ht := topN_int h
    have t1 := topN_int p1
    have t2 := topN_int p2
    have hge := maxD_ge (d := 0) (nth_mem (xs := ts) (i := j) (by have := h.1; omega))
    have m1 : topN (part ts 0 j) ≤ topN ts - 1 := by omega
    have m2 : topN (part ts (j + 1) row.length) ≤ topN ts - 1 := by omega
    have hpos : 1 ≤ topN ts := by omega
    have s1 := Nat.pow_le_pow_right (show 0 < 2 by decide) m1
    have s2 := Nat.pow_le_pow_right (show 0 < 2 by decide) m2
    have s3 : 2 ^ topN ts = 2 ^ (topN ts - 1) * 2 := by
      rw [← Nat.pow_succ]
      congr 1
      omega
    omega
theorem same_len {d l : List Int} (hd : d.Nodup) (hm : ∀ y, y ∈ d ↔ y ∈ l) (hl : d.length = l.length) : ∀ i j, i < j → j < l.length → nth l i ≠ nth l j := by
  intro i j hij hj e
  have hle := nodup_len hd (l' := l.eraseIdx j) fun y hy => by
    obtain ⟨k, hk, ek⟩ := mem_nth ((hm y).mp hy)
    by_cases c : k = j
    · refine List.mem_eraseIdx_iff_getElem?.mpr ⟨i, by omega, ?_⟩
      rw [nth_some (by omega), e, ← c, ek]
    · exact List.mem_eraseIdx_iff_getElem?.mpr ⟨k, c, by rw [nth_some hk, ek]⟩
  rw [List.length_eraseIdx, if_pos hj] at hle
  omega
end PX

/-! PYk: tuples of ints as keys; a dict of lists, each grown in its place. -/
namespace PX
open PySem L2
/-! ### tuples of ints -/
structure TupI where
  l : List Int
instance : Rep TupI where
  rel := fun K G v x => ∃ t, v = .ref t ∧ G t = some (.tup (x.l.map V.int))
  mono := fun e ⟨t, h1, h2⟩ => ⟨t, h1, e _ _ h2⟩
section
variable {X : Cx} {σ : L2.St} {H G : Hp} {a b : Expr} {p pos : Pos}
theorem ev_tupI {l : List Int} (hm : X.mg "tuple" = none) (ha : EvX X a σ H G l) (hg : Gl X "tuple" := by rfl) (he : starEach [a] X.env = (false, eval a X.env) :: starEach [] X.env := by rfl) : EvX X (.Call (.Name "tuple" p) [a] [] pos) σ H G (TupI.mk l) :=
  (ev_tupleE hm ha hg he).to fun _ _ ⟨d, h1, h2⟩ => ⟨d, h1, h2⟩
theorem ev_listT {l : TupI} (hm : X.mg "list" = none) (ha : EvX X a σ H G l) (hg : Gl X "list" := by rfl) (he : starEach [a] X.env = (false, eval a X.env) :: starEach [] X.env := by rfl) : EvN X (.Call (.Name "list" p) [a] [] pos) σ H G l.l :=
  ev_tyN call_list_of hm (by decide +kernel) (ea_cons ha ea_nil he) (fun vs H1 G1 s r Q k => by
    obtain ⟨v, rfl, t, q1, q2⟩ := args1 r
    exact ⟨t, _, by rw [q1], .inr (.inl (.inl (s.sub _ _ q2))), fun l nl => k l _ G1 (Rc.new s.sub nl) nl (Own.mk s.sub nl (rels_of_int _))⟩) hg (by decide) (by decide) he
end
/-! ### the keys -/
abbrev Lot := List (List Int × List (List Int))
def kk (l : List Int) : List Key := l.map Sum.inl
theorem kk_V (l : List Int) : (kk l).map kV = l.map V.int := by
  unfold kk
  rw [List.map_map]
  rfl
theorem kk_inj : ∀ {l l' : List Int}, kk l = kk l' → l = l'
  | [], [], _ => rfl
  | [], _ :: _, h => by cases h
  | _ :: _, [], h => by cases h
  | x :: l, y :: l', h => by
    unfold kk at h
    rw [List.map_cons, List.map_cons] at h
    have h1 := List.cons.inj h
    rw [Sum.inl.inj h1.1, kk_inj h1.2]
theorem int_inj : ∀ {l l' : List Int}, l.map V.int = l'.map V.int → l = l'
  | [], [], _ => rfl
  | [], _ :: _, h => by cases h
  | _ :: _, [], h => by cases h
  | x :: l, y :: l', h => by
    rw [List.map_cons, List.map_cons] at h
    have h1 := List.cons.inj h
    rw [V.int.inj h1.1, int_inj h1.2]
theorem kk_of {k : List Key} {l : List Int} (h : k.map kV = l.map V.int) : k = kk l := by
  induction k generalizing l with
  | nil =>
    cases l with
    | nil => rfl
    | cons x l => cases h
  | cons a k ih =>
    cases l with
    | nil => cases h
    | cons x l =>
      rw [List.map_cons, List.map_cons] at h
      have h1 := List.cons.inj h
      cases a with
      | inl i =>
        have : i = x := V.int.inj h1.1
        rw [this, ih h1.2]
        rfl
      | inr z => cases h1.1
/-! ### a dict that stands for good -/
structure Lots where
  m : Lot
def LotOf (K : PySem.W.Frag) (G : Hp) (p : List Key × V) (q : List Int × List (List Int)) : Prop := p.1 = kk q.1 ∧ Rep.rel K G p.2 q.2
instance : Rep Lots where
  rel := fun K G v x => ∃ d o kvs, v = .ref d ∧ G d = some (.frz o (.dT kvs)) ∧ Paired (LotOf K G) kvs x.m
  mono := fun e ⟨d, o, kvs, h1, h2, h3⟩ => ⟨d, o, kvs, h1, e _ _ h2, Paired.imp (fun _ _ ⟨q1, q2⟩ => ⟨q1, Rep.mono e q2⟩) h3⟩
def lotO (x : Lots) (k : TupI) : Option (List (List Int)) := (x.m.find? fun q => decide (q.1 = k.l)).map (·.2)
theorem lot_val {K : PySem.W.Frag} {G : Hp} {ks : List Int} {r : List (List Int)} : ∀ {kvs : List (List Key × V)} {m : Lot}, Paired (LotOf K G) kvs m → (m.find? fun q => decide (q.1 = ks)).map (·.2) = some r → ∃ v, valV kvs (kk ks) = some v ∧ Rep.rel K G v r
  | _, _, .nil, h => by cases h
  | p :: kvs, q :: m, .cons ⟨h1, h2⟩ t, h => by
    by_cases c : q.1 = ks
    · rw [List.find?_cons, decide_eq_true c] at h
      cases h
      exact ⟨p.2, valV_pos (by rw [h1, c]), h2⟩
    · rw [List.find?_cons, decide_eq_false c] at h
      obtain ⟨v, e1, e2⟩ := lot_val t h
      exact ⟨v, by rw [valV_neg (fun z => c (kk_inj (h1.symm.trans z)))]; exact e1, e2⟩
section
variable {X : Cx} {σ : L2.St} {H G : Hp} {a b tg : Expr} {p pos : Pos}
/-- lots[some] -/
theorem ev_lotsIx {x : Lots} {k : TupI} {r : List (List Int)} (hu : X.A.units + 1 < cLine) (h : lotO x k = some r) (ha : EvX X a σ H G x) (hb : EvX X b σ H G k) (hs : NoSl b) : EvX X (.Subscript a b pos) σ H G r := fun H1 G1 s Q q =>
  toE (pe_dget hu pe_wp pe_wp hs) (show wpE X a σ H1 _ from ha H1 G1 s _ fun v H2 G2 s2 r2 => hb H2 G2 (s.trans s2) _ fun w H3 G3 s3 r3 => by
    obtain ⟨d, o, kvs, q1, q2, q3⟩ := Rep.mono s3.ex r2
    obtain ⟨t, t1, t2⟩ := r3
    obtain ⟨u, u1, u2⟩ := lot_val q3 h
    subst t1
    exact ⟨d, u, q1, .inr ⟨kvs, kk k.l, t, .inr ⟨o, s3.sub _ _ q2⟩, rfl, by rw [kk_V]; exact s3.sub _ _ t2, u1.symm⟩, q u H3 G3 (s2.trans s3) u2⟩)
/-- for some in lots -/
theorem ei_lots {x : Lots} {j : Nat} (hz : x.m.length ≤ sizeLine) (ha : EvX X a σ H G x) : EvI X tg a (gName j) σ H G (x.m.map fun q => TupI.mk q.1) (rOne X.K j) := fun H1 G1 s Rk q =>
  toI (pi_keys pe_wp) (show wpE X a σ H1 _ from ha H1 G1 s _ fun v H2 G2 s2 ⟨d, o, kvs, q1, q2, q3⟩ => ⟨d, o, q1, .inr ⟨kvs, s2.sub _ _ q2, q _ H2 G2 s2 ⟨fun i y H' G' hy e1 e2 => by
    have fz : H' d = some (.frz o (.dT kvs)) := e2 _ _ (e1 _ _ q2)
    rw [List.getElem?_map] at hy
    obtain ⟨qq, hq, rfl⟩ := Option.map_eq_some_iff.mp hy
    obtain ⟨pp, k1, k2, k3⟩ := Paired.get q3 hq
    refine ⟨⟨fz, (List.getElem?_eq_some_iff.mp k1).1⟩, fun w H'' ⟨eH, kx, vx, t, g1, g2, g3⟩ σ' Q kq => ?_⟩
    subst eH
    subst g2
    rw [k1] at g1
    have e3 : pp.1 = kx := congrArg Prod.fst (Option.some.inj g1)
    rw [← e3, k2, kk_V] at g3
    exact kq (fun σ => σ.set j (some (.ref t))) _ ((Rc.refl e2).adopt g3) ⟨.ref t, ⟨t, rfl, upd_same⟩, rfl⟩, fun H' G' e1 e2 => ⟨e2 _ _ (e1 _ _ q2), by rw [Paired.len q3, List.length_map]; exact Nat.le_refl _⟩, by rw [List.length_map]; exact hz, rOne_mono⟩⟩⟩)
end
/-! ### a dict that grows -/
def addLot : Lot → List Int → List Int → Lot
  | [], k, r => [(k, [r])]
  | (q, rs) :: m, k, r => if q = k then (q, rs ++ [r]) :: m else (q, rs) :: addLot m k r
def kvsOf (as : List Addr) (m : Lot) : List (List Key × V) := List.zipWith (fun a q => (kk q.1, V.ref a)) as m
def LR (K : PySem.W.Frag) (H0 H G : Hp) (a : Addr) (q : List Int × List (List Int)) : Prop := ∃ vs, H a = some (.lst vs) ∧ G a = none ∧ H0 a = none ∧ Rels K G vs q.2
theorem addLot_miss {k r : List Int} : ∀ {m : Lot}, k ∉ m.map (·.1) → addLot m k r = m ++ [(k, [r])]
  | [], _ => rfl
  | (q, rs) :: m, h => by
    rw [List.map_cons, List.mem_cons] at h
    have h1 : ¬ q = k := fun z => h (.inl z.symm)
    unfold addLot
    rw [if_neg h1, addLot_miss fun z => h (.inr z)]
    rfl
theorem addLot_keys {k r : List Int} : ∀ {m : Lot}, k ∈ m.map (·.1) → (addLot m k r).map (·.1) = m.map (·.1)
  | [], h => by cases h
  | (q, rs) :: m, h => by
    unfold addLot
    by_cases c : q = k
    · rw [if_pos c]
      rfl
    · rw [if_neg c, List.map_cons, List.map_cons]
      rw [List.map_cons, List.mem_cons] at h
      rw [addLot_keys (h.resolve_left fun z => c z.symm)]
theorem addLot_nodup {k r : List Int} {m : Lot} (h : (m.map (·.1)).Nodup) : ((addLot m k r).map (·.1)).Nodup := by
  by_cases c : k ∈ m.map (·.1)
  · rw [addLot_keys c]
    exact h
  · rw [addLot_miss c, List.map_append]
    refine List.nodup_append.mpr ⟨h, by simp, fun a ha b hb => ?_⟩
    rw [List.map_cons, List.map_nil, List.mem_singleton] at hb
    rw [hb]
    intro z
    rw [z] at ha
    exact c ha
theorem kvs_miss {k : List Int} : ∀ {as : List Addr} {m : Lot}, k ∉ m.map (·.1) → valV (kvsOf as m) (kk k) = none
  | [], m, _ => by
    unfold kvsOf
    rw [List.zipWith_nil_left]
    rfl
  | _ :: _, [], _ => rfl
  | a :: as, q :: m, h => by
    rw [List.map_cons, List.mem_cons] at h
    show valV ((kk q.1, V.ref a) :: kvsOf as m) (kk k) = none
    rw [valV_neg (fun z => h (.inl (kk_inj z).symm))]
    exact kvs_miss fun z => h (.inr z)
theorem put_none {k : List Key} {v : V} : ∀ {kvs : List (List Key × V)}, valV kvs k = none → kvs.map (fun kv => if kv.1 = k then (kv.1, v) else kv) = kvs
  | [], _ => rfl
  | p :: r, h => by
    by_cases c : p.1 = k
    · rw [valV_pos c] at h
      cases h
    · rw [valV_neg c] at h
      rw [List.map_cons, if_neg c, put_none h]
theorem LR.upd {K : PySem.W.Frag} {H0 H G : Hp} {a b : Addr} {o : HO} {q : List Int × List (List Int)} (h : LR K H0 H G a q) (n : a ≠ b) : LR K H0 (upd H b o) G a q := by
  obtain ⟨vs, h1, h2⟩ := h
  exact ⟨vs, by rw [upd_ne n]; exact h1, h2⟩
theorem LRs.upd {K : PySem.W.Frag} {H0 H G : Hp} {b : Addr} {o : HO} : ∀ {as : List Addr} {m : Lot}, Paired (LR K H0 H G) as m → b ∉ as → Paired (LR K H0 (L2.upd H b o) G) as m
  | _, _, .nil, _ => .nil
  | _, _, .cons x t, n => .cons (x.upd fun z => n (by rw [z]; exact List.mem_cons_self)) (LRs.upd t fun z => n (List.mem_cons_of_mem _ z))
theorem lot_hit {K : PySem.W.Frag} {H0 H G : Hp} {k : List Int} : ∀ {as : List Addr} {m : Lot}, Paired (LR K H0 H G) as m → as.Nodup → (m.map (·.1)).Nodup → k ∈ m.map (·.1) →
    ∃ a vs rs, a ∈ as ∧ valV (kvsOf as m) (kk k) = some (.ref a) ∧ H a = some (.lst vs) ∧ G a = none ∧ H0 a = none ∧ Rels K G vs rs ∧ (∃ q ∈ m, q.2 = rs) ∧ putK (kvsOf as m) (kk k) (.ref a) = kvsOf as m ∧
      ∀ w r, Rep.rel K G w r → Paired (LR K H0 (upd H a (.lst (vs ++ [w]))) G) as (addLot m k r) ∧ kvsOf as (addLot m k r) = kvsOf as m
  | [], [], .nil, _, _, h => by cases h
  | a :: as, q :: m, .cons x t, n1, n2, h => by
    obtain ⟨n1a, n1b⟩ := List.nodup_cons.mp n1
    rw [List.map_cons] at n2 h
    obtain ⟨n2a, n2b⟩ := List.nodup_cons.mp n2
    have hk : kvsOf (a :: as) (q :: m) = (kk q.1, V.ref a) :: kvsOf as m := rfl
    by_cases c : q.1 = k
    · obtain ⟨vs, h1, h2, h3, h4⟩ := x
      refine ⟨a, vs, q.2, List.mem_cons_self, by rw [hk]; exact valV_pos (by rw [c]), h1, h2, h3, h4, ⟨q, List.mem_cons_self, rfl⟩, ?_, fun w r hw => ?_⟩
      · rw [hk]
        unfold putK
        rw [valV_any, valV_pos (by rw [c]), Option.isSome_some, if_pos rfl, List.map_cons, if_pos (by rw [c]), put_none (kvs_miss (by rw [← c]; exact n2a))]
      · have e : addLot (q :: m) k r = (q.1, q.2 ++ [r]) :: m := by
          show (if q.1 = k then _ else _) = _
          rw [if_pos c]
        rw [e]
        exact ⟨.cons ⟨_, upd_same, h2, h3, Paired.append h4 (.cons hw .nil)⟩ (LRs.upd t n1a), rfl⟩
    · have h' := (List.mem_cons.mp h).resolve_left fun z => c z.symm
      obtain ⟨b, vs, rs, i1, i2, i3, i4, i5, i6, ⟨q', i7, i8⟩, i9, i10⟩ := lot_hit t n1b n2b h'
      have nab : a ≠ b := fun z => n1a (z ▸ i1)
      have nk : ¬ kk q.1 = kk k := fun z => c (kk_inj z)
      refine ⟨b, vs, rs, List.mem_cons_of_mem _ i1, by rw [hk, valV_neg nk]; exact i2, i3, i4, i5, i6, ⟨q', List.mem_cons_of_mem _ i7, i8⟩, ?_, fun w r hw => ?_⟩
      · rw [hk]
        unfold putK at i9 ⊢
        rw [valV_any, i2, Option.isSome_some, if_pos rfl] at i9
        rw [valV_any, valV_neg nk, i2, Option.isSome_some, if_pos rfl, List.map_cons, if_neg nk, i9]
      · have e : addLot (q :: m) k r = q :: addLot m k r := by
          show (if q.1 = k then _ else _) = _
          rw [if_neg c]
        obtain ⟨j1, j2⟩ := i10 w r hw
        rw [e]
        exact ⟨.cons (x.upd nab) j1, by rw [show kvsOf (a :: as) (q :: addLot m k r) = (kk q.1, V.ref a) :: kvsOf as (addLot m k r) from rfl, j2, hk]⟩
theorem kvs_snoc {k : List Int} {r : List (List Int)} {p : Addr} : ∀ {as : List Addr} {m : Lot}, as.length = m.length → kvsOf (as ++ [p]) (m ++ [(k, r)]) = kvsOf as m ++ [(kk k, V.ref p)]
  | [], [], _ => rfl
  | [], _ :: _, h => by cases h
  | _ :: _, [], h => by cases h
  | a :: as, q :: m, h => by
    show _ :: kvsOf (as ++ [p]) (m ++ [(k, r)]) = _ :: (kvsOf as m ++ _)
    rw [kvs_snoc (Nat.succ.inj h)]
/-- the dict at d that is ours, its lists too, all new since H0 -/
structure LotsAt (K : PySem.W.Frag) (H0 H G : Hp) (d : Addr) (m : Lot) : Prop where
  ex : ∃ as, H d = some (.dT (kvsOf as m)) ∧ as.Nodup ∧ d ∉ as ∧ Paired (LR K H0 H G) as m
  g : G d = none
  n : H0 d = none
  kn : (m.map (·.1)).Nodup
section
variable {K : PySem.W.Frag} {H0 G0 H G H1 G1 : Hp} {d : Addr} {m : Lot}
theorem LR.step0 {a : Addr} {q : List Int × List (List Int)} (h : LR K H0 H G a q) (S : Rc [] H G H1 G1) : LR K H0 H1 G1 a q := by
  obtain ⟨vs, h1, h2, h3, h4⟩ := h
  exact ⟨vs, S.exH _ _ h1, S.fr _ _ h1 (fun _ z => by cases z) h2, h3, Rels.mono S.ex h4⟩
theorem LotsAt.step0 (h : LotsAt K H0 H G d m) (S : Rc [] H G H1 G1) : LotsAt K H0 H1 G1 d m := by
  obtain ⟨⟨as, h1, h2, h3, h4⟩, g, n, kn⟩ := h
  exact ⟨⟨as, S.exH _ _ h1, h2, h3, Paired.imp (fun _ _ x => x.step0 S) h4⟩, S.fr _ _ h1 (fun _ z => by cases z) g, n, kn⟩
theorem LotsAt.new (g : Ex G H) (hd : H d = none) (h0 : H0 d = none) : LotsAt K H0 (upd H d (.dT [])) G d [] := ⟨⟨[], upd_same, List.nodup_nil, by simp, .nil⟩, none_back g hd, h0, List.nodup_nil⟩
theorem LotsAt.keys (h : LotsAt K H0 H G d m) : ∃ kvs, H d = some (.dT kvs) := by
  obtain ⟨⟨as, h1, _⟩, _⟩ := h
  exact ⟨_, h1⟩
theorem LotsAt.frz0 {p : Addr} {vs : List V} (h : LotsAt K H0 H G d []) (hp : H p = some (.lst vs)) : LotsAt K H0 H (upd G p (.lst vs)) d [] := by
  obtain ⟨⟨as, h1, h2, h3, h4⟩, g, n, kn⟩ := h
  cases h4
  have ne : d ≠ p := fun z => by
    rw [z, hp] at h1
    cases h1
  exact ⟨⟨[], h1, h2, h3, .nil⟩, by rw [upd_ne ne]; exact g, n, kn⟩
theorem LotsAt.step1 {p : Addr} {α : Type} [Rep α] {xs : List α} (h : LotsAt K H0 H G d []) (w : Own K H G p xs) (S : Rc [p] H G H1 G1) : LotsAt K H0 H1 G1 d [] := by
  obtain ⟨⟨as, h1, h2, h3, h4⟩, g, n, kn⟩ := h
  cases h4
  obtain ⟨vs, hp, _⟩ := w
  have ne : d ≠ p := fun z => by
    rw [z, hp] at h1
    cases h1
  exact ⟨⟨[], S.keep _ _ (fun z => ne (List.mem_singleton.mp z)) h1, h2, h3, .nil⟩, S.fr _ _ h1 (fun _ z => by cases z) g, n, kn⟩
theorem upd_id {H : Hp} {a : Addr} {o : HO} (h : H a = some o) : upd H a o = H := by
  funext b
  by_cases c : b = a
  · rw [c, upd_same, h]
  · rw [upd_ne c]
/-- some is there: its list grows -/
theorem LotsAt.hit {ms : List Addr} {k : List Int} (h : LotsAt K H0 H G d m) (R : Rc ms H0 G0 H G) (c : k ∈ m.map (·.1)) : ∃ kvs a vs, H d = some (.dT kvs) ∧ kvs.length = m.length ∧ valV kvs (kk k) = some (.ref a) ∧ H a = some (.lst vs) ∧ (∃ q ∈ m, q.2.length = vs.length) ∧
    ∀ w r, Rep.rel K G w r → upd H a (.lst (vs ++ [w])) d = some (.dT kvs) ∧ Rc ms H0 G0 (upd (upd H a (.lst (vs ++ [w]))) d (.dT (putK kvs (kk k) (.ref a)))) G ∧ LotsAt K H0 (upd (upd H a (.lst (vs ++ [w]))) d (.dT (putK kvs (kk k) (.ref a)))) G d (addLot m k r) := by
  obtain ⟨⟨as, h1, h2, h3, h4⟩, g, n, kn⟩ := h
  obtain ⟨a, vs, rs, i1, i2, i3, i4, i5, i6, ⟨q, i7, i8⟩, i9, i10⟩ := lot_hit h4 h2 kn c
  have nda : d ≠ a := fun z => h3 (by rw [z]; exact i1)
  refine ⟨_, a, vs, h1, ?_, i2, i3, ⟨q, i7, by rw [i8]; exact (Paired.len i6).symm⟩, fun w r hw => ?_⟩
  · unfold kvsOf
    rw [List.length_zipWith, Paired.len h4, Nat.min_self]
  obtain ⟨j1, j2⟩ := i10 w r hw
  have hd : upd H a (.lst (vs ++ [w])) d = some (.dT (kvsOf as m)) := by
    rw [upd_ne nda]
    exact h1
  rw [i9, upd_id hd]
  exact ⟨hd, R.write (.inl i5) i4, ⟨as, by rw [j2]; exact hd, h2, h3, j1⟩, g, n, addLot_nodup kn⟩
/-- some is not there: a new list is put -/
theorem LotsAt.miss {ms : List Addr} {k : List Int} {p : Addr} (h : LotsAt K H0 H G d m) (R : Rc ms H0 G0 H G) (c : k ∉ m.map (·.1)) (np : H p = none) (S : Rc [] H G H1 G1) (op : Own K H1 G1 p ([] : List (List Int))) : ∃ kvs, H1 d = some (.dT kvs) ∧ kvs.length = m.length ∧ valV kvs (kk k) = none ∧ H1 p = some (.lst []) ∧
    ∀ w r, Rep.rel K G1 w r → upd H1 p (.lst [w]) d = some (.dT kvs) ∧ Rc ms H0 G0 (upd (upd H1 p (.lst [w])) d (.dT (putK kvs (kk k) (.ref p)))) G1 ∧ LotsAt K H0 (upd (upd H1 p (.lst [w])) d (.dT (putK kvs (kk k) (.ref p)))) G1 d (addLot m k r) := by
  have h' := h.step0 S
  have R' := R.then S
  obtain ⟨⟨as, h1, h2, h3, h4⟩, g, n, kn⟩ := h
  have h1' := S.exH _ _ h1
  have h4' := Paired.imp (fun _ _ x => LR.step0 x S) h4
  have g' := S.fr _ _ h1 (fun _ z => by cases z) g
  have ndp : d ≠ p := fun z => by
    rw [← z, h1] at np
    cases np
  have npa : p ∉ as := by
    have all : ∀ {as : List Addr} {m : Lot}, Paired (LR K H0 H G) as m → p ∉ as := by
      intro as m t
      induction t with
      | nil => exact fun z => nomatch z
      | cons x t ih =>
        intro z
        rcases List.mem_cons.mp z with z | z
        · obtain ⟨vs, q, _⟩ := x
          rw [← z, np] at q
          cases q
        · exact ih z
    exact all h4
  have n0 : H0 p = none := R.back np
  obtain ⟨vs, o1, o2, o3⟩ := op
  cases o3
  have km := kvs_miss (as := as) c
  refine ⟨_, h1', ?_, km, o1, fun w r hw => ?_⟩
  · unfold kvsOf
    rw [List.length_zipWith, Paired.len h4, Nat.min_self]
  have hd : upd H1 p (.lst [w]) d = some (.dT (kvsOf as m)) := by
    rw [upd_ne ndp]
    exact h1'
  have Rp := R'.write (o := .lst [w]) (.inl n0) o2
  rw [putK_new _ km, addLot_miss c, ← kvs_snoc (Paired.len h4)]
  refine ⟨hd, Rp.write (.inl n) g', ⟨as ++ [p], upd_same, ?_, ?_, ?_⟩, g', n, ?_⟩
  · refine List.nodup_append.mpr ⟨h2, by simp, fun a ha b hb => ?_⟩
    rw [List.mem_singleton.mp hb]
    intro z
    rw [z] at ha
    exact npa ha
  · intro z
    rcases List.mem_append.mp z with z | z
    · exact h3 z
    · exact ndp (List.mem_singleton.mp z)
  · refine Paired.append (LRs.upd (LRs.upd h4' npa) h3) (.cons ⟨[w], ?_, o2, n0, .cons hw .nil⟩ .nil)
    rw [upd_ne (Ne.symm ndp), upd_same]
  · have := addLot_nodup (k := k) (r := r) kn
    rw [addLot_miss c] at this
    exact this
/-- all of it may stand for good -/
theorem lists_freeze {ms : List Addr} : ∀ {as : List Addr} {m : Lot} {G : Hp}, Rc ms H0 G0 H G → Paired (LR K H0 H G) as m → as.Nodup → ∃ G', Rc ms H0 G0 H G' ∧ Ex G G' ∧ Paired (LotOf K G') (kvsOf as m) m ∧ ∀ b, b ∉ as → G' b = G b
  | [], [], G, R, .nil, _ => ⟨G, R, Ex.refl G, .nil, fun _ _ => rfl⟩
  | a :: as, q :: m, G, R, .cons ⟨vs, h1, h2, h3, h4⟩ t, nd => by
    obtain ⟨n1, n2⟩ := List.nodup_cons.mp nd
    have t' : Paired (LR K H0 H (upd G a (.lst vs))) as m := by
      have all : ∀ {as : List Addr} {m : Lot}, Paired (LR K H0 H G) as m → a ∉ as → Paired (LR K H0 H (upd G a (.lst vs))) as m := by
        intro as m t
        induction t with
        | nil => exact fun _ => .nil
        | @cons b q' _ _ x t ih =>
          intro n
          obtain ⟨ws, k1, k2, k3, k4⟩ := x
          exact .cons ⟨ws, k1, by rw [upd_ne fun z => n (by rw [z]; exact List.mem_cons_self)]; exact k2, k3, Rels.mono (Ex.new h2) k4⟩ (ih fun z => n (List.mem_cons_of_mem _ z))
      exact all t n1
    obtain ⟨G', r1, r2, r3, r4⟩ := lists_freeze (R.freeze h3 h2 h1) t' n2
    have e := r2 _ _ (show upd G a (.lst vs) a = some (.lst vs) from upd_same)
    refine ⟨G', r1, (Ex.new h2).trans r2, .cons ⟨rfl, a, vs, rfl, e, Rels.mono ((Ex.new h2).trans r2) h4⟩ r3, fun b hb => ?_⟩
    rw [r4 b fun z => hb (List.mem_cons_of_mem _ z), upd_ne fun z => hb (by rw [z]; exact List.mem_cons_self)]
theorem LotsAt.fin {ms : List Addr} (h : LotsAt K H0 H G d m) (R : Rc ms H0 G0 H G) : ∃ kvs, H d = some (.dT kvs) ∧ ∀ o, ∃ G', Rc ms H0 G0 (upd H d (.frz o (.dT kvs))) G' ∧ Rep.rel K G' (.ref d) (Lots.mk m) := by
  obtain ⟨⟨as, h1, h2, h3, h4⟩, g, n, kn⟩ := h
  obtain ⟨G', r1, r2, r3, r4⟩ := lists_freeze R h4 h2
  have g' : G' d = none := by
    rw [r4 d h3]
    exact g
  refine ⟨_, h1, fun o => ⟨upd G' d (.frz o (.dT (kvsOf as m))), (r1.write (o := .frz o (.dT (kvsOf as m))) (.inl n) g').freeze n g' upd_same, d, o, _, rfl, upd_same, ?_⟩⟩
  exact Paired.imp (fun _ _ ⟨q1, q2⟩ => ⟨q1, Rep.mono (Ex.new g') q2⟩) r3
end
def growO (s : Lot × Nat) (k r : List Int) : Option (Lot × Nat) := if s.2 < 100000 then some (addLot s.1 k r, s.2 + 1) else none
def Sz (s : Lot × Nat) : Prop := s.1.length ≤ s.2 ∧ ∀ q ∈ s.1, q.2.length ≤ s.2
theorem sz_len {k r : List Int} : ∀ m : Lot, (addLot m k r).length ≤ m.length + 1 := by
  intro m
  induction m with
  | nil => exact Nat.le_refl _
  | cons p m ih =>
    obtain ⟨p1, p2⟩ := p
    unfold addLot
    by_cases c : p1 = k
    · rw [if_pos c]
      exact Nat.le_succ _
    · rw [if_neg c]
      exact Nat.succ_le_succ ih
theorem sz_add {k r : List Int} : ∀ {m : Lot} {n : Nat}, Sz (m, n) → Sz (addLot m k r, n + 1)
  | [], n, _ => ⟨by show 1 ≤ n + 1; omega, fun q hq => by rw [List.mem_singleton.mp hq]; show 1 ≤ n + 1; omega⟩
  | (q, rs) :: m, n, ⟨h1, h2⟩ => by
    unfold addLot
    by_cases c : q = k
    · rw [if_pos c]
      refine ⟨by show m.length + 1 ≤ n + 1; have : m.length + 1 ≤ n := h1; omega, fun p hp => ?_⟩
      rcases List.mem_cons.mp hp with rfl | hp
      · have := h2 _ List.mem_cons_self
        show (rs ++ [r]).length ≤ n + 1
        rw [List.length_append]
        exact Nat.succ_le_succ this
      · exact Nat.le_succ_of_le (h2 p (List.mem_cons_of_mem _ hp))
    · rw [if_neg c]
      have h1' : m.length + 1 ≤ n := h1
      obtain ⟨n', rfl⟩ : ∃ n', n = n' + 1 := ⟨n - 1, by omega⟩
      have len := sz_len (k := k) (r := r) m
      refine ⟨by show (addLot m k r).length + 1 ≤ n' + 1 + 1; omega, fun p hp => ?_⟩
      rcases List.mem_cons.mp hp with rfl | hp
      · exact Nat.le_succ_of_le (h2 _ List.mem_cons_self)
      · have mem : ∀ (m : Lot), (∀ q ∈ m, q.2.length ≤ n' + 1) → ∀ p ∈ addLot m k r, p.2.length ≤ n' + 1 + 1 := by
          intro m
          induction m with
          | nil =>
            intro _ p hp
            rw [List.mem_singleton.mp hp]
            show 1 ≤ _
            omega
          | cons p0 m ih =>
            obtain ⟨p1, p2⟩ := p0
            intro hh p hp
            unfold addLot at hp
            by_cases c : p1 = k
            · rw [if_pos c] at hp
              rcases List.mem_cons.mp hp with rfl | hp
              · have := hh _ List.mem_cons_self
                show (p2 ++ [r]).length ≤ _
                rw [List.length_append]
                exact Nat.succ_le_succ this
              · exact Nat.le_succ_of_le (hh p (List.mem_cons_of_mem _ hp))
            · rw [if_neg c] at hp
              rcases List.mem_cons.mp hp with rfl | hp
              · exact Nat.le_succ_of_le (hh _ List.mem_cons_self)
              · exact ih (fun q hq => hh q (List.mem_cons_of_mem _ hq)) p hp
        exact mem m (fun q hq => h2 q (List.mem_cons_of_mem _ hq)) p hp
/-- lots as it is walked -/
def lotsW (x : Lots) : Option (List TupI) := if x.m.length ≤ 1000000 then some (x.m.map fun q => TupI.mk q.1) else none
section
variable {X : Cx} {σ : L2.St} {H G : Hp} {a tg : Expr}
theorem ei_lotsW {x : Lots} {items : List TupI} {j : Nat} (h : lotsW x = some items) (ha : EvX X a σ H G x) : EvI X tg a (gName j) σ H G items (rOne X.K j) := by
  obtain ⟨h1, h2⟩ := dite_some h
  subst h2
  exact ei_lots (Nat.le_trans h1 (by decide)) ha
/-- a dict is locked for good -/
theorem wp_varLock {d : Addr} {kvs : List (List Key × V)} {i : Nat} {nm : Str} {pos : Pos} {Q : VK} (hs : σ[i]? = some (some (.ref d))) (hd : H d = some (.dT kvs)) (k : ∀ o, Q (.ref d) (upd H d (.frz o (.dT kvs)))) (hN : X.N[i]? = some nm := by rfl) (hv : Vis X.env.scope nm := by first | exact Or.inl rfl | exact Or.inr (Or.inl rfl) | exact Or.inr (Or.inr rfl))
    (hdb : (nm == ("__debug__" : Str)) = false := by decide) (hcd : (nm == ("__classdict__" : Str)) = false := by decide) : wpE X (.Name nm pos) σ H Q := fun pins s I => by
  obtain ⟨o, I'⟩ := I.lock hd True.intro
  exact wp_var hs (k o) hN hv hdb hcd pins s I'
end
end PX

namespace Cl
open PySem L2 PX
def topS (i : Nat) : Stmt := PySem.Challenge.pw_peakpeel_k07_relations_of_short_rows.main.body.getD i (.Pass ⟨0, 0, 0, 0⟩)

abbrev s_is_an_integer : Stmt := topS 5
theorem sc_is_an_integer : FnScope ["value"] ["value"] (defScope s_is_an_integer) := ⟨rfl, rfl, rfl, by decide +kernel, rfl, by decide +kernel, by decide +kernel⟩
abbrev s_is_within : Stmt := topS 6
theorem sc_is_within : FnScope ["value", "least", "most"] ["value", "least", "most"] (defScope s_is_within) := ⟨rfl, rfl, rfl, by decide +kernel, rfl, by decide +kernel, by decide +kernel⟩
abbrev s_is_row : Stmt := topS 8
theorem sc_is_row : FnScope ["value", "item"] ["value"] (defScope s_is_row) := ⟨rfl, rfl, rfl, by decide +kernel, rfl, by decide +kernel, by decide +kernel⟩
abbrev s_need_place : Stmt := topS 9
theorem sc_need_place : FnScope ["place", "size"] ["place", "size"] (defScope s_need_place) := ⟨rfl, rfl, rfl, by decide +kernel, rfl, by decide +kernel, by decide +kernel⟩
abbrev s_rounds_of : Stmt := topS 10
theorem sc_rounds_of : FnScope ["row", "entries", "rounds", "waiting", "place", "entry", "greatest", "ended"] ["row"] (defScope s_rounds_of) := ⟨rfl, rfl, rfl, by decide +kernel, rfl, by decide +kernel, by decide +kernel⟩
abbrev s_is_times : Stmt := topS 12
theorem sc_is_times : FnScope ["value", "item"] ["value"] (defScope s_is_times) := ⟨rfl, rfl, rfl, by decide +kernel, rfl, by decide +kernel, by decide +kernel⟩
abbrev s_need_times : Stmt := topS 13
theorem sc_need_times : FnScope ["times"] ["times"] (defScope s_need_times) := ⟨rfl, rfl, rfl, by decide +kernel, rfl, by decide +kernel, by decide +kernel⟩
abbrev s_relation : Stmt := topS 14
theorem sc_relation : FnScope ["times", "place", "other", "one", "two", "between"] ["times", "place", "other"] (defScope s_relation) := ⟨rfl, rfl, rfl, by decide +kernel, rfl, by decide +kernel, by decide +kernel⟩
abbrev s_law_times : Stmt := topS 16
theorem sc_law_times : FnScope ["row", "found", "left", "number", "gone", "spot", "place_here", "near", "other"] ["row"] (defScope s_law_times) := ⟨rfl, rfl, rfl, by decide +kernel, rfl, by decide +kernel, by decide +kernel⟩
abbrev s_law_lots : Stmt := topS 17
theorem sc_law_lots : FnScope ["size", "every", "found", "at", "longer", "row", "entry", "some", "mine"] ["size"] (defScope s_law_lots) := ⟨rfl, rfl, rfl, by decide +kernel, rfl, by decide +kernel, by decide +kernel⟩
abbrev s_law_due : Stmt := topS 18
theorem sc_law_due : FnScope ["rows", "one", "two", "less", "row", "greater"] ["rows", "one", "two"] (defScope s_law_due) := ⟨rfl, rfl, rfl, by decide +kernel, rfl, by decide +kernel, by decide +kernel⟩
abbrev s_law : Stmt := topS 19
theorem sc_law : FnScope ["script", "size", "lots", "some", "held", "one", "two"] ["script"] (defScope s_law) := ⟨rfl, rfl, rfl, by decide +kernel, rfl, by decide +kernel, by decide +kernel⟩
/-! ### mirrors -/
def m_is_an_integer (value : Int) : Option Bool :=
  some (true && (!false))
def m_is_within (value : Int) (least : Int) (most : Int) : Option Bool :=
  (Option.bind (m_is_an_integer value) fun t1 => some (t1 && ((decide (least ≤ value)) && (decide (value ≤ most)))))
def m_is_row (value : (List Int)) : Option Bool :=
  (Option.bind (cond true (Option.bind (lcO (fun (x1 : Int) => some true) (fun (x1 : Int) => (Option.bind (m_is_an_integer x1) fun t2 => some t2)) value) fun t3 => some (((t3).all id))) (some false)) fun t4 => some t4)
def m_need_place (place : Int) (size : Int) : Option Unit :=
  (Option.bind (m_is_within place (0 : Int) (size - (1 : Int))) fun t1 => cond (!t1) (none) (some ()))
def m_rounds_of (row : (List Int)) : Option (List Int) :=
  (Option.bind (catO row ([((minD (0 : Int) row) - (1 : Int))] : (List Int))) fun t1 => (Option.bind (repO ([(0 : Int)] : (List Int)) ((t1).length : Int)) fun t3 => (Option.bind (forL (ρ := Unit) (S := ((List Int) × (List Int))) (fun (x9 : (Int × Int)) (s6 : ((List Int) × (List Int))) => (Option.bind (whl (ρ := Unit) (S := (Int × (List Int) × (List Int))) (fun (s11 : (Int × (List Int) × (List Int))) => (Option.bind (cond (!s11.2.2.isEmpty) (Option.bind (ix s11.2.2 (-1 : Int)) fun t27 => (Option.bind (ix t1 t27) fun t28 => some ((decide (x9.2 < t28))))) (some false)) fun t29 => some t29)) (fun (s11 : (Int × (List Int) × (List Int))) => (Option.bind (popO s11.2.2) fun t15 => (Option.bind (ix s11.2.1 t15.1) fun t16 => (Option.bind (cond (!t15.2.isEmpty) (Option.bind (ix t15.2 (-1 : Int)) fun t18 => (Option.bind (ix t1 t18) fun t19 => (Option.bind (ix t1 t15.1) fun t20 => some ((decide (t19 < t20)))))) (some false)) fun t21 => cond t21 ((Option.bind (ix t15.2 (-1 : Int)) fun t23 => (Option.bind (ix s11.2.1 t23) fun t24 => (Option.bind (ix t15.2 (-1 : Int)) fun t25 => (Option.bind (setO s11.2.1 t25 (max t24 ((max s11.1 t16) + (1 : Int)))) fun t26 => some (Ctl.nx ((max s11.1 t16), t26, t15.2))))))) (some (Ctl.nx ((max s11.1 t16), s11.2.1, t15.2))))))) ((s6.2).length + 1) ((0 : Int), s6.1, s6.2)) fun c12 => aft c12 (fun (s11 : (Int × (List Int) × (List Int))) => (Option.bind (setO s11.2.1 x9.1 (s11.1 + (1 : Int))) fun t30 => (Option.bind (appO s11.2.2 x9.1) fun t31 => some (Ctl.nx (t30, t31))))) (fun y => none))) (enumI t1) (t3, ([] : (List Int)))) fun c7 => aft c7 (fun (s6 : ((List Int) × (List Int))) => some (cut s6.1 none (some (-1 : Int)))) (fun y => none))))
def m_is_times (value : (List Int)) : Option Bool :=
  (Option.bind (m_is_row value) fun t1 => (Option.bind (cond t1 (Option.bind (lcO (fun (x2 : Int) => some true) (fun (x2 : Int) => some (-x2)) value) fun t3 => (Option.bind (m_rounds_of t3) fun t4 => some ((eqs t4 value)))) (some false)) fun t5 => some t5))
def m_need_times (times : (List Int)) : Option Unit :=
  (Option.bind (m_is_times times) fun t1 => cond (!t1) (none) (some ()))
def m_relation (times : (List Int)) (place : Int) (other : Int) : Option Str :=
  (Option.bind (m_need_times times) fun t1 => (Option.bind (m_need_place place ((times).length : Int)) fun t3 => (Option.bind (m_need_place other ((times).length : Int)) fun t5 => cond (eqs place other) (none) ((Option.bind (ix times place) fun t8 => (Option.bind (ix times other) fun t10 => cond (decide ((max t8 t10) < (maxD (0 : Int) (cut times (some ((min place other) + (1 : Int))) (some (max place other)))))) (some ("open" : Str)) (cond (eqs t8 t10) (some ("=" : Str)) (some (cond (decide (t10 < t8)) ("<=" : Str) (">=" : Str))))))))))
def m_law_times (row : (List Int)) : Option (List Int) :=
  (Option.bind (repO ([(0 : Int)] : (List Int)) ((row).length : Int)) fun t1 => (Option.bind (rngO 0 ((row).length : Int)) fun t3 => (Option.bind (whl (ρ := Unit) (S := ((List Int) × (List Int) × Int)) (fun (s6 : ((List Int) × (List Int) × Int)) => some (!eqs s6.2.1 ([] : (List Int)))) (fun (s6 : ((List Int) × (List Int) × Int)) => (Option.bind (forL (ρ := Unit) (S := ((List Int))) (fun (x15 : (Int × Int)) (s12 : ((List Int))) => (Option.bind (catO (cut s6.2.1 (some (max (0 : Int) (x15.1 - (1 : Int)))) (some x15.1)) (cut s6.2.1 (some (x15.1 + (1 : Int))) (some (x15.1 + (2 : Int))))) fun t16 => (Option.bind (lcO (fun (x18 : Int) => (Option.bind (ix row x18) fun t19 => (Option.bind (ix row x15.2) fun t20 => some (decide (t20 < t19))))) (fun (x18 : Int) => some x18) t16) fun t21 => cond (eqs t21 ([] : (List Int))) ((Option.bind (appO s12 x15.2) fun t23 => some (Ctl.nx t23))) (some (Ctl.nx s12))))) (enumI s6.2.1) ([] : (List Int))) fun c13 => aft c13 (fun (s12 : ((List Int))) => (Option.bind (forL (ρ := Unit) (S := ((List Int))) (fun (x27 : Int) (s24 : ((List Int))) => (Option.bind (setO s24 x27 (s6.2.2 + (1 : Int))) fun t28 => some (Ctl.nx t28))) s12 s6.1) fun c25 => aft c25 (fun (s24 : ((List Int))) => (Option.bind (lcO (fun (x29 : Int) => some (!decide (x29 ∈ s12))) (fun (x29 : Int) => some x29) s6.2.1) fun t30 => some (Ctl.nx (s24, t30, (s6.2.2 + (1 : Int)))))) (fun y => none))) (fun y => none))) ((row).length + 1) (t1, t3, (0 : Int))) fun c7 => aft c7 (fun (s6 : ((List Int) × (List Int) × Int)) => some s6.1) (fun y => none))))
def m_law_lots (size : Int) : Option Lots :=
  (Option.bind (rngO 0 size) fun t4 => (Option.bind (forL (ρ := Unit) (S := (List (List Int))) (fun (x7 : Int) (s3 : (List (List Int))) => (Option.bind (forL (ρ := Unit) (S := (List (List Int))) (fun (x12 : (List Int)) (s9 : (List (List Int))) => (Option.bind (rngO 0 size) fun t14 => (Option.bind (lcO (fun (x15 : Int) => some true) (fun (x15 : Int) => (Option.bind (catO x12 ([x15] : (List Int))) fun t16 => some t16)) t14) fun t17 => (Option.bind (extO s9 t17) fun t18 => some (Ctl.nx t18))))) s3 ([] : (List (List Int)))) fun c10 => aft c10 (fun (s9 : (List (List Int))) => some (Ctl.nx s9)) (fun y => none))) t4 ([([] : (List Int))] : (List (List Int)))) fun c5 => aft c5 (fun (s3 : (List (List Int))) => (Option.bind (forL (ρ := Unit) (S := (Lot × Nat)) (fun (x25 : (List Int)) (s22 : (Lot × Nat)) => (Option.bind (m_law_times x25) fun t30 => (Option.bind (growO s22 t30 x25) fun t31 => some (Ctl.nx t31)))) s3 ([], 0)) fun c23 => aft c23 (fun (s22 : (Lot × Nat)) => some (Lots.mk s22.1)) (fun y => none))) (fun y => none)))
def m_law_due (rows : (List (List Int))) (one : Int) (two : Int) : Option Str :=
  (Option.bind (lcO (fun (x1 : (List Int)) => (Option.bind (ix x1 one) fun t3 => (Option.bind (ix x1 two) fun t4 => some (decide (t3 < t4))))) (fun (x1 : (List Int)) => some (1 : Int)) rows) fun t5 => (Option.bind (lcO (fun (x7 : (List Int)) => (Option.bind (ix x7 one) fun t9 => (Option.bind (ix x7 two) fun t10 => some (decide (t10 < t9))))) (fun (x7 : (List Int)) => some (1 : Int)) rows) fun t11 => (Option.bind (ix ([([("=" : Str), (">=" : Str)] : (List Str)), ([("<=" : Str), ("open" : Str)] : (List Str))] : (List (List Str))) (if (!eqs t5 ([] : (List Int))) then 1 else 0 : Int)) fun t13 => (Option.bind (ix t13 (if (!eqs t11 ([] : (List Int))) then 1 else 0 : Int)) fun t14 => some t14))))
def m_law (script : Scr) : Option Bool :=
  (Option.bind (rngO (2 : Int) (6 : Int)) fun t2 => (Option.bind (forL (ρ := Bool) (S := Unit) (fun (x5 : Int) (s1 : Unit) => (Option.bind (m_law_lots x5) fun t6 => (Option.bind (lotsW t6) fun t9 => (Option.bind (forL (ρ := Bool) (S := Unit) (fun (x12 : TupI) (s8 : Unit) => (Option.bind (rngO 0 x5) fun t16 => (Option.bind (forL (ρ := Bool) (S := Unit) (fun (x19 : Int) (s15 : Unit) => (Option.bind (rngO 0 x5) fun t21 => (Option.bind (forL (ρ := Bool) (S := Unit) (fun (x24 : Int) (s20 : Unit) => cond (eqs x19 x24) (some (Ctl.nx ())) ((Option.bind (m_relation (x12).l x19 x24) fun t26 => (Option.bind (lotO t6 x12) fun t27 => (Option.bind (m_law_due t27 x19 x24) fun t28 => cond (!eqs t26 t28) (some (Ctl.rt false)) (some (Ctl.nx ()))))))) t21 ()) fun c22 => aft c22 (fun (s20 : Unit) => some (Ctl.nx ())) (fun y => some (Ctl.rt y))))) t16 ()) fun c17 => aft c17 (fun (s15 : Unit) => cond (!eqs (x12).l (x12).l) (some (Ctl.rt false)) (some (Ctl.nx ()))) (fun y => some (Ctl.rt y))))) t9 ()) fun c10 => aft c10 (fun (s8 : Unit) => some (Ctl.nx ())) (fun y => some (Ctl.rt y)))))) t2 ()) fun c3 => aft c3 (fun (s1 : Unit) => (Option.bind (m_relation ([(2 : Int), (1 : Int), (2 : Int)] : (List Int)) (0 : Int) (2 : Int)) fun t33 => (Option.bind (cond (eqs t33 ("=" : Str)) (Option.bind (m_relation ([(1 : Int), (2 : Int), (1 : Int)] : (List Int)) (0 : Int) (2 : Int)) fun t34 => some ((eqs t34 ("open" : Str)))) (some false)) fun t35 => some t35))) (fun y => some y)))
/-! ### the defs keep them -/
section
variable {P : Program} {w : World} {K : PySem.W.Frag} {mg : Str → Option Value} {base : Heap}
theorem ok_is_an_integer {f : Addr} {fd : FuncData} (F : Fun K "is_an_integer" "is_an_integer" s_is_an_integer f fd) (z_isinstance : mg "isinstance" = none) (z_int : mg "int" = none) (z_bool : mg "bool" = none) :
    FnG P w K mg base CX0 1 f fd ["value"] ((spV (fun (w : Int × Unit) => m_is_an_integer w.1)) K) := by
  refine defG F sc_is_an_integer (lenV rfl) (fun cdv A outer s H0 vs Q E hG hr hsp => ?_)
  obtain ⟨G0, wz, r, g0, ra, h, q0⟩ := hsp
  obtain ⟨value, ⟨⟩⟩ := wz
  obtain ⟨_, _, rfl, rfl, rfl⟩ := ra
  have R : Rc [] H0 G0 H0 G0 := Rc.refl g0
  replace h : m_is_an_integer value = some r := h
  unfold m_is_an_integer at h
  clear g0
  refine wb_cons (ws_ret ?_)
  refine EvX.go (ev_andP (ev_isi (N := "int") (r := true) z_isinstance z_int (by decide +kernel) (by decide +kernel) (ev_var (i := 0) (x := (value : Int)) rfl rfl)) (ev_one (ev_not (ev_isi (N := "bool") (r := false) z_isinstance z_bool (by decide +kernel) (by decide +kernel) (ev_var (i := 0) (x := (value : Int)) rfl rfl))))) R.sub (fun v_q1 H G S f_q1 => ?_)
  replace R := R.then S
  obtain rfl : v_q1 = V.bl ((true && (!false))) := f_q1
  obtain rfl := Option.some.inj h
  exact q0 _ _ _ R rfl
theorem ok_is_within {f : Addr} {fd : FuncData} (F : Fun K "is_within" "is_within" s_is_within f fd) (c_is_an_integer : Cal P w K mg base "is_an_integer" 1 ["value"] ((spV (fun (w : Int × Unit) => m_is_an_integer w.1)) K)) :
    FnG P w K mg base CX0 2 f fd ["value", "least", "most"] ((spV (fun (w : Int × Int × Int × Unit) => m_is_within w.1 w.2.1 w.2.2.1)) K) := by
  refine defG F sc_is_within (lenV rfl) (fun cdv A outer s H0 vs Q E hG hr hsp => ?_)
  obtain ⟨G0, wz, r, g0, ra, h, q0⟩ := hsp
  obtain ⟨value, least, most, ⟨⟩⟩ := wz
  obtain ⟨_, _, rfl, rfl, _, _, rfl, rfl, _, _, rfl, rfl, rfl⟩ := ra
  have R : Rc [] H0 G0 H0 G0 := Rc.refl g0
  replace h : m_is_within value least most = some r := h
  unfold m_is_within at h
  clear g0
  refine wb_cons (ws_ret ?_)
  obtain ⟨t1, h_t1, h⟩ := bind_some h
  refine EvX.go (ev_andP (ec_V (w := (value, ())) c_is_an_integer hG hr (by decide) h_t1 (ea_cons (ev_var (i := 0) (x := (value : Int)) rfl rfl) ea_nil)) (ev_one (ev_chain (g := (fun i j => decide (i ≤ j))) (g' := (fun i j => decide (i ≤ j))) op_le op_le (ev_var (i := 1) (x := (least : Int)) rfl rfl) (ev_var (i := 0) (x := (value : Int)) rfl rfl) (ev_var (i := 2) (x := (most : Int)) rfl rfl)))) R.sub (fun v_q2 H G S f_q2 => ?_)
  replace R := R.then S
  obtain rfl : v_q2 = V.bl ((t1 && ((decide (least ≤ value)) && (decide (value ≤ most))))) := f_q2
  obtain rfl := Option.some.inj h
  exact q0 _ _ _ R rfl
theorem ok_is_row {f : Addr} {fd : FuncData} (F : Fun K "is_row" "is_row" s_is_row f fd) (c_is_an_integer : Cal P w K mg base "is_an_integer" 1 ["value"] ((spV (fun (w : Int × Unit) => m_is_an_integer w.1)) K)) (z_isinstance : mg "isinstance" = none) (z_list : mg "list" = none) (z_all : mg "all" = none) :
    FnG P w K mg base CX0 2 f fd ["value"] ((spV (fun (w : (List Int) × Unit) => m_is_row w.1)) K) := by
  refine defG F sc_is_row (lenV rfl) (fun cdv A outer s H0 vs Q E hG hr hsp => ?_)
  obtain ⟨G0, wz, r, g0, ra, h, q0⟩ := hsp
  obtain ⟨value, ⟨⟩⟩ := wz
  obtain ⟨v_value, _, rfl, f_value, rfl⟩ := ra
  have R : Rc [] H0 G0 H0 G0 := Rc.refl g0
  replace h : m_is_row value = some r := h
  unfold m_is_row at h
  clear g0
  refine wb_cons (ws_ret ?_)
  obtain ⟨t4, h_t4, h⟩ := bind_some h
  refine EvX.go (ev_and (t := true) (ev_isi (N := "list") (r := true) z_isinstance z_list (by decide +kernel) (by decide +kernel) (ev_var (i := 0) rfl f_value)) (fun ha => by have hh := cond_t ha h_t4; obtain ⟨t3, h_t3, hh⟩ := bind_some hh; obtain rfl := Option.some.inj hh; exact (ev_one (ev_all rfl z_all (EvN.val (ev_lc (own := [("item", 1)]) (g := (gName 1)) rfl sc_is_row.nd (blkOk_by (own := [("item", 1)]) (N := ["value", "item"]) (sc := defScope s_is_row) (by decide +kernel)) (ei_list (ev_var (i := 0) rfl f_value)) (fun _ _ _ _ _ => (pg_name (i := 1) sc_is_row.nd rfl (by first | exact Or.inl rfl | exact Or.inr rfl))) h_t3 (by rintro x G u ⟨_, _, rfl⟩; rfl) (fun sh Hh C cl fp x1 b u Hc Gc S ru hb => by obtain rfl := Option.some.inj hb; exact ets_nil) (fun sh Hh C cl fp x1 y u Hc Gc S ru hb hy => by obtain ⟨_, rfl, rfl⟩ := ru; obtain ⟨t2, h_t2, hy⟩ := bind_some hy; obtain rfl := Option.some.inj hy; exact (ec_V (w := (x1, ())) c_is_an_integer hG hr (by decide) h_t2 (ea_cons (ev_var (i := 1) (x := (x1 : Int)) rfl rfl) ea_nil)))))))) (fun ha => (Option.some.inj (cond_f ha h_t4)).symm)) R.sub (fun v_q5 H G S f_q5 => ?_)
  replace R := R.then S; replace f_value := Rep.mono S.ex f_value
  obtain rfl : v_q5 = V.bl (t4) := f_q5
  obtain rfl := Option.some.inj h
  exact q0 _ _ _ R rfl
theorem ok_need_place {f : Addr} {fd : FuncData} (F : Fun K "need_place" "need_place" s_need_place f fd) (c_is_within : Cal P w K mg base "is_within" 2 ["value", "least", "most"] ((spV (fun (w : Int × Int × Int × Unit) => m_is_within w.1 w.2.1 w.2.2.1)) K)) :
    FnG P w K mg base CX0 3 f fd ["place", "size"] ((spV (fun (w : Int × Int × Unit) => m_need_place w.1 w.2.1)) K) := by
  refine defG F sc_need_place (lenV rfl) (fun cdv A outer s H0 vs Q E hG hr hsp => ?_)
  obtain ⟨G0, wz, r, g0, ra, h, q0⟩ := hsp
  obtain ⟨place, size, ⟨⟩⟩ := wz
  obtain ⟨_, _, rfl, rfl, _, _, rfl, rfl, rfl⟩ := ra
  have R : Rc [] H0 G0 H0 G0 := Rc.refl g0
  replace h : m_need_place place size = some r := h
  unfold m_need_place at h
  clear g0
  refine wb_cons (ws_if ?_)
  obtain ⟨t1, h_t1, h⟩ := bind_some h
  refine EvT.go (et_not (et_val (ec_V (w := (place, (0 : Int), (size - (1 : Int)), ())) c_is_within hG hr (by decide) h_t1 (ea_cons (ev_var (i := 0) (x := (place : Int)) rfl rfl) (ea_cons (ev_int (i := 0)) (ea_cons (ev_sub (ev_var (i := 1) (x := (size : Int)) rfl rfl) (ev_int (i := 1))) ea_nil)))))) R.sub (fun H G S => ?_)
  replace R := R.then S
  rcases cond_some h with ⟨hb, h⟩ | ⟨hb, h⟩
  · refine if_t hb ?_
    cases h
  · refine if_f hb ?_
    refine wb_nil ?_
    refine wb_nil ?_
    obtain rfl := Option.some.inj h
    exact q0 _ _ _ R rfl
theorem ok_rounds_of {f : Addr} {fd : FuncData} (F : Fun K "rounds_of" "rounds_of" s_rounds_of f fd) (z_min : mg "min" = none) (z_len : mg "len" = none) (z_enumerate : mg "enumerate" = none) (z_max : mg "max" = none) :
    FnG P w K mg base CX0 1 f fd ["row"] ((spN (fun (w : (List Int) × Unit) => m_rounds_of w.1)) K) := by
  refine defG F sc_rounds_of (lenN rfl) (fun cdv A outer s H0 vs Q E hG hr hsp => ?_)
  obtain ⟨G0, wz, r, g0, ra, h, q0⟩ := hsp
  obtain ⟨row, ⟨⟩⟩ := wz
  obtain ⟨v_row, _, rfl, f_row, rfl⟩ := ra
  have R : Rc [] H0 G0 H0 G0 := Rc.refl g0
  replace h : m_rounds_of row = some r := h
  unfold m_rounds_of at h
  clear g0
  refine wb_cons (ws_set (i := 1) sc_rounds_of.nd ?_)
  obtain ⟨t1, h_t1, h⟩ := bind_some h
  refine EvN.go (ev_cat h_t1 (ev_var (i := 0) rfl f_row) (EvN.val (ev_lst (α := Int) (el_cons (ev_sub (ev_minD rfl hr.units z_min (ev_var (i := 0) rfl f_row) (ev_int (i := 0))) (ev_int (i := 1))) el_nil) (by show 1 ≤ 100000; decide)))) R.sub (fun p_q2 H G S n_q2 w_q2 => ?_)
  replace n_q2 := R.back n_q2
  replace R := R.then S; replace f_row := Rep.mono S.ex f_row
  obtain ⟨vs_q2, hp_q2, np_q2, rp_q2⟩ := w_q2
  replace R := R.freeze n_q2 np_q2 hp_q2; replace f_row := Rep.mono (Ex.new (o := .lst vs_q2) np_q2) f_row; have f_q2 := lend1 np_q2 rp_q2
  have f_entries := f_q2
  refine wb_cons (ws_set (i := 2) sc_rounds_of.nd ?_)
  obtain ⟨t3, h_t3, h⟩ := bind_some h
  refine EvN.go (ev_rep h_t3 (EvN.val (ev_lst (α := Int) (el_cons (ev_int (i := 0)) el_nil) (by show 1 ≤ 100000; decide))) (ev_len z_len (ev_var (i := 1) rfl f_entries))) R.sub (fun p_q4 H G S n_q4 w_q4 => ?_)
  replace n_q4 := R.back n_q4
  replace R := R.then S; replace f_row := Rep.mono S.ex f_row; replace f_entries := Rep.mono S.ex f_entries
  have w_rounds := w_q4; have n_rounds := n_q4
  refine wb_cons (ws_set (i := 3) sc_rounds_of.nd ?_)
  refine EvN.go (ev_lst (α := Int) el_nil (by show 0 ≤ 100000; decide)) R.sub (fun p_q5 H G S n_q5 w_q5 => ?_)
  have ne_rounds_q5 := w_rounds.ne n_q5; replace n_q5 := R.back n_q5
  replace R := R.then S; replace f_row := Rep.mono S.ex f_row; replace f_entries := Rep.mono S.ex f_entries; replace w_rounds := w_rounds.step0 S
  have w_waiting := w_q5; have n_waiting := n_q5; have ne_rounds_waiting := ne_rounds_q5
  obtain ⟨c7, h_c7, h⟩ := bind_some h
  refine wb_cons (ws_for (g := (gTup _ 2 (gCons (gName 4) (gCons (gName 5) gNil)))) PassesOwn.never rfl (ei_enum z_enumerate (ev_var (i := 1) rfl f_entries)) R.sub (pg_tup rfl (pgs_cons (pg_name (i := 4) sc_rounds_of.nd rfl (by first | exact Or.inl rfl | exact Or.inr rfl)) (pgs_cons (pg_name (i := 5) sc_rounds_of.nd rfl (by first | exact Or.inl rfl | exact Or.inr rfl)) pgs_nil))) h_c7 (fun Gs8 s6 σ H G => ∃ (o_ended : Option V) (o_entry : Option V) (o_greatest : Option V) (o_place : Option V) (p_rounds : Addr) (p_waiting : Addr), σ = [some (v_row), some ((V.ref p_q2)), some (V.ref p_rounds), some (V.ref p_waiting), o_place, o_entry, o_greatest, o_ended] ∧ Rc [] H0 G0 H G ∧ Ex Gs8 G ∧ Rep.rel K G v_row row ∧ Rep.rel K G (V.ref p_q2) t1 ∧ Own K H G p_rounds (s6.1 : (List Int)) ∧ H0 p_rounds = none ∧ Own K H G p_waiting (s6.2 : (List Int)) ∧ H0 p_waiting = none ∧ p_rounds ≠ p_waiting) (fun (_ : Unit) (_ : V) (_ : Hp) => False) ?_ ?_ ?_ ?_ ?_)
  · intro H G S
    replace R := R.then S; replace f_row := Rep.mono S.ex f_row; replace f_entries := Rep.mono S.ex f_entries; replace w_rounds := w_rounds.step0 S; replace w_waiting := w_waiting.step0 S
    exact ⟨_, _, _, _, _, _, rfl, R, Ex.refl _, f_row, f_entries, w_rounds, n_rounds, w_waiting, n_waiting, ne_rounds_waiting⟩
  · intro Gs8 s6 σ H G hI
    obtain ⟨o_ended, o_entry, o_greatest, o_place, p_rounds, p_waiting, rfl, R, xGs8, f_row, f_entries, w_rounds, n_rounds, w_waiting, n_waiting, ne_rounds_waiting⟩ := hI
    exact ⟨xGs8, R.sub⟩
  · intro Gs8 s6 σ Hb Gb x9 c' u H G h hI S hu
    obtain ⟨o_ended, o_entry, o_greatest, o_place, p_rounds, p_waiting, rfl, R, xGs8, f_row, f_entries, w_rounds, n_rounds, w_waiting, n_waiting, ne_rounds_waiting⟩ := hI
    replace R := R.then S; replace f_row := Rep.mono S.ex f_row; replace f_entries := Rep.mono S.ex f_entries; replace w_rounds := w_rounds.step0 S; replace w_waiting := w_waiting.step0 S; replace xGs8 := xGs8.trans S.ex
    obtain ⟨_, _, rfl, rfl, rfl⟩ := hu
    refine wb_cons (ws_set (i := 6) sc_rounds_of.nd ?_)
    refine EvX.go (ev_int (i := 0)) R.sub (fun v_q10 H G S f_q10 => ?_)
    replace R := R.then S; replace f_row := Rep.mono S.ex f_row; replace f_entries := Rep.mono S.ex f_entries; replace w_rounds := w_rounds.step0 S; replace w_waiting := w_waiting.step0 S; replace xGs8 := xGs8.trans S.ex
    obtain rfl : v_q10 = V.int ((0 : Int)) := f_q10
    obtain ⟨c12, h_c12, h⟩ := bind_some h
    refine wb_cons (ws_while PassesOwn.never h_c12 (fun s11 σ H G => ∃ (o_ended : Option V) (p_rounds : Addr) (p_waiting : Addr), σ = [some (v_row), some ((V.ref p_q2)), some (V.ref p_rounds), some (V.ref p_waiting), some (V.int (x9.1)), some (V.int (x9.2)), some (V.int (s11.1)), o_ended] ∧ Rc [] H0 G0 H G ∧ Ex Gs8 G ∧ Rep.rel K G v_row row ∧ Rep.rel K G (V.ref p_q2) t1 ∧ Own K H G p_rounds (s11.2.1 : (List Int)) ∧ H0 p_rounds = none ∧ Own K H G p_waiting (s11.2.2 : (List Int)) ∧ H0 p_waiting = none ∧ p_rounds ≠ p_waiting) (fun (_ : Unit) (_ : V) (_ : Hp) => False) ⟨_, _, _, rfl, R, xGs8, f_row, f_entries, w_rounds, n_rounds, w_waiting, n_waiting, ne_rounds_waiting⟩ ?_ ?_ ?_ ?_ ?_)
    · intro s11 σ H G b h hI
      obtain ⟨o_ended, p_rounds, p_waiting, rfl, R, xGs8, f_row, f_entries, w_rounds, n_rounds, w_waiting, n_waiting, ne_rounds_waiting⟩ := hI
      obtain ⟨t29, h_t29, h⟩ := bind_some h
      obtain rfl := Option.some.inj h
      refine EvT.go (by obtain ⟨vs_waiting, hp_waiting, np_waiting, rp_waiting⟩ := w_waiting; refine EvT.lend hp_waiting np_waiting ?_; have f_entries := Rep.mono (Ex.new (o := .lst vs_waiting) np_waiting) f_entries; have l_waiting := lend1 np_waiting rp_waiting; exact (et_w (ew_and (t := (!s11.2.2.isEmpty)) (et_list (ev_var (i := 3) rfl l_waiting)) (fun ha => by have hh := cond_t ha h_t29; obtain ⟨t27, h_t27, hh⟩ := bind_some hh; obtain ⟨t28, h_t28, hh⟩ := bind_some hh; obtain rfl := Option.some.inj hh; exact (ew_and1 (et_gt (ev_ix h_t28 (ev_var (i := 1) rfl f_entries) (ev_ix h_t27 (ev_var (i := 3) rfl l_waiting) (EvX.is (x' := (-1 : Int)) (ev_neg (ev_int (i := 1))) (by decide)))) (ev_var (i := 5) (x := (x9.2 : Int)) rfl rfl)))) (fun ha => (Option.some.inj (cond_f ha h_t29)).symm)))) R.sub (fun H G S => ⟨rfl, G, S⟩)
    · intro s11 σ Ha Ga H G hI S
      obtain ⟨o_ended, p_rounds, p_waiting, rfl, R, xGs8, f_row, f_entries, w_rounds, n_rounds, w_waiting, n_waiting, ne_rounds_waiting⟩ := hI
      replace R := R.then S; replace f_row := Rep.mono S.ex f_row; replace f_entries := Rep.mono S.ex f_entries; replace w_rounds := w_rounds.step0 S; replace w_waiting := w_waiting.step0 S; replace xGs8 := xGs8.trans S.ex
      exact ⟨_, _, _, rfl, R, xGs8, f_row, f_entries, w_rounds, n_rounds, w_waiting, n_waiting, ne_rounds_waiting⟩
    · intro s11 σ H G c' _ h hI
      obtain ⟨o_ended, p_rounds, p_waiting, rfl, R, xGs8, f_row, f_entries, w_rounds, n_rounds, w_waiting, n_waiting, ne_rounds_waiting⟩ := hI
      obtain ⟨t15, h_t15, h⟩ := bind_some h
      refine wb_cons (ws_setpop (i := 3) (j := 7) sc_rounds_of.nd rfl R.sub w_waiting h_t15 (fun v_ended H G KK S w_waiting' f_ended => ?_))
      have R := KK _ _ _ R (.inl n_waiting)
      replace f_row := Rep.mono S.ex f_row; replace f_entries := Rep.mono S.ex f_entries; replace w_rounds := w_rounds.step S (ne_sing (ne_rounds_waiting)); replace xGs8 := xGs8.trans S.ex
      replace w_waiting := w_waiting'
      obtain rfl : v_ended = V.int (t15.1) := f_ended
      refine wb_cons (ws_set (i := 6) sc_rounds_of.nd ?_)
      obtain ⟨t16, h_t16, h⟩ := bind_some h
      refine EvX.go (by obtain ⟨vs_rounds, hp_rounds, np_rounds, rp_rounds⟩ := w_rounds; refine EvX.lend (γ := Int) hp_rounds np_rounds ?_; have l_rounds := lend1 np_rounds rp_rounds; exact (ev_max2 rfl z_max (ev_var (i := 6) (x := (s11.1 : Int)) rfl rfl) (ev_ix h_t16 (ev_var (i := 2) rfl l_rounds) (ev_var (i := 7) (x := (t15.1 : Int)) rfl rfl)))) R.sub (fun v_q17 H G S f_q17 => ?_)
      replace R := R.then S; replace f_row := Rep.mono S.ex f_row; replace f_entries := Rep.mono S.ex f_entries; replace w_rounds := w_rounds.step0 S; replace w_waiting := w_waiting.step0 S; replace xGs8 := xGs8.trans S.ex
      obtain rfl : v_q17 = V.int ((max s11.1 t16)) := f_q17
      refine wb_cons (ws_if ?_)
      obtain ⟨t21, h_t21, h⟩ := bind_some h
      refine EvT.go (by obtain ⟨vs_waiting, hp_waiting, np_waiting, rp_waiting⟩ := w_waiting; refine EvT.lend hp_waiting np_waiting ?_; have f_entries := Rep.mono (Ex.new (o := .lst vs_waiting) np_waiting) f_entries; have l_waiting := lend1 np_waiting rp_waiting; exact (et_w (ew_and (t := (!t15.2.isEmpty)) (et_list (ev_var (i := 3) rfl l_waiting)) (fun ha => by have hh := cond_t ha h_t21; obtain ⟨t18, h_t18, hh⟩ := bind_some hh; obtain ⟨t19, h_t19, hh⟩ := bind_some hh; obtain ⟨t20, h_t20, hh⟩ := bind_some hh; obtain rfl := Option.some.inj hh; exact (ew_and1 (et_lt (ev_ix h_t19 (ev_var (i := 1) rfl f_entries) (ev_ix h_t18 (ev_var (i := 3) rfl l_waiting) (EvX.is (x' := (-1 : Int)) (ev_neg (ev_int (i := 1))) (by decide)))) (ev_ix h_t20 (ev_var (i := 1) rfl f_entries) (ev_var (i := 7) (x := (t15.1 : Int)) rfl rfl))))) (fun ha => (Option.some.inj (cond_f ha h_t21)).symm)))) R.sub (fun H G S => ?_)
      replace R := R.then S; replace f_row := Rep.mono S.ex f_row; replace f_entries := Rep.mono S.ex f_entries; replace w_rounds := w_rounds.step0 S; replace w_waiting := w_waiting.step0 S; replace xGs8 := xGs8.trans S.ex
      rcases cond_some h with ⟨hb, h⟩ | ⟨hb, h⟩
      · refine if_t hb ?_
        obtain ⟨t23, h_t23, h⟩ := bind_some h
        obtain ⟨t24, h_t24, h⟩ := bind_some h
        obtain ⟨t25, h_t25, h⟩ := bind_some h
        obtain ⟨t26, h_t26, h⟩ := bind_some h
        refine wb_cons (ws_setix (i := 2) rfl R.sub w_rounds h_t26 (by obtain ⟨vs_rounds, hp_rounds, np_rounds, rp_rounds⟩ := w_rounds; obtain ⟨vs_waiting, hp_waiting, np_waiting, rp_waiting⟩ := w_waiting; have nq_waiting : (upd G p_rounds (.lst vs_rounds)) p_waiting = none := ((upd_ne (ne_rounds_waiting.symm)).trans np_waiting); refine EvX.lend (γ := Int) hp_rounds np_rounds ?_; refine EvX.lend (γ := Int) hp_waiting nq_waiting ?_; have l_rounds := Rep.mono (Ex.new (o := .lst vs_waiting) nq_waiting) (lend1 np_rounds rp_rounds); have l_waiting := lend1 nq_waiting (Rels.mono (Ex.new (o := .lst vs_rounds) np_rounds) rp_waiting); exact (ev_max2 rfl z_max (ev_ix h_t24 (ev_var (i := 2) rfl l_rounds) (ev_ix h_t23 (ev_var (i := 3) rfl l_waiting) (EvX.is (x' := (-1 : Int)) (ev_neg (ev_int (i := 1))) (by decide)))) (ev_add (ev_var (i := 6) (x := ((max s11.1 t16) : Int)) rfl rfl) (ev_int (i := 1))))) (by obtain ⟨vs_waiting, hp_waiting, np_waiting, rp_waiting⟩ := w_waiting; refine EvX.lend (γ := Int) hp_waiting np_waiting ?_; have l_waiting := lend1 np_waiting rp_waiting; exact (ev_ix h_t25 (ev_var (i := 3) rfl l_waiting) (EvX.is (x' := (-1 : Int)) (ev_neg (ev_int (i := 1))) (by decide)))) (fun H G KK S w_rounds' => ?_))
        have R := KK _ _ _ R (.inl n_rounds)
        replace f_row := Rep.mono S.ex f_row; replace f_entries := Rep.mono S.ex f_entries; replace w_waiting := w_waiting.step S (ne_sing (ne_rounds_waiting.symm)); replace xGs8 := xGs8.trans S.ex
        replace w_rounds := w_rounds'
        refine wb_nil ?_
        refine wb_nil ?_
        exact ⟨_, _, (Option.some.inj h).symm, ⟨_, _, _, rfl, R, xGs8, f_row, f_entries, w_rounds, n_rounds, w_waiting, n_waiting, ne_rounds_waiting⟩⟩
      · refine if_f hb ?_
        refine wb_nil ?_
        refine wb_nil ?_
        exact ⟨_, _, (Option.some.inj h).symm, ⟨_, _, _, rfl, R, xGs8, f_row, f_entries, w_rounds, n_rounds, w_waiting, n_waiting, ne_rounds_waiting⟩⟩
    · intro s11 σ H G ec hI
      have h := aft_nx ec h
      obtain ⟨o_ended, p_rounds, p_waiting, rfl, R, xGs8, f_row, f_entries, w_rounds, n_rounds, w_waiting, n_waiting, ne_rounds_waiting⟩ := hI
      obtain ⟨t30, h_t30, h⟩ := bind_some h
      refine wb_cons (ws_setix (i := 2) rfl R.sub w_rounds h_t30 (ev_add (ev_var (i := 6) (x := (s11.1 : Int)) rfl rfl) (ev_int (i := 1))) (ev_var (i := 4) (x := (x9.1 : Int)) rfl rfl) (fun H G KK S w_rounds' => ?_))
      have R := KK _ _ _ R (.inl n_rounds)
      replace f_row := Rep.mono S.ex f_row; replace f_entries := Rep.mono S.ex f_entries; replace w_waiting := w_waiting.step S (ne_sing (ne_rounds_waiting.symm)); replace xGs8 := xGs8.trans S.ex
      replace w_rounds := w_rounds'
      obtain ⟨t31, h_t31, h⟩ := bind_some h
      refine wb_cons (ws_app (i := 3) rfl R.sub w_waiting h_t31 (ev_var (i := 4) (x := (x9.1 : Int)) rfl rfl) (fun H G KK S w_waiting' => ?_))
      have R := KK _ _ _ R (.inl n_waiting)
      replace f_row := Rep.mono S.ex f_row; replace f_entries := Rep.mono S.ex f_entries; replace w_rounds := w_rounds.step S (ne_sing (ne_rounds_waiting)); replace xGs8 := xGs8.trans S.ex
      replace w_waiting := w_waiting'
      refine wb_nil ?_
      exact ⟨_, _, (Option.some.inj h).symm, ⟨_, _, _, _, _, _, rfl, R, xGs8, f_row, f_entries, w_rounds, n_rounds, w_waiting, n_waiting, ne_rounds_waiting⟩⟩
    · intro y v H ec hrt
      exact hrt.elim
  · intro Gs8 s6 σ H G ec hI
    have h := aft_nx ec h
    obtain ⟨o_ended, o_entry, o_greatest, o_place, p_rounds, p_waiting, rfl, R, xGs8, f_row, f_entries, w_rounds, n_rounds, w_waiting, n_waiting, ne_rounds_waiting⟩ := hI
    refine wb_cons (ws_ret ?_)
    refine EvN.go (by obtain ⟨vs_rounds, hp_rounds, np_rounds, rp_rounds⟩ := w_rounds; refine EvN.lend (γ := Int) hp_rounds np_rounds ?_; have l_rounds := lend1 np_rounds rp_rounds; exact (ev_slice (ev_var (i := 2) rfl l_rounds) eo_none (eo_some (EvX.is (x' := (-1 : Int)) (ev_neg (ev_int (i := 1))) (by decide))))) R.sub (fun p_q32 H G S n_q32 w_q32 => ?_)
    have ne_rounds_q32 := w_rounds.ne n_q32; have ne_waiting_q32 := w_waiting.ne n_q32; replace n_q32 := R.back n_q32
    replace R := R.then S; replace f_row := Rep.mono S.ex f_row; replace f_entries := Rep.mono S.ex f_entries; replace w_rounds := w_rounds.step0 S; replace w_waiting := w_waiting.step0 S
    obtain rfl := Option.some.inj h
    exact q0 _ _ _ R n_q32 w_q32
  · intro y v H ec hrt
    exact hrt.elim
theorem ok_is_times {f : Addr} {fd : FuncData} (F : Fun K "is_times" "is_times" s_is_times f fd) (c_is_row : Cal P w K mg base "is_row" 2 ["value"] ((spV (fun (w : (List Int) × Unit) => m_is_row w.1)) K)) (c_rounds_of : Cal P w K mg base "rounds_of" 1 ["row"] ((spN (fun (w : (List Int) × Unit) => m_rounds_of w.1)) K)) :
    FnG P w K mg base CX0 3 f fd ["value"] ((spV (fun (w : (List Int) × Unit) => m_is_times w.1)) K) := by
  refine defG F sc_is_times (lenV rfl) (fun cdv A outer s H0 vs Q E hG hr hsp => ?_)
  obtain ⟨G0, wz, r, g0, ra, h, q0⟩ := hsp
  obtain ⟨value, ⟨⟩⟩ := wz
  obtain ⟨v_value, _, rfl, f_value, rfl⟩ := ra
  have R : Rc [] H0 G0 H0 G0 := Rc.refl g0
  replace h : m_is_times value = some r := h
  unfold m_is_times at h
  clear g0
  refine wb_cons (ws_ret ?_)
  obtain ⟨t1, h_t1, h⟩ := bind_some h
  obtain ⟨t5, h_t5, h⟩ := bind_some h
  refine EvX.go (ev_and (t := t1) (ec_V (w := (value, ())) c_is_row hG hr (by decide) h_t1 (ea_cons (ev_var (i := 0) rfl f_value) ea_nil)) (fun ha => by have hh := cond_t ha h_t5; obtain ⟨t3, h_t3, hh⟩ := bind_some hh; obtain ⟨t4, h_t4, hh⟩ := bind_some hh; obtain rfl := Option.some.inj hh; exact (ev_one (ev_eq' (α := (List Int)) hr.units (EvN.val (ec_N (w := (t3, ())) c_rounds_of hG hr (by decide) h_t4 (ea_cons (EvN.val (ev_lc (own := [("item", 1)]) (g := (gName 1)) rfl sc_is_times.nd (blkOk_by (own := [("item", 1)]) (N := ["value", "item"]) (sc := defScope s_is_times) (by decide +kernel)) (ei_list (ev_var (i := 0) rfl f_value)) (fun _ _ _ _ _ => (pg_name (i := 1) sc_is_times.nd rfl (by first | exact Or.inl rfl | exact Or.inr rfl))) h_t3 (by rintro x G u ⟨_, _, rfl⟩; rfl) (fun sh Hh C cl fp x2 b u Hc Gc S ru hb => by obtain rfl := Option.some.inj hb; exact ets_nil) (fun sh Hh C cl fp x2 y u Hc Gc S ru hb hy => by obtain ⟨_, rfl, rfl⟩ := ru; obtain rfl := Option.some.inj hy; exact (ev_neg (ev_var (i := 1) (x := (x2 : Int)) rfl rfl))))) ea_nil))) (ev_var (i := 0) rfl f_value)))) (fun ha => (Option.some.inj (cond_f ha h_t5)).symm)) R.sub (fun v_q6 H G S f_q6 => ?_)
  replace R := R.then S; replace f_value := Rep.mono S.ex f_value
  obtain rfl : v_q6 = V.bl (t5) := f_q6
  obtain rfl := Option.some.inj h
  exact q0 _ _ _ R rfl
theorem ok_need_times {f : Addr} {fd : FuncData} (F : Fun K "need_times" "need_times" s_need_times f fd) (c_is_times : Cal P w K mg base "is_times" 3 ["value"] ((spV (fun (w : (List Int) × Unit) => m_is_times w.1)) K)) :
    FnG P w K mg base CX0 4 f fd ["times"] ((spV (fun (w : (List Int) × Unit) => m_need_times w.1)) K) := by
  refine defG F sc_need_times (lenV rfl) (fun cdv A outer s H0 vs Q E hG hr hsp => ?_)
  obtain ⟨G0, wz, r, g0, ra, h, q0⟩ := hsp
  obtain ⟨times, ⟨⟩⟩ := wz
  obtain ⟨v_times, _, rfl, f_times, rfl⟩ := ra
  have R : Rc [] H0 G0 H0 G0 := Rc.refl g0
  replace h : m_need_times times = some r := h
  unfold m_need_times at h
  clear g0
  refine wb_cons (ws_if ?_)
  obtain ⟨t1, h_t1, h⟩ := bind_some h
  refine EvT.go (et_not (et_val (ec_V (w := (times, ())) c_is_times hG hr (by decide) h_t1 (ea_cons (ev_var (i := 0) rfl f_times) ea_nil)))) R.sub (fun H G S => ?_)
  replace R := R.then S; replace f_times := Rep.mono S.ex f_times
  rcases cond_some h with ⟨hb, h⟩ | ⟨hb, h⟩
  · refine if_t hb ?_
    cases h
  · refine if_f hb ?_
    refine wb_nil ?_
    refine wb_nil ?_
    obtain rfl := Option.some.inj h
    exact q0 _ _ _ R rfl
theorem ok_relation {f : Addr} {fd : FuncData} (F : Fun K "relation" "relation" s_relation f fd) (c_need_times : Cal P w K mg base "need_times" 4 ["times"] ((spV (fun (w : (List Int) × Unit) => m_need_times w.1)) K)) (c_need_place : Cal P w K mg base "need_place" 3 ["place", "size"] ((spV (fun (w : Int × Int × Unit) => m_need_place w.1 w.2.1)) K)) (z_len : mg "len" = none) (z_min : mg "min" = none) (z_max : mg "max" = none) :
    FnG P w K mg base CX0 5 f fd ["times", "place", "other"] ((spV (fun (w : (List Int) × Int × Int × Unit) => m_relation w.1 w.2.1 w.2.2.1)) K) := by
  refine defG F sc_relation (lenV rfl) (fun cdv A outer s H0 vs Q E hG hr hsp => ?_)
  obtain ⟨G0, wz, r, g0, ra, h, q0⟩ := hsp
  obtain ⟨times, place, other, ⟨⟩⟩ := wz
  obtain ⟨v_times, _, rfl, f_times, _, _, rfl, rfl, _, _, rfl, rfl, rfl⟩ := ra
  have R : Rc [] H0 G0 H0 G0 := Rc.refl g0
  replace h : m_relation times place other = some r := h
  unfold m_relation at h
  clear g0
  refine wb_cons (ws_expr ?_)
  obtain ⟨t1, h_t1, h⟩ := bind_some h
  refine EvX.go (ec_V (w := (times, ())) c_need_times hG hr (by decide) h_t1 (ea_cons (ev_var (i := 0) rfl f_times) ea_nil)) R.sub (fun v_q2 H G S f_q2 => ?_)
  replace R := R.then S; replace f_times := Rep.mono S.ex f_times
  obtain rfl : v_q2 = V.non := f_q2
  refine wb_cons (ws_expr ?_)
  obtain ⟨t3, h_t3, h⟩ := bind_some h
  refine EvX.go (ec_V (w := (place, ((times).length : Int), ())) c_need_place hG hr (by decide) h_t3 (ea_cons (ev_var (i := 1) (x := (place : Int)) rfl rfl) (ea_cons (ev_len z_len (ev_var (i := 0) rfl f_times)) ea_nil))) R.sub (fun v_q4 H G S f_q4 => ?_)
  replace R := R.then S; replace f_times := Rep.mono S.ex f_times
  obtain rfl : v_q4 = V.non := f_q4
  refine wb_cons (ws_expr ?_)
  obtain ⟨t5, h_t5, h⟩ := bind_some h
  refine EvX.go (ec_V (w := (other, ((times).length : Int), ())) c_need_place hG hr (by decide) h_t5 (ea_cons (ev_var (i := 2) (x := (other : Int)) rfl rfl) (ea_cons (ev_len z_len (ev_var (i := 0) rfl f_times)) ea_nil))) R.sub (fun v_q6 H G S f_q6 => ?_)
  replace R := R.then S; replace f_times := Rep.mono S.ex f_times
  obtain rfl : v_q6 = V.non := f_q6
  refine wb_cons (ws_if ?_)
  refine EvT.go (et_eq' (α := Int) hr.units (ev_var (i := 1) (x := (place : Int)) rfl rfl) (ev_var (i := 2) (x := (other : Int)) rfl rfl)) R.sub (fun H G S => ?_)
  replace R := R.then S; replace f_times := Rep.mono S.ex f_times
  rcases cond_some h with ⟨hb, h⟩ | ⟨hb, h⟩
  · refine if_t hb ?_
    cases h
  · refine if_f hb ?_
    refine wb_nil ?_
    refine wb_cons (ws_set (i := 3) sc_relation.nd ?_)
    obtain ⟨t8, h_t8, h⟩ := bind_some h
    refine EvX.go (ev_ix h_t8 (ev_var (i := 0) rfl f_times) (ev_var (i := 1) (x := (place : Int)) rfl rfl)) R.sub (fun v_q9 H G S f_q9 => ?_)
    replace R := R.then S; replace f_times := Rep.mono S.ex f_times
    obtain rfl : v_q9 = V.int (t8) := f_q9
    refine wb_cons (ws_set (i := 4) sc_relation.nd ?_)
    obtain ⟨t10, h_t10, h⟩ := bind_some h
    refine EvX.go (ev_ix h_t10 (ev_var (i := 0) rfl f_times) (ev_var (i := 2) (x := (other : Int)) rfl rfl)) R.sub (fun v_q11 H G S f_q11 => ?_)
    replace R := R.then S; replace f_times := Rep.mono S.ex f_times
    obtain rfl : v_q11 = V.int (t10) := f_q11
    refine wb_cons (ws_set (i := 5) sc_relation.nd ?_)
    refine EvN.go (ev_slice (ev_var (i := 0) rfl f_times) (eo_some (ev_add (ev_min2 rfl z_min (ev_var (i := 1) (x := (place : Int)) rfl rfl) (ev_var (i := 2) (x := (other : Int)) rfl rfl)) (ev_int (i := 1)))) (eo_some (ev_max2 rfl z_max (ev_var (i := 1) (x := (place : Int)) rfl rfl) (ev_var (i := 2) (x := (other : Int)) rfl rfl)))) R.sub (fun p_q12 H G S n_q12 w_q12 => ?_)
    replace n_q12 := R.back n_q12
    replace R := R.then S; replace f_times := Rep.mono S.ex f_times
    obtain ⟨vs_q12, hp_q12, np_q12, rp_q12⟩ := w_q12
    replace R := R.freeze n_q12 np_q12 hp_q12; replace f_times := Rep.mono (Ex.new (o := .lst vs_q12) np_q12) f_times; have f_q12 := lend1 np_q12 rp_q12
    have f_between := f_q12
    refine wb_cons (ws_if ?_)
    refine EvT.go (et_lt (ev_max2 rfl z_max (ev_var (i := 3) (x := (t8 : Int)) rfl rfl) (ev_var (i := 4) (x := (t10 : Int)) rfl rfl)) (ev_maxD rfl hr.units z_max (ev_var (i := 5) rfl f_between) (ev_int (i := 0)))) R.sub (fun H G S => ?_)
    replace R := R.then S; replace f_times := Rep.mono S.ex f_times; replace f_between := Rep.mono S.ex f_between
    rcases cond_some h with ⟨hb, h⟩ | ⟨hb, h⟩
    · refine if_t hb ?_
      refine wb_cons (ws_ret ?_)
      refine EvX.go ev_str R.sub (fun v_q14 H G S f_q14 => ?_)
      replace R := R.then S; replace f_times := Rep.mono S.ex f_times; replace f_between := Rep.mono S.ex f_between
      obtain rfl : v_q14 = V.str (("open" : Str)) := f_q14
      obtain rfl := Option.some.inj h
      exact q0 _ _ _ R rfl
    · refine if_f hb ?_
      refine wb_nil ?_
      refine wb_cons (ws_if ?_)
      refine EvT.go (et_eq' (α := Int) hr.units (ev_var (i := 3) (x := (t8 : Int)) rfl rfl) (ev_var (i := 4) (x := (t10 : Int)) rfl rfl)) R.sub (fun H G S => ?_)
      replace R := R.then S; replace f_times := Rep.mono S.ex f_times; replace f_between := Rep.mono S.ex f_between
      rcases cond_some h with ⟨hb, h⟩ | ⟨hb, h⟩
      · refine if_t hb ?_
        refine wb_cons (ws_ret ?_)
        refine EvX.go ev_str R.sub (fun v_q16 H G S f_q16 => ?_)
        replace R := R.then S; replace f_times := Rep.mono S.ex f_times; replace f_between := Rep.mono S.ex f_between
        obtain rfl : v_q16 = V.str (("=" : Str)) := f_q16
        obtain rfl := Option.some.inj h
        exact q0 _ _ _ R rfl
      · refine if_f hb ?_
        refine wb_nil ?_
        refine wb_cons (ws_ret ?_)
        refine EvX.go (ev_ifP (et_gt (ev_var (i := 3) (x := (t8 : Int)) rfl rfl) (ev_var (i := 4) (x := (t10 : Int)) rfl rfl)) ev_str ev_str) R.sub (fun v_q17 H G S f_q17 => ?_)
        replace R := R.then S; replace f_times := Rep.mono S.ex f_times; replace f_between := Rep.mono S.ex f_between
        obtain rfl : v_q17 = V.str ((cond (decide (t10 < t8)) ("<=" : Str) (">=" : Str))) := f_q17
        obtain rfl := Option.some.inj h
        exact q0 _ _ _ R rfl
theorem ok_law_times {f : Addr} {fd : FuncData} (F : Fun K "_law_times" "_law_times" s_law_times f fd) (z_len : mg "len" = none) (z_list : mg "list" = none) (z_range : mg "range" = none) (z_enumerate : mg "enumerate" = none) (z_max : mg "max" = none) :
    FnG P w K mg base CX0 1 f fd ["row"] ((spN (fun (w : (List Int) × Unit) => m_law_times w.1)) K) := by
  refine defG F sc_law_times (lenN rfl) (fun cdv A outer s H0 vs Q E hG hr hsp => ?_)
  obtain ⟨G0, wz, r, g0, ra, h, q0⟩ := hsp
  obtain ⟨row, ⟨⟩⟩ := wz
  obtain ⟨v_row, _, rfl, f_row, rfl⟩ := ra
  have R : Rc [] H0 G0 H0 G0 := Rc.refl g0
  replace h : m_law_times row = some r := h
  unfold m_law_times at h
  clear g0
  refine wb_cons (ws_par3 (i := 1) (j := 2) (l := 3) rfl sc_law_times.nd ?_)
  refine wpA_cons ?_
  obtain ⟨t1, h_t1, h⟩ := bind_some h
  refine EvN.go (ev_rep h_t1 (EvN.val (ev_lst (α := Int) (el_cons (ev_int (i := 0)) el_nil) (by show 1 ≤ 100000; decide))) (ev_len z_len (ev_var (i := 0) rfl f_row))) R.sub (fun p_q2 H G S n_q2 w_q2 => ?_)
  replace n_q2 := R.back n_q2
  replace R := R.then S; replace f_row := Rep.mono S.ex f_row
  refine wpA_cons ?_
  obtain ⟨t3, h_t3, h⟩ := bind_some h
  refine EvN.go (ev_listRng1 rfl z_list z_range h_t3 (ev_len z_len (ev_var (i := 0) rfl f_row))) R.sub (fun p_q4 H G S n_q4 w_q4 => ?_)
  have ne_q2_q4 := w_q2.ne n_q4; replace n_q4 := R.back n_q4
  replace R := R.then S; replace f_row := Rep.mono S.ex f_row; replace w_q2 := w_q2.step0 S
  refine wpA_cons ?_
  refine EvX.go (ev_int (i := 0)) R.sub (fun v_q5 H G S f_q5 => ?_)
  replace R := R.then S; replace f_row := Rep.mono S.ex f_row; replace w_q2 := w_q2.step0 S; replace w_q4 := w_q4.step0 S
  obtain rfl : v_q5 = V.int ((0 : Int)) := f_q5
  refine wpA_nil ?_
  refine ⟨_, _, _, rfl, ?_⟩
  have w_found := w_q2; have n_found := n_q2; have ne_q4_found := ne_q2_q4.symm
  obtain ⟨vs_q4, hp_q4, np_q4, rp_q4⟩ := w_q4
  replace R := R.freeze n_q4 np_q4 hp_q4; replace f_row := Rep.mono (Ex.new (o := .lst vs_q4) np_q4) f_row; replace w_found := w_found.frz (o := .lst vs_q4) np_q4 (ne_q4_found.symm); have f_q4 := lend1 np_q4 rp_q4
  have f_left := f_q4
  obtain ⟨c7, h_c7, h⟩ := bind_some h
  refine wb_cons (ws_while PassesOwn.never h_c7 (fun s6 σ H G => ∃ (o_gone : Option V) (o_near : Option V) (o_place_here : Option V) (o_spot : Option V) (p_found : Addr) (v_left : V), σ = [some (v_row), some (V.ref p_found), some (v_left), some (V.int (s6.2.2)), o_gone, o_spot, o_place_here, o_near, none] ∧ Rc [] H0 G0 H G ∧ Rep.rel K G v_row row ∧ Own K H G p_found (s6.1 : (List Int)) ∧ H0 p_found = none ∧ Rep.rel K G v_left s6.2.1) (fun (_ : Unit) (_ : V) (_ : Hp) => False) ⟨_, _, _, _, _, _, rfl, R, f_row, w_found, n_found, f_left⟩ ?_ ?_ ?_ ?_ ?_)
  · intro s6 σ H G b h hI
    obtain ⟨o_gone, o_near, o_place_here, o_spot, p_found, v_left, rfl, R, f_row, w_found, n_found, f_left⟩ := hI
    obtain rfl := Option.some.inj h
    refine EvT.go (et_ne' (α := (List Int)) hr.units (ev_var (i := 2) rfl f_left) (EvN.val (ev_lst (α := Int) el_nil (by show 0 ≤ 100000; decide)))) R.sub (fun H G S => ⟨rfl, G, S⟩)
  · intro s6 σ Ha Ga H G hI S
    obtain ⟨o_gone, o_near, o_place_here, o_spot, p_found, v_left, rfl, R, f_row, w_found, n_found, f_left⟩ := hI
    replace R := R.then S; replace f_row := Rep.mono S.ex f_row; replace f_left := Rep.mono S.ex f_left; replace w_found := w_found.step0 S
    exact ⟨_, _, _, _, _, _, rfl, R, f_row, w_found, n_found, f_left⟩
  · intro s6 σ H G c' _ h hI
    obtain ⟨o_gone, o_near, o_place_here, o_spot, p_found, v_left, rfl, R, f_row, w_found, n_found, f_left⟩ := hI
    refine wb_cons (ws_tup2 (i := 3) (j := 4) rfl sc_law_times.nd ?_)
    refine wpA_cons ?_
    refine EvX.go (ev_add (ev_var (i := 3) (x := (s6.2.2 : Int)) rfl rfl) (ev_int (i := 1))) R.sub (fun v_q10 H G S f_q10 => ?_)
    replace R := R.then S; replace f_row := Rep.mono S.ex f_row; replace f_left := Rep.mono S.ex f_left; replace w_found := w_found.step0 S
    obtain rfl : v_q10 = V.int ((s6.2.2 + (1 : Int))) := f_q10
    refine wpA_cons ?_
    refine EvN.go (ev_lst (α := Int) el_nil (by show 0 ≤ 100000; decide)) R.sub (fun p_q11 H G S n_q11 w_q11 => ?_)
    have ne_found_q11 := w_found.ne n_q11; replace n_q11 := R.back n_q11
    replace R := R.then S; replace f_row := Rep.mono S.ex f_row; replace f_left := Rep.mono S.ex f_left; replace w_found := w_found.step0 S
    refine wpA_nil ?_
    refine ⟨_, _, rfl, fun d_ nd_ => ?_⟩
    have S := Rc.new (m := []) (o := .tup [V.int ((s6.2.2 + (1 : Int))), (V.ref p_q11)]) R.sub nd_
    replace R := R.then S; replace f_row := Rep.mono S.ex f_row; replace f_left := Rep.mono S.ex f_left; replace w_found := w_found.step0 S; replace w_q11 := w_q11.step0 S
    have w_gone := w_q11; have n_gone := n_q11; have ne_found_gone := ne_found_q11
    obtain ⟨c13, h_c13, h⟩ := bind_some h
    refine wb_cons (ws_for (g := (gTup _ 2 (gCons (gName 5) (gCons (gName 6) gNil)))) PassesOwn.never rfl (ei_enum z_enumerate (ev_var (i := 2) rfl f_left)) R.sub (pg_tup rfl (pgs_cons (pg_name (i := 5) sc_law_times.nd rfl (by first | exact Or.inl rfl | exact Or.inr rfl)) (pgs_cons (pg_name (i := 6) sc_law_times.nd rfl (by first | exact Or.inl rfl | exact Or.inr rfl)) pgs_nil))) h_c13 (fun Gs14 s12 σ H G => ∃ (o_near : Option V) (o_place_here : Option V) (o_spot : Option V) (p_gone : Addr), σ = [some (v_row), some (V.ref p_found), some (v_left), some (V.int ((s6.2.2 + (1 : Int)))), some (V.ref p_gone), o_spot, o_place_here, o_near, none] ∧ Rc [] H0 G0 H G ∧ Ex Gs14 G ∧ Rep.rel K G v_row row ∧ Own K H G p_found (s6.1 : (List Int)) ∧ H0 p_found = none ∧ Rep.rel K G v_left s6.2.1 ∧ Own K H G p_gone (s12 : (List Int)) ∧ H0 p_gone = none ∧ p_found ≠ p_gone) (fun (_ : Unit) (_ : V) (_ : Hp) => False) ?_ ?_ ?_ ?_ ?_)
    · intro H G S
      replace R := R.then S; replace f_row := Rep.mono S.ex f_row; replace f_left := Rep.mono S.ex f_left; replace w_found := w_found.step0 S; replace w_gone := w_gone.step0 S
      exact ⟨_, _, _, _, rfl, R, Ex.refl _, f_row, w_found, n_found, f_left, w_gone, n_gone, ne_found_gone⟩
    · intro Gs14 s12 σ H G hI
      obtain ⟨o_near, o_place_here, o_spot, p_gone, rfl, R, xGs14, f_row, w_found, n_found, f_left, w_gone, n_gone, ne_found_gone⟩ := hI
      exact ⟨xGs14, R.sub⟩
    · intro Gs14 s12 σ Hb Gb x15 c' u H G h hI S hu
      obtain ⟨o_near, o_place_here, o_spot, p_gone, rfl, R, xGs14, f_row, w_found, n_found, f_left, w_gone, n_gone, ne_found_gone⟩ := hI
      replace R := R.then S; replace f_row := Rep.mono S.ex f_row; replace f_left := Rep.mono S.ex f_left; replace w_found := w_found.step0 S; replace w_gone := w_gone.step0 S; replace xGs14 := xGs14.trans S.ex
      obtain ⟨_, _, rfl, rfl, rfl⟩ := hu
      refine wb_cons (ws_set (i := 7) sc_law_times.nd ?_)
      obtain ⟨t16, h_t16, h⟩ := bind_some h
      refine EvN.go (ev_cat h_t16 (EvN.val (ev_slice (ev_var (i := 2) rfl f_left) (eo_some (ev_max2 rfl z_max (ev_int (i := 0)) (ev_sub (ev_var (i := 5) (x := (x15.1 : Int)) rfl rfl) (ev_int (i := 1))))) (eo_some (ev_var (i := 5) (x := (x15.1 : Int)) rfl rfl)))) (EvN.val (ev_slice (ev_var (i := 2) rfl f_left) (eo_some (ev_add (ev_var (i := 5) (x := (x15.1 : Int)) rfl rfl) (ev_int (i := 1)))) (eo_some (ev_add (ev_var (i := 5) (x := (x15.1 : Int)) rfl rfl) (ev_int (i := 2))))))) R.sub (fun p_q17 H G S n_q17 w_q17 => ?_)
      have ne_found_q17 := w_found.ne n_q17; have ne_gone_q17 := w_gone.ne n_q17; replace n_q17 := R.back n_q17
      replace R := R.then S; replace f_row := Rep.mono S.ex f_row; replace f_left := Rep.mono S.ex f_left; replace w_found := w_found.step0 S; replace w_gone := w_gone.step0 S; replace xGs14 := xGs14.trans S.ex
      obtain ⟨vs_q17, hp_q17, np_q17, rp_q17⟩ := w_q17
      replace R := R.freeze n_q17 np_q17 hp_q17; replace f_row := Rep.mono (Ex.new (o := .lst vs_q17) np_q17) f_row; replace f_left := Rep.mono (Ex.new (o := .lst vs_q17) np_q17) f_left; replace w_found := w_found.frz (o := .lst vs_q17) np_q17 (ne_found_q17); replace w_gone := w_gone.frz (o := .lst vs_q17) np_q17 (ne_gone_q17); replace xGs14 := xGs14.trans (Ex.new (o := .lst vs_q17) np_q17); have f_q17 := lend1 np_q17 rp_q17
      have f_near := f_q17
      refine wb_cons (ws_if ?_)
      obtain ⟨t21, h_t21, h⟩ := bind_some h
      refine EvT.go (et_eq' (α := (List Int)) hr.units (EvN.val (ev_lc (own := [("other", 8)]) (g := (gName 8)) rfl sc_law_times.nd (blkOk_by (own := [("other", 8)]) (N := ["row", "found", "left", "number", "gone", "spot", "place_here", "near", "other"]) (sc := defScope s_law_times) (by decide +kernel)) (ei_list (ev_var (i := 7) rfl f_near)) (fun _ _ _ _ _ => (pg_name (i := 8) sc_law_times.nd rfl (by first | exact Or.inl rfl | exact Or.inr rfl))) h_t21 (by rintro x G u ⟨_, _, rfl⟩; rfl) (fun sh Hh C cl fp x18 b u Hc Gc S ru hb => by obtain ⟨_, rfl, rfl⟩ := ru; have f_row := Rep.mono S.ex f_row; obtain ⟨t19, h_t19, hb⟩ := bind_some hb; obtain ⟨t20, h_t20, hb⟩ := bind_some hb; obtain rfl := Option.some.inj hb; exact ets_one (et_gt (ev_ix h_t19 (ev_var (i := 0) rfl f_row) (ev_var (i := 8) (x := (x18 : Int)) rfl rfl)) (ev_ix h_t20 (ev_var (i := 0) rfl f_row) (ev_var (i := 6) (x := (x15.2 : Int)) rfl rfl)))) (fun sh Hh C cl fp x18 y u Hc Gc S ru hb hy => by obtain ⟨_, rfl, rfl⟩ := ru; obtain rfl := Option.some.inj hy; exact (ev_var (i := 8) (x := (x18 : Int)) rfl rfl)))) (EvN.val (ev_lst (α := Int) el_nil (by show 0 ≤ 100000; decide)))) R.sub (fun H G S => ?_)
      replace R := R.then S; replace f_row := Rep.mono S.ex f_row; replace f_left := Rep.mono S.ex f_left; replace f_near := Rep.mono S.ex f_near; replace w_found := w_found.step0 S; replace w_gone := w_gone.step0 S; replace xGs14 := xGs14.trans S.ex
      rcases cond_some h with ⟨hb, h⟩ | ⟨hb, h⟩
      · refine if_t hb ?_
        obtain ⟨t23, h_t23, h⟩ := bind_some h
        refine wb_cons (ws_app (i := 4) rfl R.sub w_gone h_t23 (ev_var (i := 6) (x := (x15.2 : Int)) rfl rfl) (fun H G KK S w_gone' => ?_))
        have R := KK _ _ _ R (.inl n_gone)
        replace f_row := Rep.mono S.ex f_row; replace f_left := Rep.mono S.ex f_left; replace f_near := Rep.mono S.ex f_near; replace w_found := w_found.step S (ne_sing (ne_found_gone)); replace xGs14 := xGs14.trans S.ex
        replace w_gone := w_gone'
        refine wb_nil ?_
        refine wb_nil ?_
        exact ⟨_, _, (Option.some.inj h).symm, ⟨_, _, _, _, rfl, R, xGs14, f_row, w_found, n_found, f_left, w_gone, n_gone, ne_found_gone⟩⟩
      · refine if_f hb ?_
        refine wb_nil ?_
        refine wb_nil ?_
        exact ⟨_, _, (Option.some.inj h).symm, ⟨_, _, _, _, rfl, R, xGs14, f_row, w_found, n_found, f_left, w_gone, n_gone, ne_found_gone⟩⟩
    · intro Gs14 s12 σ H G ec hI
      have h := aft_nx ec h
      obtain ⟨o_near, o_place_here, o_spot, p_gone, rfl, R, xGs14, f_row, w_found, n_found, f_left, w_gone, n_gone, ne_found_gone⟩ := hI
      obtain ⟨vs_gone, hp_gone, np_gone, rp_gone⟩ := w_gone
      replace R := R.freeze n_gone np_gone hp_gone; replace f_row := Rep.mono (Ex.new (o := .lst vs_gone) np_gone) f_row; replace f_left := Rep.mono (Ex.new (o := .lst vs_gone) np_gone) f_left; replace w_found := w_found.frz (o := .lst vs_gone) np_gone (ne_found_gone); have f_gone := lend1 np_gone rp_gone
      obtain ⟨c25, h_c25, h⟩ := bind_some h
      refine wb_cons (ws_for (g := (gName 6)) PassesOwn.never rfl (ei_list (ev_var (i := 4) rfl f_gone)) R.sub (pg_name (i := 6) sc_law_times.nd rfl (by first | exact Or.inl rfl | exact Or.inr rfl)) h_c25 (fun Gs26 s24 σ H G => ∃ (o_place_here : Option V) (p_found : Addr), σ = [some (v_row), some (V.ref p_found), some (v_left), some (V.int ((s6.2.2 + (1 : Int)))), some ((V.ref p_gone)), o_spot, o_place_here, o_near, none] ∧ Rc [] H0 G0 H G ∧ Ex Gs26 G ∧ Rep.rel K G v_row row ∧ Own K H G p_found (s24 : (List Int)) ∧ H0 p_found = none ∧ Rep.rel K G v_left s6.2.1 ∧ Rep.rel K G (V.ref p_gone) s12) (fun (_ : Unit) (_ : V) (_ : Hp) => False) ?_ ?_ ?_ ?_ ?_)
      · intro H G S
        replace R := R.then S; replace f_row := Rep.mono S.ex f_row; replace f_left := Rep.mono S.ex f_left; replace f_gone := Rep.mono S.ex f_gone; replace w_found := w_found.step0 S
        exact ⟨_, _, rfl, R, Ex.refl _, f_row, w_found, n_found, f_left, f_gone⟩
      · intro Gs26 s24 σ H G hI
        obtain ⟨o_place_here, p_found, rfl, R, xGs26, f_row, w_found, n_found, f_left, f_gone⟩ := hI
        exact ⟨xGs26, R.sub⟩
      · intro Gs26 s24 σ Hb Gb x27 c' u H G h hI S hu
        obtain ⟨o_place_here, p_found, rfl, R, xGs26, f_row, w_found, n_found, f_left, f_gone⟩ := hI
        replace R := R.then S; replace f_row := Rep.mono S.ex f_row; replace f_left := Rep.mono S.ex f_left; replace f_gone := Rep.mono S.ex f_gone; replace w_found := w_found.step0 S; replace xGs26 := xGs26.trans S.ex
        obtain ⟨_, rfl, rfl⟩ := hu
        obtain ⟨t28, h_t28, h⟩ := bind_some h
        refine wb_cons (ws_setix (i := 1) rfl R.sub w_found h_t28 (ev_var (i := 3) (x := ((s6.2.2 + (1 : Int)) : Int)) rfl rfl) (ev_var (i := 6) (x := (x27 : Int)) rfl rfl) (fun H G KK S w_found' => ?_))
        have R := KK _ _ _ R (.inl n_found)
        replace f_row := Rep.mono S.ex f_row; replace f_left := Rep.mono S.ex f_left; replace f_gone := Rep.mono S.ex f_gone; replace xGs26 := xGs26.trans S.ex
        replace w_found := w_found'
        refine wb_nil ?_
        exact ⟨_, _, (Option.some.inj h).symm, ⟨_, _, rfl, R, xGs26, f_row, w_found, n_found, f_left, f_gone⟩⟩
      · intro Gs26 s24 σ H G ec hI
        have h := aft_nx ec h
        obtain ⟨o_place_here, p_found, rfl, R, xGs26, f_row, w_found, n_found, f_left, f_gone⟩ := hI
        obtain ⟨t30, h_t30, h⟩ := bind_some h
        refine wb_cons (ws_setLc (i := 2) (own := [("place_here", 6)]) (g := (gName 6)) rfl sc_law_times.nd (blkOk_by (own := [("place_here", 6)]) (N := ["row", "found", "left", "number", "gone", "spot", "place_here", "near", "other"]) (sc := defScope s_law_times) (by decide +kernel)) (ei_list (ev_var (i := 2) rfl f_left)) R.sub (fun _ _ _ _ _ => (pg_name (i := 6) sc_law_times.nd rfl (by first | exact Or.inl rfl | exact Or.inr rfl))) h_t30 (by rintro x G u ⟨_, _, rfl⟩; rfl) (fun sh Hh C cl fp x29 b u Hc Gc S ru hb => by obtain ⟨_, rfl, rfl⟩ := ru; have f_gone := Rep.mono S.ex f_gone; obtain rfl := Option.some.inj hb; exact ets_one (et_nin (ev_var (i := 6) (x := (x29 : Int)) rfl rfl) (ev_var (i := 4) rfl f_gone))) (fun sh Hh C cl fp x29 y u Hc Gc S ru hb hy => by obtain ⟨_, rfl, rfl⟩ := ru; obtain rfl := Option.some.inj hy; exact (ev_var (i := 6) (x := (x29 : Int)) rfl rfl)) (fun p_q31 H G S n_q31 w_q31 => ?_))
        have ne_found_q31 := w_found.ne n_q31; replace n_q31 := R.back n_q31
        replace R := R.then S; replace f_row := Rep.mono S.ex f_row; replace f_left := Rep.mono S.ex f_left; replace f_gone := Rep.mono S.ex f_gone; replace w_found := w_found.step0 S
        obtain ⟨vs_q31, hp_q31, np_q31, rp_q31⟩ := w_q31
        replace R := R.freeze n_q31 np_q31 hp_q31; replace f_row := Rep.mono (Ex.new (o := .lst vs_q31) np_q31) f_row; replace f_left := Rep.mono (Ex.new (o := .lst vs_q31) np_q31) f_left; replace f_gone := Rep.mono (Ex.new (o := .lst vs_q31) np_q31) f_gone; replace w_found := w_found.frz (o := .lst vs_q31) np_q31 (ne_found_q31); have f_q31 := lend1 np_q31 rp_q31
        have f_left := f_q31
        refine wb_nil ?_
        exact ⟨_, _, (Option.some.inj h).symm, ⟨_, _, _, _, _, _, rfl, R, f_row, w_found, n_found, f_left⟩⟩
      · intro y v H ec hrt
        exact hrt.elim
    · intro y v H ec hrt
      exact hrt.elim
  · intro s6 σ H G ec hI
    have h := aft_nx ec h
    obtain ⟨o_gone, o_near, o_place_here, o_spot, p_found, v_left, rfl, R, f_row, w_found, n_found, f_left⟩ := hI
    refine wb_cons (ws_ret (wp_var (i := 1) rfl ?_))
    obtain rfl := Option.some.inj h
    exact q0 _ _ _ R n_found w_found
  · intro y v H ec hrt
    exact hrt.elim
theorem ok_law_lots {f : Addr} {fd : FuncData} (F : Fun K "_law_lots" "_law_lots" s_law_lots f fd) (c_law_times : Cal P w K mg base "_law_times" 1 ["row"] ((spN (fun (w : (List Int) × Unit) => m_law_times w.1)) K)) (z_range : mg "range" = none) (z_tuple : mg "tuple" = none) :
    FnG P w K mg base CX0 2 f fd ["size"] ((spV (fun (w : Int × Unit) => m_law_lots w.1)) K) := by
  refine defG F sc_law_lots (lenV rfl) (fun cdv A outer s H0 vs Q E hG hr hsp => ?_)
  obtain ⟨G0, wz, r, g0, ra, h, q0⟩ := hsp
  obtain ⟨size, ⟨⟩⟩ := wz
  obtain ⟨_, _, rfl, rfl, rfl⟩ := ra
  have R : Rc [] H0 G0 H0 G0 := Rc.refl g0
  replace h : m_law_lots size = some r := h
  unfold m_law_lots at h
  clear g0
  refine wb_cons (ws_par (i := 1) (j := 2) rfl sc_law_lots.nd ?_)
  refine wpA_cons ?_
  refine EvN.go (ev_lst (α := (List Int)) (el_cons (EvN.val (ev_lst (α := Int) el_nil (by show 0 ≤ 100000; decide))) el_nil) (by show 1 ≤ 100000; decide)) R.sub (fun p_q1 H G S n_q1 w_q1 => ?_)
  replace n_q1 := R.back n_q1
  replace R := R.then S
  refine wpA_cons ?_
  refine toE pe_dnewT (fun d_found nd_found => ?_)
  have L : LotsAt K H0 (upd H d_found (.dT [])) G d_found [] := LotsAt.new R.sub nd_found (R.back nd_found)
  have S2 : Rc [] H G (upd H d_found (.dT [])) G := Rc.new R.sub nd_found
  replace R := R.then S2; replace w_q1 := w_q1.step0 S2
  refine wpA_nil ?_
  refine ⟨_, _, rfl, ?_⟩
  have w_every := w_q1; have n_every := n_q1
  obtain ⟨t4, h_t4, h⟩ := bind_some h
  obtain ⟨c5, h_c5, h⟩ := bind_some h
  refine wb_cons (ws_for (g := (gName 3)) PassesOwn.never rfl (ei_rng1 z_range h_t4 (ev_var (i := 0) (x := (size : Int)) rfl rfl)) R.sub (pg_name (i := 3) sc_law_lots.nd rfl (by first | exact Or.inl rfl | exact Or.inr rfl)) h_c5 (fun Gs6 s3 σ H G => ∃ (o_at : Option V) (o_longer : Option V) (o_row : Option V) (p_every : Addr), σ = [some (V.int (size)), some (V.ref p_every), some (V.ref d_found), o_at, o_longer, o_row, none, none, none] ∧ Rc [] H0 G0 H G ∧ Ex Gs6 G ∧ Own K H G p_every (s3 : (List (List Int))) ∧ H0 p_every = none ∧ LotsAt K H0 H G d_found []) (fun (_ : Unit) (_ : V) (_ : Hp) => False) ?_ ?_ ?_ ?_ ?_)
  · intro H G S
    replace R := R.then S; replace w_every := w_every.step0 S; replace L := L.step0 S
    exact ⟨_, _, _, _, rfl, R, Ex.refl _, w_every, n_every, L⟩
  · intro Gs6 s3 σ H G hI
    obtain ⟨o_at, o_longer, o_row, p_every, rfl, R, xGs6, w_every, n_every, L⟩ := hI
    exact ⟨xGs6, R.sub⟩
  · intro Gs6 s3 σ Hb Gb x7 c' u H G h hI S hu
    obtain ⟨o_at, o_longer, o_row, p_every, rfl, R, xGs6, w_every, n_every, L⟩ := hI
    replace R := R.then S; replace w_every := w_every.step0 S; replace xGs6 := xGs6.trans S.ex; replace L := L.step0 S
    obtain ⟨_, rfl, rfl⟩ := hu
    refine wb_cons (ws_set (i := 4) sc_law_lots.nd ?_)
    refine EvN.go (ev_lst (α := (List Int)) el_nil (by show 0 ≤ 100000; decide)) R.sub (fun p_q8 H G S n_q8 w_q8 => ?_)
    have ne_every_q8 := w_every.ne n_q8; replace n_q8 := R.back n_q8
    replace R := R.then S; replace w_every := w_every.step0 S; replace xGs6 := xGs6.trans S.ex; replace L := L.step0 S
    have w_longer := w_q8; have n_longer := n_q8; have ne_every_longer := ne_every_q8
    obtain ⟨vs_every, hp_every, np_every, rp_every⟩ := w_every
    replace L := L.frz0 hp_every
    replace R := R.freeze n_every np_every hp_every; replace w_longer := w_longer.frz (o := .lst vs_every) np_every (ne_every_longer.symm); replace xGs6 := xGs6.trans (Ex.new (o := .lst vs_every) np_every); have f_every := lend1 np_every rp_every
    obtain ⟨c10, h_c10, h⟩ := bind_some h
    refine wb_cons (ws_for (g := (gName 5)) PassesOwn.never rfl (ei_list (ev_var (i := 1) rfl f_every)) R.sub (pg_name (i := 5) sc_law_lots.nd rfl (by first | exact Or.inl rfl | exact Or.inr rfl)) h_c10 (fun Gs11 s9 σ H G => ∃ (o_row : Option V) (p_longer : Addr), σ = [some (V.int (size)), some ((V.ref p_every)), some (V.ref d_found), some (V.int (x7)), some (V.ref p_longer), o_row, none, none, none] ∧ Rc [] H0 G0 H G ∧ Ex Gs6 G ∧ Ex Gs11 G ∧ Rep.rel K G (V.ref p_every) s3 ∧ Own K H G p_longer (s9 : (List (List Int))) ∧ H0 p_longer = none ∧ LotsAt K H0 H G d_found []) (fun (_ : Unit) (_ : V) (_ : Hp) => False) ?_ ?_ ?_ ?_ ?_)
    · intro H G S
      replace R := R.then S; replace f_every := Rep.mono S.ex f_every; replace w_longer := w_longer.step0 S; replace xGs6 := xGs6.trans S.ex; replace L := L.step0 S
      exact ⟨_, _, rfl, R, xGs6, Ex.refl _, f_every, w_longer, n_longer, L⟩
    · intro Gs11 s9 σ H G hI
      obtain ⟨o_row, p_longer, rfl, R, xGs6, xGs11, f_every, w_longer, n_longer, L⟩ := hI
      exact ⟨xGs11, R.sub⟩
    · intro Gs11 s9 σ Hb Gb x12 c' u H G h hI S hu
      obtain ⟨o_row, p_longer, rfl, R, xGs6, xGs11, f_every, w_longer, n_longer, L⟩ := hI
      replace R := R.then S; replace f_every := Rep.mono S.ex f_every; replace w_longer := w_longer.step0 S; replace xGs6 := xGs6.trans S.ex; replace xGs11 := xGs11.trans S.ex; replace L := L.step0 S
      obtain ⟨v13, f_row, rfl⟩ := hu
      obtain ⟨t14, h_t14, h⟩ := bind_some h
      obtain ⟨t17, h_t17, h⟩ := bind_some h
      obtain ⟨t18, h_t18, h⟩ := bind_some h
      refine wb_cons (ws_ext (i := 4) rfl R.sub w_longer h_t18 (EvN.val (ev_lc (own := [("entry", 6)]) (g := (gName 6)) rfl sc_law_lots.nd (blkOk_by (own := [("entry", 6)]) (N := ["size", "every", "found", "at", "longer", "row", "entry", "some", "mine"]) (sc := defScope s_law_lots) (by decide +kernel)) (ei_rng1 z_range h_t14 (ev_var (i := 0) (x := (size : Int)) rfl rfl)) (fun _ _ _ _ _ => (pg_name (i := 6) sc_law_lots.nd rfl (by first | exact Or.inl rfl | exact Or.inr rfl))) h_t17 (by rintro x G u ⟨_, _, rfl⟩; rfl) (fun sh Hh C cl fp x15 b u Hc Gc S ru hb => by obtain rfl := Option.some.inj hb; exact ets_nil) (fun sh Hh C cl fp x15 y u Hc Gc S ru hb hy => by obtain ⟨_, rfl, rfl⟩ := ru; have f_row := Rep.mono S.ex f_row; obtain ⟨t16, h_t16, hy⟩ := bind_some hy; obtain rfl := Option.some.inj hy; exact (EvN.val (ev_cat h_t16 (ev_var (i := 5) rfl f_row) (EvN.val (ev_lst (α := Int) (el_cons (ev_var (i := 6) (x := (x15 : Int)) rfl rfl) el_nil) (by show 1 ≤ 100000; decide)))))))) (fun H G KK S w_longer' => ?_))
      have R := KK _ _ _ R (.inl n_longer)
      replace L := L.step1 w_longer S
      replace f_every := Rep.mono S.ex f_every; replace f_row := Rep.mono S.ex f_row; replace xGs6 := xGs6.trans S.ex; replace xGs11 := xGs11.trans S.ex
      replace w_longer := w_longer'
      refine wb_nil ?_
      exact ⟨_, _, (Option.some.inj h).symm, ⟨_, _, rfl, R, xGs6, xGs11, f_every, w_longer, n_longer, L⟩⟩
    · intro Gs11 s9 σ H G ec hI
      have h := aft_nx ec h
      obtain ⟨o_row, p_longer, rfl, R, xGs6, xGs11, f_every, w_longer, n_longer, L⟩ := hI
      refine wb_cons (ws_set (i := 1) sc_law_lots.nd (wp_var (i := 4) rfl ?_))
      have w_every := w_longer; have n_every := n_longer
      refine wb_nil ?_
      exact ⟨_, _, (Option.some.inj h).symm, ⟨_, _, _, _, rfl, R, xGs6, w_every, n_every, L⟩⟩
    · intro y v H ec hrt
      exact hrt.elim
  · intro Gs6 s3 σ H G ec hI
    have h := aft_nx ec h
    obtain ⟨o_at, o_longer, o_row, p_every, rfl, R, xGs6, w_every, n_every, L⟩ := hI
    obtain ⟨vs_every, hp_every, np_every, rp_every⟩ := w_every
    replace L := L.frz0 hp_every
    replace R := R.freeze n_every np_every hp_every; have f_every := lend1 np_every rp_every
    obtain ⟨c23, h_c23, h⟩ := bind_some h
    refine wb_cons (ws_for (g := (gName 5)) PassesOwn.never rfl (ei_list (ev_var (i := 1) rfl f_every)) R.sub (pg_name (i := 5) sc_law_lots.nd rfl (by first | exact Or.inl rfl | exact Or.inr rfl)) h_c23 (fun Gs24 s22 σ H G => ∃ (o_mine : Option V) (o_row : Option V) (o_some : Option V), σ = [some (V.int (size)), some ((V.ref p_every)), some (V.ref d_found), o_at, o_longer, o_row, none, o_some, o_mine] ∧ Rc [] H0 G0 H G ∧ Ex Gs24 G ∧ Rep.rel K G (V.ref p_every) s3 ∧ LotsAt K H0 H G d_found s22.1 ∧ Sz s22) (fun (_ : Unit) (_ : V) (_ : Hp) => False) ?_ ?_ ?_ ?_ ?_)
    · intro H G S
      replace R := R.then S; replace f_every := Rep.mono S.ex f_every; replace L := L.step0 S
      exact ⟨_, _, _, rfl, R, Ex.refl _, f_every, L, Nat.le_refl _, fun q hq => nomatch hq⟩
    · intro Gs24 s22 σ H G hI
      obtain ⟨o_mine, o_row, o_some, rfl, R, xGs24, f_every, L, z⟩ := hI
      exact ⟨xGs24, R.sub⟩
    · intro Gs24 s22 σ Hb Gb x25 c' u H G h hI S hu
      obtain ⟨o_mine, o_row, o_some, rfl, R, xGs24, f_every, L, z⟩ := hI
      replace R := R.then S; replace f_every := Rep.mono S.ex f_every; replace xGs24 := xGs24.trans S.ex; replace L := L.step0 S
      obtain ⟨v26, f_row, rfl⟩ := hu
      obtain ⟨t30, h_t30, h⟩ := bind_some h
      obtain ⟨t31, h_t31, h⟩ := bind_some h
      obtain ⟨hlt, rfl⟩ := dite_some h_t31
      refine wb_cons (ws_set (i := 7) sc_law_lots.nd ?_)
      refine EvX.go (ev_tupI z_tuple (EvN.val (ec_N (w := (x25, ())) c_law_times hG hr (by decide) h_t30 (ea_cons (ev_var (i := 5) rfl f_row) ea_nil)))) R.sub (fun v_q30 H G S f_some => ?_)
      replace R := R.then S; replace f_every := Rep.mono S.ex f_every; replace f_row := Rep.mono S.ex f_row; replace xGs24 := xGs24.trans S.ex; replace L := L.step0 S
      obtain ⟨b, rfl, hb⟩ := f_some
      refine wb_cons (ws_set (i := 8) sc_law_lots.nd ?_)
      obtain ⟨kvs0, hd0⟩ := L.keys
      refine toE (pe_dget2 (Nat.lt_of_le_of_lt (Nat.add_le_add_left (by decide : 1 ≤ 64) _) hr.units) pe_wp pe_wp pe_wp ⟨rfl, rfl, rfl, rfl⟩) ?_
      refine wp_var (i := 2) rfl ?_
      refine ⟨d_found, rfl, .inr ⟨_, .inl hd0⟩, ?_⟩
      refine wp_var (i := 7) rfl ?_
      refine EvN.go (ev_lst (α := (List Int)) el_nil (by show 0 ≤ 100000; decide)) R.sub (fun p_q H1 G1 S n_q w_q => ?_)
      have f_every1 := Rep.mono S.ex f_every; have f_row1 := Rep.mono S.ex f_row; have xG1 := xGs24.trans S.ex
      have hb1 : H1 b = some (.tup ((kk t30).map kV)) := by
        rw [kk_V]
        exact S.sub _ _ (S.ex _ _ hb)
      have nb : ∀ {o : List V}, (HO.tup ((kk t30).map kV)) ≠ .lst o := fun z => by cases z
      by_cases c : t30 ∈ s22.1.map (·.1)
      · obtain ⟨kvs, a, vs, i1, i2, i3, i4, ⟨q, i5, i6⟩, i7⟩ := (L.step0 S).hit (R.then S) c
        have hq := z.2 q i5
        obtain ⟨j1, j2, j3⟩ := i7 v26 x25 f_row1
        refine ⟨_, DGet.t (k := kk t30) i1 hb1, ?_⟩
        rw [i3]
        refine wb_cons (ws_expr (wp_append (i := 8) (l := a) rfl ⟨vs, i4⟩ ?_) (by rfl))
        refine wp_var (i := 5) rfl ?_
        refine ⟨vs, i4, by rw [← i6, sizeLine_eq]; omega, ?_⟩
        refine wb_cons (toS (ps_dput (Nat.lt_of_le_of_lt (Nat.add_le_add_left (by decide : 1 ≤ 64) _) hr.units) pe_wp pe_wp pe_wp (by rfl)) ?_)
        refine wp_var (i := 8) rfl ?_
        refine wp_var (i := 2) rfl ?_
        refine wp_var (i := 7) rfl ?_
        refine ⟨d_found, _, rfl, DPut.t (k := kk t30) (b := b) j1 ?_ (by rw [i2, sizeLine_eq]; have := z.1; omega), ?_⟩
        · rw [upd_ne fun e => ?_]
          · exact hb1
          · rw [e, i4] at hb1
            cases hb1
        refine wb_nil ?_
        exact ⟨_, _, (Option.some.inj h).symm, ⟨_, _, _, rfl, j2, xG1, f_every1, j3, sz_add z⟩⟩
      · obtain ⟨kvs, i1, i2, i3, i4, i7⟩ := L.miss R c n_q S w_q
        obtain ⟨j1, j2, j3⟩ := i7 v26 x25 f_row1
        refine ⟨_, DGet.t (k := kk t30) i1 hb1, ?_⟩
        rw [i3]
        refine wb_cons (ws_expr (wp_append (i := 8) (l := p_q) rfl ⟨[], i4⟩ ?_) (by rfl))
        refine wp_var (i := 5) rfl ?_
        refine ⟨[], i4, by rw [sizeLine_eq]; decide, ?_⟩
        refine wb_cons (toS (ps_dput (Nat.lt_of_le_of_lt (Nat.add_le_add_left (by decide : 1 ≤ 64) _) hr.units) pe_wp pe_wp pe_wp (by rfl)) ?_)
        refine wp_var (i := 8) rfl ?_
        refine wp_var (i := 2) rfl ?_
        refine wp_var (i := 7) rfl ?_
        refine ⟨d_found, _, rfl, DPut.t (k := kk t30) (b := b) j1 ?_ (by rw [i2, sizeLine_eq]; have := z.1; omega), ?_⟩
        · rw [upd_ne fun e => ?_]
          · exact hb1
          · rw [e, i4] at hb1
            cases hb1
        refine wb_nil ?_
        exact ⟨_, _, (Option.some.inj h).symm, ⟨_, _, _, rfl, j2, xG1, f_every1, j3, sz_add z⟩⟩
    · intro Gs24 s22 σ H G ec hI
      have h := aft_nx ec h
      obtain ⟨o_mine, o_row, o_some, rfl, R, xGs24, f_every, L, z⟩ := hI
      obtain ⟨kvs, hd, k⟩ := L.fin R
      refine wb_cons (ws_ret (wp_varLock (i := 2) rfl hd fun o => ?_))
      obtain ⟨G', R', rel⟩ := k o
      obtain rfl := Option.some.inj h
      exact q0 _ _ _ R' rel
    · intro y v H ec hrt
      exact hrt.elim
  · intro y v H ec hrt
    exact hrt.elim
theorem ok_law_due {f : Addr} {fd : FuncData} (F : Fun K "_law_due" "_law_due" s_law_due f fd) (z_int : mg "int" = none) :
    FnG P w K mg base CX0 1 f fd ["rows", "one", "two"] ((spV (fun (w : (List (List Int)) × Int × Int × Unit) => m_law_due w.1 w.2.1 w.2.2.1)) K) := by
  refine defG F sc_law_due (lenV rfl) (fun cdv A outer s H0 vs Q E hG hr hsp => ?_)
  obtain ⟨G0, wz, r, g0, ra, h, q0⟩ := hsp
  obtain ⟨rows, one, two, ⟨⟩⟩ := wz
  obtain ⟨v_rows, _, rfl, f_rows, _, _, rfl, rfl, _, _, rfl, rfl, rfl⟩ := ra
  have R : Rc [] H0 G0 H0 G0 := Rc.refl g0
  replace h : m_law_due rows one two = some r := h
  unfold m_law_due at h
  clear g0
  refine wb_cons (ws_set (i := 3) sc_law_due.nd ?_)
  obtain ⟨t5, h_t5, h⟩ := bind_some h
  refine EvX.go (ev_ne' (α := (List Int)) hr.units (EvN.val (ev_lc (own := [("row", 4)]) (g := (gName 4)) rfl sc_law_due.nd (blkOk_by (own := [("row", 4)]) (N := ["rows", "one", "two", "less", "row", "greater"]) (sc := defScope s_law_due) (by decide +kernel)) (ei_list (ev_var (i := 0) rfl f_rows)) (fun _ _ _ _ _ => (pg_name (i := 4) sc_law_due.nd rfl (by first | exact Or.inl rfl | exact Or.inr rfl))) h_t5 (by rintro x G u ⟨_, _, rfl⟩; rfl) (fun sh Hh C cl fp x1 b u Hc Gc S ru hb => by obtain ⟨v2, f_row, rfl⟩ := ru; obtain ⟨t3, h_t3, hb⟩ := bind_some hb; obtain ⟨t4, h_t4, hb⟩ := bind_some hb; obtain rfl := Option.some.inj hb; exact ets_one (et_lt (ev_ix h_t3 (ev_var (i := 4) rfl f_row) (ev_var (i := 1) (x := (one : Int)) rfl rfl)) (ev_ix h_t4 (ev_var (i := 4) rfl f_row) (ev_var (i := 2) (x := (two : Int)) rfl rfl)))) (fun sh Hh C cl fp x1 y u Hc Gc S ru hb hy => by obtain ⟨v2, f_row, rfl⟩ := ru; obtain rfl := Option.some.inj hy; exact (ev_int (i := 1))))) (EvN.val (ev_lst (α := Int) el_nil (by show 0 ≤ 100000; decide)))) R.sub (fun v_q6 H G S f_q6 => ?_)
  replace R := R.then S; replace f_rows := Rep.mono S.ex f_rows
  obtain rfl : v_q6 = V.bl ((!eqs t5 ([] : (List Int)))) := f_q6
  refine wb_cons (ws_set (i := 5) sc_law_due.nd ?_)
  obtain ⟨t11, h_t11, h⟩ := bind_some h
  refine EvX.go (ev_ne' (α := (List Int)) hr.units (EvN.val (ev_lc (own := [("row", 4)]) (g := (gName 4)) rfl sc_law_due.nd (blkOk_by (own := [("row", 4)]) (N := ["rows", "one", "two", "less", "row", "greater"]) (sc := defScope s_law_due) (by decide +kernel)) (ei_list (ev_var (i := 0) rfl f_rows)) (fun _ _ _ _ _ => (pg_name (i := 4) sc_law_due.nd rfl (by first | exact Or.inl rfl | exact Or.inr rfl))) h_t11 (by rintro x G u ⟨_, _, rfl⟩; rfl) (fun sh Hh C cl fp x7 b u Hc Gc S ru hb => by obtain ⟨v8, f_row, rfl⟩ := ru; obtain ⟨t9, h_t9, hb⟩ := bind_some hb; obtain ⟨t10, h_t10, hb⟩ := bind_some hb; obtain rfl := Option.some.inj hb; exact ets_one (et_gt (ev_ix h_t9 (ev_var (i := 4) rfl f_row) (ev_var (i := 1) (x := (one : Int)) rfl rfl)) (ev_ix h_t10 (ev_var (i := 4) rfl f_row) (ev_var (i := 2) (x := (two : Int)) rfl rfl)))) (fun sh Hh C cl fp x7 y u Hc Gc S ru hb hy => by obtain ⟨v8, f_row, rfl⟩ := ru; obtain rfl := Option.some.inj hy; exact (ev_int (i := 1))))) (EvN.val (ev_lst (α := Int) el_nil (by show 0 ≤ 100000; decide)))) R.sub (fun v_q12 H G S f_q12 => ?_)
  replace R := R.then S; replace f_rows := Rep.mono S.ex f_rows
  obtain rfl : v_q12 = V.bl ((!eqs t11 ([] : (List Int)))) := f_q12
  refine wb_cons (ws_ret ?_)
  obtain ⟨t13, h_t13, h⟩ := bind_some h
  obtain ⟨t14, h_t14, h⟩ := bind_some h
  refine EvX.go (ev_ix h_t14 (ev_ix h_t13 (EvN.val (ev_lst (α := (List Str)) (el_cons (EvN.val (ev_lst (α := Str) (el_cons ev_str (el_cons ev_str el_nil)) (by show 2 ≤ 100000; decide))) (el_cons (EvN.val (ev_lst (α := Str) (el_cons ev_str (el_cons ev_str el_nil)) (by show 2 ≤ 100000; decide))) el_nil)) (by show 2 ≤ 100000; decide))) (ev_intB z_int (ev_var (i := 3) (x := ((!eqs t5 ([] : (List Int))) : Bool)) rfl rfl))) (ev_intB z_int (ev_var (i := 5) (x := ((!eqs t11 ([] : (List Int))) : Bool)) rfl rfl))) R.sub (fun v_q15 H G S f_q15 => ?_)
  replace R := R.then S; replace f_rows := Rep.mono S.ex f_rows
  obtain rfl : v_q15 = V.str (t14) := f_q15
  obtain rfl := Option.some.inj h
  exact q0 _ _ _ R rfl
theorem ok_law {f : Addr} {fd : FuncData} (F : Fun K "law" "law" s_law f fd) (c_law_lots : Cal P w K mg base "_law_lots" 2 ["size"] ((spV (fun (w : Int × Unit) => m_law_lots w.1)) K)) (c_relation : Cal P w K mg base "relation" 5 ["times", "place", "other"] ((spV (fun (w : (List Int) × Int × Int × Unit) => m_relation w.1 w.2.1 w.2.2.1)) K)) (c_law_due : Cal P w K mg base "_law_due" 1 ["rows", "one", "two"] ((spV (fun (w : (List (List Int)) × Int × Int × Unit) => m_law_due w.1 w.2.1 w.2.2.1)) K)) (z_range : mg "range" = none) (z_list : mg "list" = none) :
    FnG P w K mg base CX0 6 f fd ["script"] ((spV (fun (w : Scr × Unit) => m_law w.1)) K) := by
  refine defG F sc_law (lenV rfl) (fun cdv A outer s H0 vs Q E hG hr hsp => ?_)
  obtain ⟨G0, wz, r, g0, ra, h, q0⟩ := hsp
  obtain ⟨script, ⟨⟩⟩ := wz
  obtain ⟨v_script, _, rfl, f_script, rfl⟩ := ra
  have R : Rc [] H0 G0 H0 G0 := Rc.refl g0
  replace h : m_law script = some r := h
  unfold m_law at h
  clear g0
  obtain ⟨t2, h_t2, h⟩ := bind_some h
  obtain ⟨c3, h_c3, h⟩ := bind_some h
  refine wb_cons (ws_for (g := (gName 1)) PassesOwn.never rfl (ei_rng2 z_range h_t2 (ev_int (i := 2)) (ev_int (i := 6))) R.sub (pg_name (i := 1) sc_law.nd rfl (by first | exact Or.inl rfl | exact Or.inr rfl)) h_c3 (fun Gs4 s1 σ H G => ∃ (o_held : Option V) (o_lots : Option V) (o_one : Option V) (o_size : Option V) (o_some : Option V) (o_two : Option V), σ = [some (v_script), o_size, o_lots, o_some, o_held, o_one, o_two] ∧ Rc [] H0 G0 H G ∧ Ex Gs4 G ∧ Rep.rel K G v_script script) (RTV K [] H0 G0) ?_ ?_ ?_ ?_ ?_)
  · intro H G S
    replace R := R.then S; replace f_script := Rep.mono S.ex f_script
    exact ⟨_, _, _, _, _, _, rfl, R, Ex.refl _, f_script⟩
  · intro Gs4 s1 σ H G hI
    obtain ⟨o_held, o_lots, o_one, o_size, o_some, o_two, rfl, R, xGs4, f_script⟩ := hI
    exact ⟨xGs4, R.sub⟩
  · intro Gs4 s1 σ Hb Gb x5 c' u H G h hI S hu
    obtain ⟨o_held, o_lots, o_one, o_size, o_some, o_two, rfl, R, xGs4, f_script⟩ := hI
    replace R := R.then S; replace f_script := Rep.mono S.ex f_script; replace xGs4 := xGs4.trans S.ex
    obtain ⟨_, rfl, rfl⟩ := hu
    refine wb_cons (ws_set (i := 2) sc_law.nd ?_)
    obtain ⟨t6, h_t6, h⟩ := bind_some h
    refine EvX.go (ec_V (w := (x5, ())) c_law_lots hG hr (by decide) h_t6 (ea_cons (ev_var (i := 1) (x := (x5 : Int)) rfl rfl) ea_nil)) R.sub (fun v_q7 H G S f_q7 => ?_)
    replace R := R.then S; replace f_script := Rep.mono S.ex f_script; replace xGs4 := xGs4.trans S.ex
    have f_lots := f_q7
    obtain ⟨t9, h_t9, h⟩ := bind_some h
    obtain ⟨c10, h_c10, h⟩ := bind_some h
    refine wb_cons (ws_for (g := (gName 3)) PassesOwn.never rfl (ei_lotsW h_t9 (ev_var (i := 2) rfl f_lots)) R.sub (pg_name (i := 3) sc_law.nd rfl (by first | exact Or.inl rfl | exact Or.inr rfl)) h_c10 (fun Gs11 s8 σ H G => ∃ (o_held : Option V) (o_one : Option V) (o_some : Option V) (o_two : Option V), σ = [some (v_script), some (V.int (x5)), some (v_q7), o_some, o_held, o_one, o_two] ∧ Rc [] H0 G0 H G ∧ Ex Gs4 G ∧ Ex Gs11 G ∧ Rep.rel K G v_script script ∧ Rep.rel K G v_q7 t6) (RTV K [] H0 G0) ?_ ?_ ?_ ?_ ?_)
    · intro H G S
      replace R := R.then S; replace f_script := Rep.mono S.ex f_script; replace f_lots := Rep.mono S.ex f_lots; replace xGs4 := xGs4.trans S.ex
      exact ⟨_, _, _, _, rfl, R, xGs4, Ex.refl _, f_script, f_lots⟩
    · intro Gs11 s8 σ H G hI
      obtain ⟨o_held, o_one, o_some, o_two, rfl, R, xGs4, xGs11, f_script, f_lots⟩ := hI
      exact ⟨xGs11, R.sub⟩
    · intro Gs11 s8 σ Hb Gb x12 c' u H G h hI S hu
      obtain ⟨o_held, o_one, o_some, o_two, rfl, R, xGs4, xGs11, f_script, f_lots⟩ := hI
      replace R := R.then S; replace f_script := Rep.mono S.ex f_script; replace f_lots := Rep.mono S.ex f_lots; replace xGs4 := xGs4.trans S.ex; replace xGs11 := xGs11.trans S.ex
      obtain ⟨v13, f_some, rfl⟩ := hu
      refine wb_cons (ws_set (i := 4) sc_law.nd ?_)
      refine EvN.go (ev_listT z_list (ev_var (i := 3) rfl f_some)) R.sub (fun p_q14 H G S n_q14 w_q14 => ?_)
      replace n_q14 := R.back n_q14
      replace R := R.then S; replace f_script := Rep.mono S.ex f_script; replace f_lots := Rep.mono S.ex f_lots; replace f_some := Rep.mono S.ex f_some; replace xGs4 := xGs4.trans S.ex; replace xGs11 := xGs11.trans S.ex
      obtain ⟨vs_q14, hp_q14, np_q14, rp_q14⟩ := w_q14
      replace R := R.freeze n_q14 np_q14 hp_q14; replace f_script := Rep.mono (Ex.new (o := .lst vs_q14) np_q14) f_script; replace f_lots := Rep.mono (Ex.new (o := .lst vs_q14) np_q14) f_lots; replace f_some := Rep.mono (Ex.new (o := .lst vs_q14) np_q14) f_some; replace xGs4 := xGs4.trans (Ex.new (o := .lst vs_q14) np_q14); replace xGs11 := xGs11.trans (Ex.new (o := .lst vs_q14) np_q14); have f_q14 := lend1 np_q14 rp_q14
      have f_held := f_q14
      obtain ⟨t16, h_t16, h⟩ := bind_some h
      obtain ⟨c17, h_c17, h⟩ := bind_some h
      refine wb_cons (ws_for (g := (gName 5)) PassesOwn.never rfl (ei_rng1 z_range h_t16 (ev_var (i := 1) (x := (x5 : Int)) rfl rfl)) R.sub (pg_name (i := 5) sc_law.nd rfl (by first | exact Or.inl rfl | exact Or.inr rfl)) h_c17 (fun Gs18 s15 σ H G => ∃ (o_one : Option V) (o_two : Option V), σ = [some (v_script), some (V.int (x5)), some (v_q7), some (v13), some ((V.ref p_q14)), o_one, o_two] ∧ Rc [] H0 G0 H G ∧ Ex Gs4 G ∧ Ex Gs11 G ∧ Ex Gs18 G ∧ Rep.rel K G v_script script ∧ Rep.rel K G (V.ref p_q14) (x12).l ∧ Rep.rel K G v_q7 t6 ∧ Rep.rel K G v13 x12) (RTV K [] H0 G0) ?_ ?_ ?_ ?_ ?_)
      · intro H G S
        replace R := R.then S; replace f_script := Rep.mono S.ex f_script; replace f_held := Rep.mono S.ex f_held; replace f_lots := Rep.mono S.ex f_lots; replace f_some := Rep.mono S.ex f_some; replace xGs4 := xGs4.trans S.ex; replace xGs11 := xGs11.trans S.ex
        exact ⟨_, _, rfl, R, xGs4, xGs11, Ex.refl _, f_script, f_held, f_lots, f_some⟩
      · intro Gs18 s15 σ H G hI
        obtain ⟨o_one, o_two, rfl, R, xGs4, xGs11, xGs18, f_script, f_held, f_lots, f_some⟩ := hI
        exact ⟨xGs18, R.sub⟩
      · intro Gs18 s15 σ Hb Gb x19 c' u H G h hI S hu
        obtain ⟨o_one, o_two, rfl, R, xGs4, xGs11, xGs18, f_script, f_held, f_lots, f_some⟩ := hI
        replace R := R.then S; replace f_script := Rep.mono S.ex f_script; replace f_held := Rep.mono S.ex f_held; replace f_lots := Rep.mono S.ex f_lots; replace f_some := Rep.mono S.ex f_some; replace xGs4 := xGs4.trans S.ex; replace xGs11 := xGs11.trans S.ex; replace xGs18 := xGs18.trans S.ex
        obtain ⟨_, rfl, rfl⟩ := hu
        obtain ⟨t21, h_t21, h⟩ := bind_some h
        obtain ⟨c22, h_c22, h⟩ := bind_some h
        refine wb_cons (ws_for (g := (gName 6)) PassesOwn.never rfl (ei_rng1 z_range h_t21 (ev_var (i := 1) (x := (x5 : Int)) rfl rfl)) R.sub (pg_name (i := 6) sc_law.nd rfl (by first | exact Or.inl rfl | exact Or.inr rfl)) h_c22 (fun Gs23 s20 σ H G => ∃ (o_two : Option V), σ = [some (v_script), some (V.int (x5)), some (v_q7), some (v13), some ((V.ref p_q14)), some (V.int (x19)), o_two] ∧ Rc [] H0 G0 H G ∧ Ex Gs4 G ∧ Ex Gs11 G ∧ Ex Gs18 G ∧ Ex Gs23 G ∧ Rep.rel K G v_script script ∧ Rep.rel K G (V.ref p_q14) (x12).l ∧ Rep.rel K G v_q7 t6 ∧ Rep.rel K G v13 x12) (RTV K [] H0 G0) ?_ ?_ ?_ ?_ ?_)
        · intro H G S
          replace R := R.then S; replace f_script := Rep.mono S.ex f_script; replace f_held := Rep.mono S.ex f_held; replace f_lots := Rep.mono S.ex f_lots; replace f_some := Rep.mono S.ex f_some; replace xGs4 := xGs4.trans S.ex; replace xGs11 := xGs11.trans S.ex; replace xGs18 := xGs18.trans S.ex
          exact ⟨_, rfl, R, xGs4, xGs11, xGs18, Ex.refl _, f_script, f_held, f_lots, f_some⟩
        · intro Gs23 s20 σ H G hI
          obtain ⟨o_two, rfl, R, xGs4, xGs11, xGs18, xGs23, f_script, f_held, f_lots, f_some⟩ := hI
          exact ⟨xGs23, R.sub⟩
        · intro Gs23 s20 σ Hb Gb x24 c' u H G h hI S hu
          obtain ⟨o_two, rfl, R, xGs4, xGs11, xGs18, xGs23, f_script, f_held, f_lots, f_some⟩ := hI
          replace R := R.then S; replace f_script := Rep.mono S.ex f_script; replace f_held := Rep.mono S.ex f_held; replace f_lots := Rep.mono S.ex f_lots; replace f_some := Rep.mono S.ex f_some; replace xGs4 := xGs4.trans S.ex; replace xGs11 := xGs11.trans S.ex; replace xGs18 := xGs18.trans S.ex; replace xGs23 := xGs23.trans S.ex
          obtain ⟨_, rfl, rfl⟩ := hu
          refine wb_cons (ws_if ?_)
          refine EvT.go (et_eq' (α := Int) hr.units (ev_var (i := 5) (x := (x19 : Int)) rfl rfl) (ev_var (i := 6) (x := (x24 : Int)) rfl rfl)) R.sub (fun H G S => ?_)
          replace R := R.then S; replace f_script := Rep.mono S.ex f_script; replace f_held := Rep.mono S.ex f_held; replace f_lots := Rep.mono S.ex f_lots; replace f_some := Rep.mono S.ex f_some; replace xGs4 := xGs4.trans S.ex; replace xGs11 := xGs11.trans S.ex; replace xGs18 := xGs18.trans S.ex; replace xGs23 := xGs23.trans S.ex
          rcases cond_some h with ⟨hb, h⟩ | ⟨hb, h⟩
          · refine if_t hb ?_
            refine wb_cons (ws_cont ?_)
            exact ⟨_, _, (Option.some.inj h).symm, ⟨_, rfl, R, xGs4, xGs11, xGs18, xGs23, f_script, f_held, f_lots, f_some⟩⟩
          · refine if_f hb ?_
            refine wb_nil ?_
            refine wb_cons (ws_if ?_)
            obtain ⟨t26, h_t26, h⟩ := bind_some h
            obtain ⟨t27, h_t27, h⟩ := bind_some h
            obtain ⟨t28, h_t28, h⟩ := bind_some h
            refine EvT.go (et_ne' (α := Str) hr.units (ec_V (w := ((x12).l, x19, x24, ())) c_relation hG hr (by decide) h_t26 (ea_cons (ev_var (i := 4) rfl f_held) (ea_cons (ev_var (i := 5) (x := (x19 : Int)) rfl rfl) (ea_cons (ev_var (i := 6) (x := (x24 : Int)) rfl rfl) ea_nil)))) (ec_V (w := (t27, x19, x24, ())) c_law_due hG hr (by decide) h_t28 (ea_cons (ev_lotsIx (Nat.lt_of_le_of_lt (Nat.add_le_add_left (by decide : 1 ≤ 64) _) hr.units) h_t27 (ev_var (i := 2) rfl f_lots) (ev_var (i := 3) rfl f_some) (by exact fun _ _ => rfl)) (ea_cons (ev_var (i := 5) (x := (x19 : Int)) rfl rfl) (ea_cons (ev_var (i := 6) (x := (x24 : Int)) rfl rfl) ea_nil))))) R.sub (fun H G S => ?_)
            replace R := R.then S; replace f_script := Rep.mono S.ex f_script; replace f_held := Rep.mono S.ex f_held; replace f_lots := Rep.mono S.ex f_lots; replace f_some := Rep.mono S.ex f_some; replace xGs4 := xGs4.trans S.ex; replace xGs11 := xGs11.trans S.ex; replace xGs18 := xGs18.trans S.ex; replace xGs23 := xGs23.trans S.ex
            rcases cond_some h with ⟨hb, h⟩ | ⟨hb, h⟩
            · refine if_t hb ?_
              refine wb_cons (ws_ret ?_)
              refine EvX.go ev_bl R.sub (fun v_q30 H G S f_q30 => ?_)
              replace R := R.then S; replace f_script := Rep.mono S.ex f_script; replace f_held := Rep.mono S.ex f_held; replace f_lots := Rep.mono S.ex f_lots; replace f_some := Rep.mono S.ex f_some; replace xGs4 := xGs4.trans S.ex; replace xGs11 := xGs11.trans S.ex; replace xGs18 := xGs18.trans S.ex; replace xGs23 := xGs23.trans S.ex
              obtain rfl : v_q30 = V.bl (false) := f_q30
              exact ⟨_, (Option.some.inj h).symm, ⟨_, R, rfl⟩⟩
            · refine if_f hb ?_
              refine wb_nil ?_
              refine wb_nil ?_
              exact ⟨_, _, (Option.some.inj h).symm, ⟨_, rfl, R, xGs4, xGs11, xGs18, xGs23, f_script, f_held, f_lots, f_some⟩⟩
        · intro Gs23 s20 σ H G ec hI
          have h := aft_nx ec h
          obtain ⟨o_two, rfl, R, xGs4, xGs11, xGs18, xGs23, f_script, f_held, f_lots, f_some⟩ := hI
          refine wb_nil ?_
          exact ⟨_, _, (Option.some.inj h).symm, ⟨_, _, rfl, R, xGs4, xGs11, xGs18, f_script, f_held, f_lots, f_some⟩⟩
        · intro y v H ec hrt
          have h := aft_rt ec h
          exact ⟨_, (Option.some.inj h).symm, hrt⟩
      · intro Gs18 s15 σ H G ec hI
        have h := aft_nx ec h
        obtain ⟨o_one, o_two, rfl, R, xGs4, xGs11, xGs18, f_script, f_held, f_lots, f_some⟩ := hI
        refine wb_cons (ws_if ?_)
        refine EvT.go (et_ne' (α := (List Int)) hr.units (ev_var (i := 4) rfl f_held) (EvN.val (ev_listT z_list (ev_var (i := 3) rfl f_some)))) R.sub (fun H G S => ?_)
        replace R := R.then S; replace f_script := Rep.mono S.ex f_script; replace f_held := Rep.mono S.ex f_held; replace f_lots := Rep.mono S.ex f_lots; replace f_some := Rep.mono S.ex f_some; replace xGs4 := xGs4.trans S.ex; replace xGs11 := xGs11.trans S.ex
        rcases cond_some h with ⟨hb, h⟩ | ⟨hb, h⟩
        · refine if_t hb ?_
          refine wb_cons (ws_ret ?_)
          refine EvX.go ev_bl R.sub (fun v_q32 H G S f_q32 => ?_)
          replace R := R.then S; replace f_script := Rep.mono S.ex f_script; replace f_held := Rep.mono S.ex f_held; replace f_lots := Rep.mono S.ex f_lots; replace f_some := Rep.mono S.ex f_some; replace xGs4 := xGs4.trans S.ex; replace xGs11 := xGs11.trans S.ex
          obtain rfl : v_q32 = V.bl (false) := f_q32
          exact ⟨_, (Option.some.inj h).symm, ⟨_, R, rfl⟩⟩
        · refine if_f hb ?_
          refine wb_nil ?_
          refine wb_nil ?_
          exact ⟨_, _, (Option.some.inj h).symm, ⟨_, _, _, _, rfl, R, xGs4, xGs11, f_script, f_lots⟩⟩
      · intro y v H ec hrt
        have h := aft_rt ec h
        exact ⟨_, (Option.some.inj h).symm, hrt⟩
    · intro Gs11 s8 σ H G ec hI
      have h := aft_nx ec h
      obtain ⟨o_held, o_one, o_some, o_two, rfl, R, xGs4, xGs11, f_script, f_lots⟩ := hI
      refine wb_nil ?_
      exact ⟨_, _, (Option.some.inj h).symm, ⟨_, _, _, _, _, _, rfl, R, xGs4, f_script⟩⟩
    · intro y v H ec hrt
      have h := aft_rt ec h
      exact ⟨_, (Option.some.inj h).symm, hrt⟩
  · intro Gs4 s1 σ H G ec hI
    have h := aft_nx ec h
    obtain ⟨o_held, o_lots, o_one, o_size, o_some, o_two, rfl, R, xGs4, f_script⟩ := hI
    refine wb_cons (ws_ret ?_)
    obtain ⟨t33, h_t33, h⟩ := bind_some h
    obtain ⟨t35, h_t35, h⟩ := bind_some h
    refine EvX.go (ev_and (t := (eqs t33 ("=" : Str))) (ev_eq' (α := Str) hr.units (ec_V (w := (([(2 : Int), (1 : Int), (2 : Int)] : (List Int)), (0 : Int), (2 : Int), ())) c_relation hG hr (by decide) h_t33 (ea_cons (EvN.val (ev_lst (α := Int) (el_cons (ev_int (i := 2)) (el_cons (ev_int (i := 1)) (el_cons (ev_int (i := 2)) el_nil))) (by show 3 ≤ 100000; decide))) (ea_cons (ev_int (i := 0)) (ea_cons (ev_int (i := 2)) ea_nil)))) ev_str) (fun ha => by have hh := cond_t ha h_t35; obtain ⟨t34, h_t34, hh⟩ := bind_some hh; obtain rfl := Option.some.inj hh; exact (ev_one (ev_eq' (α := Str) hr.units (ec_V (w := (([(1 : Int), (2 : Int), (1 : Int)] : (List Int)), (0 : Int), (2 : Int), ())) c_relation hG hr (by decide) h_t34 (ea_cons (EvN.val (ev_lst (α := Int) (el_cons (ev_int (i := 1)) (el_cons (ev_int (i := 2)) (el_cons (ev_int (i := 1)) el_nil))) (by show 3 ≤ 100000; decide))) (ea_cons (ev_int (i := 0)) (ea_cons (ev_int (i := 2)) ea_nil)))) ev_str))) (fun ha => (Option.some.inj (cond_f ha h_t35)).symm)) R.sub (fun v_q36 H G S f_q36 => ?_)
    replace R := R.then S; replace f_script := Rep.mono S.ex f_script
    obtain rfl : v_q36 = V.bl (t35) := f_q36
    obtain rfl := Option.some.inj h
    exact q0 _ _ _ R rfl
  · intro y v H ec hrt
    have h := aft_rt ec h
    obtain rfl := Option.some.inj h
    obtain ⟨G, R, f⟩ := hrt
    exact q0 _ _ _ R f
end

theorem rounds_ok (row : List Int) (hl : row.length < line) : Ok (m_rounds_of row) (IsT row) := by
  unfold m_rounds_of
  have hline : line = 16000000 := rfl
  have hmin : ∀ x ∈ row, minD 0 row - 1 < x := fun x hx => by
    have := minD_le (d := 0) hx
    omega
  generalize hs : minD (0 : Int) row - 1 = s at hmin ⊢
  have hN : (row ++ [s]).length = row.length + 1 := by rw [List.length_append]; rfl
  refine Ok.bis (catO_ok (by simp only [List.length_cons, List.length_nil]; omega)) ?_
  refine Ok.bis (repO_0 (by omega)) ?_
  have hlast : nth (row ++ [s]) row.length = s := by
    unfold nth
    rw [List.getElem?_append_right (Nat.le_refl _), Nat.sub_self]
    rfl
  have hfst : ∀ j, j < row.length → nth (row ++ [s]) j = nth row j := fun j hj => nth_app hj
  generalize ht : row ++ [s] = t1 at hN hlast hfst ⊢
  generalize hNN : t1.length = N at hN ⊢
  refine Ok.aft (P := fun st => st.1.length = N ∧ ∃ ws : List Nat, st.2 = (ws.map fun (i : Nat) => (i : Int)).reverse ∧ SK (nth t1) (nth st.1) N ws ∧ Closed (nth t1) (nth st.1) N N ws ∧ lo ws = N) (Ok.mono (forL_ok (fun p st => p ≤ N ∧ st.1.length = N ∧ ∃ ws : List Nat, st.2 = (ws.map fun (i : Nat) => (i : Int)).reverse ∧ SK (nth t1) (nth st.1) p ws ∧ Closed (nth t1) (nth st.1) N p ws ∧ lo ws = p) ?h0 ?step) ?fin) ?post
  case h0 => exact ⟨Nat.zero_le _, List.length_replicate, [], rfl, trivial, fun j hj => absurd hj (Nat.not_lt_zero _), rfl⟩
  case fin =>
    rintro _ ⟨st, rfl, h⟩
    rw [enumI_length, hNN] at h
    exact ⟨st, rfl, h.2⟩
  case post =>
    rintro st ⟨hlen, ws, _, hsk, hcl, hlo⟩
    refine Ok.ret ?_
    rw [cut_last]
    cases ws with
    | nil =>
      have : 0 = N := hlo
      omega
    | cons w rest =>
      have hw : w + 1 = N := hlo
      have hwr : w = row.length := by omega
      subst hwr
      have hrest : rest = [] := by
        cases rest with
        | nil => rfl
        | cons t r =>
          have h1 := hsk.2.2.2.1 t rfl
          have h2 : t + 1 ≤ row.length := hsk.2.1
          have h3 := hmin (nth row t) (nth_mem (by omega))
          rw [hfst t (by omega), hlast] at h1
          omega
      subst hrest
      have hr : st.1.dropLast.length = row.length := by rw [List.length_dropLast]; omega
      refine ⟨hr, fun j hj => ?_⟩
      have hc := (hcl j (by omega) (by simp; omega)).2
      have hn : ∀ k, k < row.length → nth st.1.dropLast k = nth st.1 k := fun k hk => by rw [List.dropLast_eq_take, nth_take (by omega)]
      have hsee : ∀ k, Sees (nth t1) N j k ↔ Sees (nth row) row.length j k := by
        intro k
        constructor
        · rintro ⟨a, b, c⟩
          have hk : k < row.length := by
            by_cases hk : k < row.length
            · exact hk
            · have h1 := c row.length (Or.inl ⟨hj, by omega⟩)
              have h2 := hmin (nth row j) (nth_mem hj)
              rw [hlast, hfst j hj] at h1
              omega
          refine ⟨hk, b, fun m hm => ?_⟩
          have := c m hm
          rw [hfst j hj, hfst m (by omega)] at this
          exact this
        · rintro ⟨a, b, c⟩
          refine ⟨by omega, b, fun m hm => ?_⟩
          rw [hfst j hj, hfst m (by omega)]
          exact c m hm
      obtain ⟨a, b, c⟩ := hc
      refine ⟨by rw [hn j hj]; exact a, fun k hk => ?_, ?_⟩
      · rw [hn j hj, hn k hk.1]
        exact b k ((hsee k).mpr hk)
      · rw [hn j hj]
        rcases c with c | ⟨k, hk, c⟩
        · exact Or.inl c
        · refine Or.inr ⟨k, (hsee k).mp hk, ?_⟩
          rw [hn k ((hsee k).mp hk).1]
          exact c
  case step =>
    rintro p ⟨x1, x2⟩ ⟨r0, wt0⟩ hx ⟨hpN, hlen, ws0, hws, hsk, hcl, hlo⟩
    obtain ⟨hp, rfl, hx2⟩ := enumI_get hx
    have hx2' : nth t1 p = x2 := nth_of hx2
    simp only at hlen hws hsk hcl
    subst hws
    subst hx2'
    rw [hNN] at hp
    refine Ok.aft (P := fun s => s.2.1.length = N ∧ ∃ ws : List Nat, s.2.2 = (ws.map fun (i : Nat) => (i : Int)).reverse ∧ SK (nth t1) (nth s.2.1) p ws ∧ Closed (nth t1) (nth s.2.1) N p ws ∧ Top (nth t1) p s.1 (nth s.2.1) ws ∧ ∀ t, ws.head? = some t → nth t1 t ≤ nth t1 p) (Ok.mono (whl_ok (fun s => s.2.1.length = N ∧ ∃ ws : List Nat, s.2.2 = (ws.map fun (i : Nat) => (i : Int)).reverse ∧ SK (nth t1) (nth s.2.1) p ws ∧ Closed (nth t1) (nth s.2.1) N p ws ∧ Top (nth t1) p s.1 (nth s.2.1) ws) (fun s => ∀ ws : List Nat, s.2.2 = (ws.map fun (i : Nat) => (i : Int)).reverse → ∀ t, ws.head? = some t → nth t1 t ≤ nth t1 p) (fun s => s.2.2.length) ?stp ?w0 ?wn) ?wfin) ?wpost
    case w0 =>
      refine ⟨hlen, ws0, rfl, hsk, hcl, Int.le_refl _, fun k h1 h2 => ?_, Or.inl rfl, fun t h k h1 h2 => ?_⟩
      · omega
      · have : lo ws0 = t + 1 := by
          cases ws0 with
          | nil => cases h
          | cons y z =>
            have : y = t := Option.some.inj h
            subst this
            rfl
        omega
    case wn => exact Nat.lt_succ_self _
    case wfin =>
      rintro _ ⟨s, rfl, ⟨h1, ws, h2, h3⟩, hQ⟩
      exact ⟨s, rfl, h1, ws, h2, h3.1, h3.2.1, h3.2.2, hQ ws h2⟩
    case wpost =>
      rintro ⟨g, r, wt⟩ ⟨h1, ws, h2, h3, h4, h5, h6⟩
      simp only at h1 h2 h3 h4 h5
      subst h2
      have hr : ∀ k, k ≠ p → nth (r.set p (g + 1)) k = nth r k := fun k hk => by rw [nth_set (by omega), if_neg (fun e => hk e.symm)]
      have hu : nth (r.set p (g + 1)) p = g + 1 := by rw [nth_set (by omega), if_pos rfl]
      have hP := push (by omega) h3 h4 h5 h6 hr hu
      have hlw := h3.len
      refine Ok.bis (setO_nat (show p < r.length by omega)) ?_
      refine Ok.bis (appO_ok (by rw [List.length_reverse, List.length_map]; omega)) ?_
      refine Ok.ret ⟨_, rfl, by omega, by rw [List.length_set]; exact h1, p :: ws, ?_, hP.1, hP.2, rfl⟩
      rw [List.map_cons, List.reverse_cons]
    case stp =>
      rintro ⟨g, r, wt⟩ ⟨h1, ws, h2, h3, h4, h5⟩
      simp only at h1 h2 h3 h4 h5
      subst h2
      cases ws with
      | nil =>
        refine Ok.is (a := false) rfl ⟨fun h => (nomatch h), fun _ ws' e t h => ?_⟩
        have : ws' = [] := by
          have := congrArg List.length e
          rw [List.length_reverse, List.length_map, List.length_reverse, List.length_map] at this
          exact List.length_eq_zero_iff.mp this.symm
        subst this
        cases h
      | cons w rest =>
        have hw : w < p := h3.1
        have hrev : ((w :: rest).map fun (i : Nat) => (i : Int)).reverse = (rest.map fun (i : Nat) => (i : Int)).reverse ++ [(w : Int)] := by rw [List.map_cons, List.reverse_cons]
        have hne : (!((w :: rest).map fun (i : Nat) => (i : Int)).reverse.isEmpty) = true := by rw [hrev]; simp
        refine Ok.bind (P := fun b => b = decide (nth t1 p < nth t1 w)) ?_ ?_
        · refine Ok.tt hne ?_
          refine Ok.bis (by rw [hrev]; exact ix_last) ?_
          refine Ok.bis (ix_nat (by omega)) ?_
          exact Ok.ret rfl
        · rintro _ rfl
          refine Ok.ret ⟨fun hb => ?_, fun hb ws' e t h => ?_⟩
          · have he : nth t1 p < nth t1 w := of_decide_eq_true hb
            refine Ok.bis (by rw [hrev]; exact popO_last) ?_
            refine Ok.bis (ix_nat (show w < r.length by omega)) ?_
            have hT := pop_top h3 h5 he
            have hC := pop_closed (by omega) h3 h4 he
            cases rest with
            | nil =>
              refine Ok.bis (a := false) rfl ?_
              refine Ok.ff rfl ?_
              refine Ok.ret ⟨_, rfl, ⟨h1, [], rfl, trivial, hC, hT⟩, ?_⟩
              simp
            | cons t rest =>
              have htw : t + 1 ≤ w := h3.2.1
              have hrev2 : ((t :: rest).map fun (i : Nat) => (i : Int)).reverse = (rest.map fun (i : Nat) => (i : Int)).reverse ++ [(t : Int)] := by rw [List.map_cons, List.reverse_cons]
              have hne2 : (!((t :: rest).map fun (i : Nat) => (i : Int)).reverse.isEmpty) = true := by rw [hrev2]; simp
              refine Ok.bis (a := decide (nth t1 t < nth t1 w)) ?_ ?_
              · refine Ok.eq (Ok.tt hne2 ?_)
                refine Ok.bis (by rw [hrev2]; exact ix_last) ?_
                refine Ok.bis (ix_nat (by omega)) ?_
                refine Ok.bis (ix_nat (by omega)) ?_
                exact Ok.ret rfl
              · refine Ok.cond (fun hd => ?_) fun hd => ?_
                · have hd' : nth t1 t < nth t1 w := of_decide_eq_true hd
                  refine Ok.bis (by rw [hrev2]; exact ix_last) ?_
                  refine Ok.bis (ix_nat (show t < r.length by omega)) ?_
                  refine Ok.bis (by rw [hrev2]; exact ix_last) ?_
                  refine Ok.bis (setO_nat (show t < r.length by omega)) ?_
                  have hr : ∀ k, k ≠ t → nth (r.set t (max (nth r t) (max g (nth r w) + 1))) k = nth r k := fun k hk => by rw [nth_set (by omega), if_neg (fun e => hk e.symm)]
                  have hu : nth (r.set t (max (nth r t) (max g (nth r w) + 1))) t = max (nth r t) (max g (nth r w) + 1) := by rw [nth_set (by omega), if_pos rfl]
                  refine Ok.ret ⟨_, rfl, ⟨by rw [List.length_set]; exact h1, t :: rest, rfl, pop_more h3 h5 he hd' hr hu, closed_congr hC fun k _ hk => hr k fun e => hk (e ▸ List.mem_cons_self), top_congr (fun k hk _ => hr k (by have : t + 1 ≤ k := hk; omega)) hT⟩, ?_⟩
                  simp
                · have hd' : ¬ nth t1 t < nth t1 w := of_decide_eq_false hd
                  refine Ok.ret ⟨_, rfl, ⟨h1, t :: rest, rfl, pop_same h3 hd', hC, hT⟩, ?_⟩
                  simp
          · have he : ¬ nth t1 p < nth t1 w := of_decide_eq_false hb
            have e2 : ws' = w :: rest := by
              have e3 := List.reverse_inj.mp e
              have inj : ∀ (a b : List Nat), (a.map fun (i : Nat) => (i : Int)) = b.map (fun (i : Nat) => (i : Int)) → a = b := by
                intro a b
                exact (List.map_inj_right (fun x y h => by omega)).mp
              exact (inj _ _ e3).symm
            subst e2
            have : w = t := Option.some.inj h
            subst this
            omega

theorem rounds_eq {row ts : List Int} (h : IsT row ts) (hl : row.length < line) : m_rounds_of row = some ts := by
  obtain ⟨ts', e, h'⟩ := rounds_ok row hl
  rw [e, h.unique h']

theorem is_row_ok (xs : List Int) : m_is_row xs = some true := by
  unfold m_is_row
  refine Ok.eq (Ok.bis (a := true) (Ok.eq (Ok.tt rfl (Ok.bis (lcO_map (g := fun _ => true) xs fun x _ => rfl) (Ok.ret ?_)))) (Ok.ret rfl))
  rw [List.all_eq_true]
  intro x hx
  obtain ⟨_, _, rfl⟩ := List.mem_map.mp hx
  rfl

theorem is_times_ok {row ts : List Int} (h : IsT row ts) (hl : row.length < line) : m_is_times ts = some true := by
  unfold m_is_times
  have hn : IsT (ts.map fun x => -x) ts := h.anti fun x y => by omega
  refine Ok.eq (Ok.bis (is_row_ok ts) (Ok.bis (a := true) (Ok.eq (Ok.tt rfl (Ok.bis (lcO_map (g := fun x => -x) ts fun x _ => rfl) (Ok.bis (rounds_eq hn ?_) (Ok.ret eqs_self))))) (Ok.ret rfl)))
  rw [List.length_map]
  have := h.1
  omega

theorem need_place_ok {p n : Int} (h0 : 0 ≤ p) (h : p < n) : m_need_place p n = some () := by
  unfold m_need_place
  refine Ok.eq (Ok.bis (a := true) ?_ (Ok.ret rfl))
  unfold m_is_within
  refine Ok.eq (Ok.bis (a := true) rfl (Ok.ret ?_))
  rw [decide_eq_true h0, decide_eq_true (show p ≤ n - 1 by omega)]
  rfl

theorem need_times_ok {row ts : List Int} (h : IsT row ts) (hl : row.length < line) : m_need_times ts = some () := by
  unfold m_need_times
  rw [is_times_ok h hl]
  rfl
theorem eqs_no {α : Type} [Eqs α] {x y : α} (h : x ≠ y) : eqs x y = false := eqs_false.mpr h
theorem relation_eq {row ts : List Int} {p q : Nat} (h : IsT row ts) (hl : row.length < line) (hp : p < ts.length) (hq : q < ts.length) (hne : p ≠ q) : m_relation ts p q = some (relW ts p q) := by
  unfold m_relation
  refine Ok.eq (Ok.bis (need_times_ok h hl) (Ok.bis (need_place_ok (by omega) (by omega)) (Ok.bis (need_place_ok (by omega) (by omega)) (Ok.ff (eqs_no (by omega)) (Ok.bis (ix_nat hp) (Ok.bis (ix_nat hq) ?_))))))
  have e1 : min (p : Int) (q : Int) = ((min p q : Nat) : Int) := by omega
  have e2 : max (p : Int) (q : Int) = ((max p q : Nat) : Int) := by omega
  rw [e1, e2]
  show Ok (cond (decide (max (nth ts p) (nth ts q) < covO ts p q)) _ _) _
  unfold relW
  by_cases c0 : max (nth ts p) (nth ts q) < covO ts p q
  · rw [if_pos c0]
    exact Ok.tt (decide_eq_true c0) (Ok.ret rfl)
  · rw [if_neg c0]
    refine Ok.ff (decide_eq_false c0) ?_
    by_cases c1 : nth ts p = nth ts q
    · rw [if_pos c1]
      exact Ok.tt (eqs_true.mpr c1) (Ok.ret rfl)
    · rw [if_neg c1]
      refine Ok.ff (eqs_no c1) (Ok.ret ?_)
      by_cases c2 : nth ts q < nth ts p
      · rw [if_pos c2, decide_eq_true c2]
        rfl
      · rw [if_neg c2, decide_eq_false c2]
        rfl
theorem relW_in (ts : List Int) (p q : Nat) : relW ts p q ∈ ([("=" : Str), ("<=" : Str), (">=" : Str), ("open" : Str)] : List Str) := by
  unfold relW
  split
  · simp
  · split
    · simp
    · split <;> simp

def LC (ts : List Int) : Prop := ∀ j, j < ts.length → 1 ≤ nth ts j ∧ (1 < nth ts j → ∃ k, Les (nth ts) ts.length j k ∧ nth ts k = nth ts j - 1)
theorem neg_iff {ts : List Int} : IsT (ts.map fun x => -x) ts ↔ LC ts := by
  have hl : (ts.map fun x => -x).length = ts.length := List.length_map _
  have hn : ∀ m, m < ts.length → nth (ts.map fun x => -x) m = - nth ts m := fun m hm => nth_map hm
  have hs : ∀ j, j < ts.length → ∀ k, Sees (nth (ts.map fun x => -x)) ts.length j k ↔ Les (nth ts) ts.length j k := by
    intro j hj k
    constructor
    · rintro ⟨a, b, c⟩
      refine ⟨a, b, fun m hm => ?_⟩
      have := c m hm
      rw [hn j hj, hn m (by omega)] at this
      omega
    · rintro ⟨a, b, c⟩
      refine ⟨a, b, fun m hm => ?_⟩
      have := c m hm
      rw [hn j hj, hn m (by omega)]
      omega
  constructor
  · rintro ⟨_, h⟩ j hj
    rw [hl] at h
    obtain ⟨a, b, c⟩ := h j hj
    refine ⟨a, fun k => ?_⟩
    rcases c with c | ⟨k', h1, h2⟩
    · omega
    · exact ⟨k', (hs j hj k').mp h1, by omega⟩
  · intro h
    refine ⟨hl.symm, fun j hj => ?_⟩
    rw [hl] at hj ⊢
    obtain ⟨a, b⟩ := h j hj
    refine ⟨a, fun k hk => ?_, ?_⟩
    · have h1 := (hs j hj k).mp hk
      have := h1.2.1
      exact h1.2.2 k (by omega)
    · by_cases c : nth ts j = 1
      · exact Or.inl c
      · obtain ⟨k, h1, h2⟩ := b (by omega)
        exact Or.inr ⟨k, (hs j hj k).mpr h1, by omega⟩
theorem isT_neg {row ts : List Int} (h : IsT row ts) : IsT (ts.map fun x => -x) ts := h.anti fun x y => by omega

theorem top_le {row ts : List Int} (h : IsT row ts) : maxD 0 ts ≤ ts.length := by
  have hd := dif_row h
  obtain ⟨hn, hm⟩ := dif_spec (ts.map fun x => maxD 0 ts - x)
  have := nodup_len hn (l' := ts.map fun x => maxD 0 ts - x) fun y hy => (hm y).mp hy
  rw [List.length_map] at this
  omega

theorem near_lem {L : List Nat} {i p : Nat} (h : L[i]? = some p) : Ok (catO (cut (L.map fun (x : Nat) => (x : Int)) (some (max (0 : Int) ((i : Int) - 1))) (some (i : Int))) (cut (L.map fun (x : Nat) => (x : Int)) (some ((i : Int) + 1)) (some ((i : Int) + 2)))) fun near => ∀ x, x ∈ near ↔ ∃ q : Nat, x = (q : Int) ∧ (L[i + 1]? = some q ∨ (0 < i ∧ L[i - 1]? = some q)) := by
  have hline : line = 16000000 := rfl
  have hi := (List.getElem?_eq_some_iff.mp h).1
  have e1 : cut (L.map fun (x : Nat) => (x : Int)) (some (max (0 : Int) ((i : Int) - 1))) (some (i : Int)) = ((L.drop (i - 1)).take (i - (i - 1))).map fun (x : Nat) => (x : Int) := by
    rw [cut_mid _ (by omega) (by omega), List.map_take, List.map_drop]
    congr 1
    · omega
    · congr 1
      omega
  have e2 : cut (L.map fun (x : Nat) => (x : Int)) (some ((i : Int) + 1)) (some ((i : Int) + 2)) = ((L.drop (i + 1)).take 1).map fun (x : Nat) => (x : Int) := by
    rw [cut_mid _ (by omega) (by omega), List.map_take, List.map_drop, show ((i : Int) + 1).toNat = i + 1 by omega, show ((i : Int) + 2 - ((i : Int) + 1)).toNat = 1 by omega]
  rw [e1, e2]
  refine Ok.is (catO_ok (by rw [List.length_map, List.length_map, List.length_take, List.length_take]; omega)) fun x => ?_
  have hd : ∀ (l : List Nat) (a : Nat) (q : Nat), q ∈ (l.drop a).take 1 ↔ l[a]? = some q := by
    intro l a q
    cases hh : l[a]? with
    | none =>
      rw [List.drop_of_length_le (by have := List.getElem?_eq_none_iff.mp hh; omega)]
      simp
    | some y =>
      obtain ⟨hl, e⟩ := List.getElem?_eq_some_iff.mp hh
      rw [List.drop_eq_getElem_cons hl, e]
      simp [eq_comm]
  rw [List.mem_append, List.mem_map, List.mem_map]
  constructor
  · rintro (⟨q, hq, rfl⟩ | ⟨q, hq, rfl⟩)
    · by_cases c : i = 0
      · subst c
        simp at hq
      · rw [show i - (i - 1) = 1 by omega] at hq
        exact ⟨q, rfl, Or.inr ⟨by omega, (hd _ _ _).mp hq⟩⟩
    · exact ⟨q, rfl, Or.inl ((hd _ _ _).mp hq)⟩
  · rintro ⟨q, rfl, h | ⟨h0, h⟩⟩
    · exact Or.inr ⟨q, (hd _ _ _).mpr h, rfl⟩
    · refine Or.inl ⟨q, ?_, rfl⟩
      rw [show i - (i - 1) = 1 by omega]
      exact (hd _ _ _).mpr h
theorem played_ok {row ts : List Int} (h : IsT row ts) (hl : row.length ≤ 1000) : m_law_times row = some ts := by
  have hline : line = 16000000 := rfl
  have hlen := h.1
  unfold m_law_times
  refine Ok.eq (Ok.bis (repO_0 (by omega)) (Ok.bis (rng_ok (by omega) (by omega)) ?_))
  refine Ok.aft (P := fun s => s.1 = ts) (Ok.mono (whl_ok (fun s => ∃ r : Nat, s.2.2 = (r : Int) ∧ s.2.1 = (Lft ts row.length r).map (fun (x : Nat) => (x : Int)) ∧ s.1.length = row.length ∧ ∀ j, j < row.length → nth s.1 j = if nth ts j ≤ (r : Int) then nth ts j else 0) (fun s => s.2.1 = []) (fun s => s.2.1.length) ?st ?in0 ?fu) ?fi) ?po
  case po =>
    rintro s rfl
    exact Ok.ret rfl
  case fu =>
    show ((List.range _).map _).length < _
    rw [List.length_map, List.length_range, Int.toNat_natCast]
    omega
  case in0 =>
    refine ⟨0, rfl, ?_, List.length_replicate, fun j hj => ?_⟩
    · have e : Lft ts row.length 0 = List.range row.length := by
        unfold Lft
        refine List.filter_eq_self.mpr fun j hj => ?_
        have := (h.2 j (List.mem_range.mp hj)).1
        exact decide_eq_true (by omega)
      show (List.range _).map _ = _
      rw [e, Int.toNat_natCast]
    · have := (h.2 j hj).1
      rw [if_neg (by omega)]
      unfold nth
      rw [List.getElem?_replicate]
      split <;> rfl
  case fi =>
    rintro _ ⟨s, rfl, ⟨r, h1, h2, h3, h4⟩, hq⟩
    refine ⟨s, rfl, ext_nth (by omega) fun j hj => ?_⟩
    rw [h4 j (by omega)]
    have he : Lft ts row.length r = [] := by
      have := h2.symm.trans hq
      exact List.map_eq_nil_iff.mp this
    by_cases c : nth ts j ≤ (r : Int)
    · rw [if_pos c]
    · have : j ∈ Lft ts row.length r := lft_mem.mpr ⟨by omega, by omega⟩
      rw [he] at this
      cases this
  case st =>
    rintro ⟨found, left, number⟩ ⟨r, h1, h2, h3, h4⟩
    dsimp only at h1 h2 h3 h4 ⊢
    subst h1
    subst h2
    refine Ok.ret ⟨fun hb => ?_, fun hb => ?_⟩
    · have hne : Lft ts row.length r ≠ [] := by
        intro e
        rw [e] at hb
        have hb2 : (!eqs ([] : List Int) ([] : List Int)) = true := hb
        rw [eqs_self] at hb2
        cases hb2
      have hLl : (Lft ts row.length r).length ≤ row.length := by
        have := List.length_filter_le (fun j => decide ((r : Int) < nth ts j)) (List.range row.length)
        rw [List.length_range] at this
        exact this
      refine Ok.aft (P := fun gone => gone = ((Lft ts row.length r).filter fun j => decide (nth ts j = (r : Int) + 1)).map fun (x : Nat) => (x : Int)) (Ok.mono (forL_ok (fun i gone => gone = (((Lft ts row.length r).take i).filter fun j => decide (nth ts j = (r : Int) + 1)).map fun (x : Nat) => (x : Int)) (by simp) ?step) ?fin) ?nxt
      case fin =>
        rintro _ ⟨s, rfl, e⟩
        refine ⟨s, rfl, ?_⟩
        rw [enumI_length, List.length_map, List.take_length] at e
        exact e
      case step =>
        rintro i ⟨x1, x2⟩ gone hx hI
        obtain ⟨hi, hx1, hx2⟩ := enumI_get hx
        dsimp only at hx1 hx2 ⊢
        subst hx1
        rw [List.getElem?_map] at hx2
        cases hp : (Lft ts row.length r)[i]? with
        | none =>
          rw [hp] at hx2
          cases hx2
        | some p =>
          rw [hp] at hx2
          obtain rfl : (p : Int) = x2 := Option.some.inj hx2
          have hpm := lft_mem.mp (List.mem_of_getElem? hp)
          refine Ok.bind (near_lem hp) fun near hnear => ?_
          have hnb : ∀ x ∈ near, ∃ q : Nat, x = (q : Int) ∧ q < row.length := by
            intro x hx
            obtain ⟨q, e, hq⟩ := (hnear x).mp hx
            have hq' := (lft_adj hp).mpr hq
            exact ⟨q, e, hq'.1⟩
          refine Ok.bis (lcO_filter (p := fun x => decide (nth row p < nth row x.toNat)) (g := fun x => x) near (fun x hx => ?_) fun x hx _ => rfl) ?_
          · obtain ⟨q, rfl, hq⟩ := hnb x hx
            exact Ok.eq (Ok.bis (ix_nat hq) (Ok.bis (ix_nat hpm.1) (Ok.ret rfl)))
          have hiff : nth ts p = (r : Int) + 1 ↔ (near.filter fun x => decide (nth row p < nth row x.toNat)).map (fun x => x) = [] := by
            rw [peak_iff h.2 (by omega) hpm.1 hpm.2, List.map_eq_nil_iff, List.filter_eq_nil_iff]
            constructor
            · intro hk x hx
              obtain ⟨q, rfl, hq⟩ := (hnear x).mp hx
              have := hk q ((lft_adj hp).mpr hq)
              rw [Int.toNat_natCast]
              simp only [decide_eq_true_eq]
              omega
            · intro hk q hq
              have := hk (q : Int) ((hnear _).mpr ⟨q, rfl, (lft_adj hp).mp hq⟩)
              rw [Int.toNat_natCast] at this
              simp only [decide_eq_true_eq] at this
              omega
          have htake : (Lft ts row.length r).take (i + 1) = (Lft ts row.length r).take i ++ [p] := by
            rw [List.take_add_one, hp]
            rfl
          refine Ok.cond (fun hb2 => ?_) fun hb2 => Ok.ret ⟨_, rfl, ?_⟩
          · have hpk := hiff.mpr (eqs_true.mp hb2)
            refine Ok.bis (appO_ok ?_) (Ok.ret ⟨_, rfl, ?_⟩)
            · rw [hI, List.length_map]
              have := List.length_filter_le (fun j => decide (nth ts j = (r : Int) + 1)) ((Lft ts row.length r).take i)
              rw [List.length_take] at this
              omega
            · rw [htake, List.filter_append, List.map_append, ← hI]
              simp [hpk]
          · have hpk : ¬ nth ts p = (r : Int) + 1 := fun e => eqs_false.mp hb2 (hiff.mp e)
            rw [htake, List.filter_append, List.map_append, ← hI]
            simp [hpk]
      case nxt =>
        rintro gone rfl
        refine Ok.aft (P := fun (f2 : List Int) => f2.length = row.length ∧ ∀ j, j < row.length → nth f2 j = if nth ts j ≤ ((r + 1 : Nat) : Int) then nth ts j else 0) (Ok.mono (forL_ok (fun i (f2 : List Int) => f2.length = row.length ∧ ∀ j, j < row.length → nth f2 j = if nth ts j ≤ (r : Int) ∨ j ∈ ((Lft ts row.length r).filter fun j => decide (nth ts j = (r : Int) + 1)).take i then nth ts j else 0) ⟨h3, fun j hj => ?a0⟩ ?a1) ?a2) ?a3
        case a0 => rw [h4 j hj]; simp
        case a1 =>
          rintro i x f2 hx ⟨g1, g2⟩
          rw [List.getElem?_map] at hx
          cases hp : ((Lft ts row.length r).filter fun j => decide (nth ts j = (r : Int) + 1))[i]? with
          | none =>
            rw [hp] at hx
            cases hx
          | some p =>
            rw [hp] at hx
            obtain rfl : (p : Int) = x := Option.some.inj hx
            obtain ⟨m1, m2⟩ := List.mem_filter.mp (List.mem_of_getElem? hp)
            have m3 := (lft_mem.mp m1).1
            have m4 := of_decide_eq_true m2
            refine Ok.bis (setO_nat (by omega)) (Ok.ret ⟨_, rfl, by rw [List.length_set]; exact g1, fun j hj => ?_⟩)
            rw [nth_set (by omega), List.take_add_one, hp]
            by_cases c : p = j
            · subst c
              rw [if_pos rfl, if_pos (Or.inr (List.mem_append_right _ (by simp)))]
              omega
            · rw [if_neg c, g2 j hj]
              have : j ∈ ((Lft ts row.length r).filter fun j => decide (nth ts j = (r : Int) + 1)).take i ++ (some p).toList ↔ j ∈ ((Lft ts row.length r).filter fun j => decide (nth ts j = (r : Int) + 1)).take i := by
                rw [List.mem_append]
                refine ⟨fun z => z.elim id fun z => ?_, Or.inl⟩
                have : j = p := by simpa using z
                exact absurd this.symm c
              simp only [this]
        case a2 =>
          rintro _ ⟨f2, rfl, g1, g2⟩
          refine ⟨f2, rfl, g1, fun j hj => ?_⟩
          rw [List.length_map, List.take_length] at g2
          rw [g2 j hj]
          have : (nth ts j ≤ (r : Int) ∨ j ∈ (Lft ts row.length r).filter fun j => decide (nth ts j = (r : Int) + 1)) ↔ nth ts j ≤ ((r + 1 : Nat) : Int) := by
            rw [List.mem_filter, lft_mem, decide_eq_true_iff]
            constructor
            · rintro (z | z) <;> omega
            · intro z
              by_cases c : nth ts j ≤ (r : Int)
              · exact Or.inl c
              · exact Or.inr ⟨⟨hj, by omega⟩, by omega⟩
          simp only [this]
        case a3 =>
          rintro f2 ⟨g1, g2⟩
          refine Ok.bis (lcO_filter (p := fun x => !decide (x ∈ ((Lft ts row.length r).filter fun j => decide (nth ts j = (r : Int) + 1)).map fun (x : Nat) => (x : Int))) (g := fun x => x) _ (fun x hx => rfl) fun x hx _ => rfl) ?_
          have e : ((((Lft ts row.length r).map fun (x : Nat) => (x : Int)).filter fun x => !decide (x ∈ ((Lft ts row.length r).filter fun j => decide (nth ts j = (r : Int) + 1)).map fun (x : Nat) => (x : Int))).map fun x => x) = (Lft ts row.length (r + 1)).map fun (x : Nat) => (x : Int) := by
            rw [List.map_id', List.filter_map, ← lft_next]
            congr 1
            refine List.filter_congr fun j hj => ?_
            rw [Bool.eq_iff_iff]
            simp only [Function.comp, Bool.not_eq_true', decide_eq_false_iff_not, decide_eq_true_iff]
            constructor
            · intro z k
              exact z (List.mem_map.mpr ⟨j, List.mem_filter.mpr ⟨hj, decide_eq_true k⟩, rfl⟩)
            · intro z k
              obtain ⟨j', hj', e⟩ := List.mem_map.mp k
              have : j' = j := by omega
              subst this
              exact z (of_decide_eq_true (List.mem_filter.mp hj').2)
          rw [e]
          refine Ok.ret ⟨_, rfl, ⟨r + 1, by dsimp only; omega, rfl, g1, g2⟩, ?_⟩
          dsimp only
          rw [List.length_map, List.length_map]
          exact lft_less h hne
    · have hb' : eqs ((Lft ts row.length r).map fun (x : Nat) => (x : Int)) ([] : List Int) = true := by simpa using hb
      exact eqs_true.mp hb'

/-- all lists of n numbers from 1 to 5 -/
def allN : Nat → List (List Nat)
  | 0 => [[]]
  | n + 1 => (allN n).flatMap fun r => [1 :: r, 2 :: r, 3 :: r, 4 :: r, 5 :: r]
def okN (r : List Nat) : Bool := r.all fun v => Nat.beq v 1 || r.any fun u => Nat.beq (u + 1) v
/-- the row of point 9, the stretch around p raised, its entries numbered by their sizes -/
def raise7 (ts : List Int) (p q : Nat) : List Int :=
  let T := covO ts p q
  let m := maxD 0 ts
  (List.range ts.length).map fun j => m - nth ts j + if ((List.range ts.length).all fun i => if (p ≤ i ∧ i ≤ j) ∨ (j ≤ i ∧ i ≤ p) then decide (nth ts i < T) else true) = true then 10 else 0
def ranks (xs : List Int) : List Int := xs.map fun x => (((xs.filter fun y => decide (y < x)).length : Nat) : Int)
def wit (ts : List Int) (p q : Nat) : List Int := ranks (raise7 ts p q)
def goodW (ts : List Int) (p q : Nat) : Bool :=
  p == q || !(decide (max (nth ts p) (nth ts q) < covO ts p q)) || (decide (m_rounds_of (wit ts p q) = some ts) && decide (nth (wit ts p q) q < nth (wit ts p q) p))
def goodTs (n : Nat) (ts : List Int) : Bool := !(decide (m_is_times ts = some true)) || (List.range n).all fun p => (List.range n).all fun q => goodW ts p q
def goodN (n : Nat) (r : List Nat) : Bool := !okN r || goodTs n (r.map fun (x : Nat) => (x : Int))

/-! ### k07 -/
theorem mem_allN : ∀ (n : Nat) (r : List Nat), r.length = n → (∀ y ∈ r, 1 ≤ y ∧ y ≤ 5) → r ∈ allN n
  | 0, r, h, _ => by rw [List.length_eq_zero_iff.mp h]; exact List.mem_singleton.mpr rfl
  | n + 1, [], h, _ => by cases h
  | n + 1, y :: r, h, k => by
    refine List.mem_flatMap.mpr ⟨r, mem_allN n r (Nat.succ.inj h) fun z hz => k z (List.mem_cons_of_mem _ hz), ?_⟩
    obtain ⟨a, b⟩ := k y List.mem_cons_self
    have : y = 1 ∨ y = 2 ∨ y = 3 ∨ y = 4 ∨ y = 5 := by omega
    rcases this with rfl | rfl | rfl | rfl | rfl <;> simp
theorem good_4 : ((List.range 5).all fun n => (allN n).all (goodN n)) = true := by decide +kernel
theorem good_51 : ((allN 4).all fun r => goodN 5 (1 :: r)) = true := by decide +kernel
theorem good_52 : ((allN 4).all fun r => goodN 5 (2 :: r)) = true := by decide +kernel
theorem good_53 : ((allN 4).all fun r => goodN 5 (3 :: r)) = true := by decide +kernel
theorem good_54 : ((allN 4).all fun r => goodN 5 (4 :: r)) = true := by decide +kernel
theorem good_55 : ((allN 4).all fun r => goodN 5 (5 :: r)) = true := by decide +kernel
theorem good_at {row ts : List Int} (h : IsT row ts) (hn : ts.length ≤ 5) : goodTs ts.length ts = true := by
  have lc := neg_iff.mp (isT_neg h)
  have hb : ∀ y ∈ ts, 1 ≤ y ∧ y ≤ 5 := fun y hy => by
    have := h.pos y hy
    have := maxD_ge (d := 0) hy
    have := top_le h
    omega
  have hr : (ts.map Int.toNat).map (fun (x : Nat) => (x : Int)) = ts := by
    rw [List.map_map]
    conv => rhs; rw [← List.map_id ts]
    refine List.map_congr_left fun x hx => ?_
    have := (hb x hx).1
    show ((x.toNat : Nat) : Int) = x
    omega
  have ok : okN (ts.map Int.toNat) = true := by
    unfold okN
    rw [List.all_eq_true]
    intro v hv
    obtain ⟨x, hx, rfl⟩ := List.mem_map.mp hv
    have x1 := (hb x hx).1
    by_cases c : x = 1
    · subst c
      rfl
    · obtain ⟨j, hj, rfl⟩ := mem_nth hx
      obtain ⟨k, hk, e⟩ := (lc j hj).2 (by omega)
      have hm := nth_mem hk.1
      rw [Bool.or_eq_true]
      right
      rw [List.any_eq_true]
      refine ⟨_, List.mem_map.mpr ⟨_, hm, rfl⟩, ?_⟩
      have e3 : (nth ts k).toNat + 1 = (nth ts j).toNat := by omega
      rw [e3]
      exact Nat.beq_refl _
  have fin : goodN ts.length (ts.map Int.toNat) = true → goodTs ts.length ts = true := fun g => by
    unfold goodN at g
    rw [ok, hr] at g
    exact g
  have hm : ∀ y ∈ ts.map Int.toNat, 1 ≤ y ∧ y ≤ 5 := fun y hy => by
    obtain ⟨x, hx, rfl⟩ := List.mem_map.mp hy
    have := hb x hx
    omega
  apply fin
  have hl : (ts.map Int.toNat).length = ts.length := List.length_map _
  by_cases c : ts.length = 5
  · cases e : ts.map Int.toNat with
    | nil =>
      rw [e, c] at hl
      cases hl
    | cons v r =>
      rw [e] at hm hl
      rw [c] at hl ⊢
      have hr4 := mem_allN 4 r (Nat.succ.inj hl) fun y hy => hm y (List.mem_cons_of_mem _ hy)
      have hv := hm v List.mem_cons_self
      have : v = 1 ∨ v = 2 ∨ v = 3 ∨ v = 4 ∨ v = 5 := by omega
      rcases this with rfl | rfl | rfl | rfl | rfl
      · exact List.all_eq_true.mp good_51 r hr4
      · exact List.all_eq_true.mp good_52 r hr4
      · exact List.all_eq_true.mp good_53 r hr4
      · exact List.all_eq_true.mp good_54 r hr4
      · exact List.all_eq_true.mp good_55 r hr4
  · exact List.all_eq_true.mp (List.all_eq_true.mp good_4 ts.length (List.mem_range.mpr (by omega))) _ (mem_allN _ _ hl hm)
theorem wit_len (ts : List Int) (p q : Nat) : (wit ts p q).length = ts.length := by
  unfold wit ranks raise7
  rw [List.length_map, List.length_map, List.length_range]
theorem wit_low (ts : List Int) (p q : Nat) : ∀ y ∈ wit ts p q, 0 ≤ y ∧ y < ts.length := by
  intro y hy
  have hl : (raise7 ts p q).length = ts.length := by
    unfold raise7
    rw [List.length_map, List.length_range]
  unfold wit ranks at hy
  obtain ⟨x, hx, rfl⟩ := List.mem_map.mp hy
  have := (List.length_filter_lt_length_iff_exists (p := fun y => decide (y < x)) (l := raise7 ts p q)).mpr ⟨x, hx, by simp⟩
  omega
/-- if nothing is told, the entry at p can be the greater one -/
theorem open_ex {row ts : List Int} {p q : Nat} (h : IsT row ts) (hn : ts.length ≤ 5) (hp : p < ts.length) (hq : q < ts.length) (hne : p ≠ q) (ho : max (nth ts p) (nth ts q) < covO ts p q) : ∃ one : List Int, one.length = ts.length ∧ (∀ y ∈ one, 0 ≤ y ∧ y < ts.length) ∧ IsT one ts ∧ nth one q < nth one p := by
  have hline : line = 16000000 := rfl
  have hlen := h.1
  have h2 := good_at h hn
  unfold goodTs at h2
  rw [is_times_ok h (by omega), decide_eq_true rfl, Bool.not_true, Bool.false_or] at h2
  have h3 := List.all_eq_true.mp (List.all_eq_true.mp h2 p (List.mem_range.mpr hp)) q (List.mem_range.mpr hq)
  unfold goodW at h3
  rw [decide_eq_true ho, Bool.not_true, Bool.or_false, Bool.or_eq_true, beq_iff_eq] at h3
  rcases h3 with h3 | h3
  · exact absurd h3 hne
  rw [Bool.and_eq_true, decide_eq_true_iff, decide_eq_true_iff] at h3
  obtain ⟨k1, k3⟩ := h3
  refine ⟨wit ts p q, wit_len .., fun y hy => wit_low ts p q y hy, ?_, k3⟩
  obtain ⟨t2, e2, i2⟩ := rounds_ok (wit ts p q) (by rw [wit_len]; omega)
  rw [k1] at e2
  obtain rfl := Option.some.inj e2
  exact i2
theorem covO_symm (ts : List Int) (p q : Nat) : covO ts p q = covO ts q p := by
  unfold covO
  rw [Nat.min_comm, Nat.max_comm]
theorem isT_le {one ts : List Int} {p q : Nat} (h : IsT one ts) (hp : p < ts.length) (hq : q < ts.length) (hne : p ≠ q) (hc : ¬ max (nth ts p) (nth ts q) < covO ts p q) (hle : nth ts q ≤ nth ts p) : nth one p ≤ nth one q := by
  have hlen := h.1
  have hs := eqn_stand h.2
  have hpos := (h.2 p (by omega)).1
  refine hs p q (by omega) (by omega) hne ?_ hle
  have h1 : covO ts p q ≤ nth ts p := by omega
  exact (cov_le (by omega) hp hq hne).mp h1
theorem law_due_ok {R : List (List Int)} {n p q : Nat} (hR : ∀ r ∈ R, r.length = n) (hp : p < n) (hq : q < n) : Ok (m_law_due R (p : Int) (q : Int)) fun w =>
    ((∃ r ∈ R, nth r p < nth r q) → (∃ r ∈ R, nth r q < nth r p) → w = "open") ∧ ((∀ r ∈ R, ¬ nth r p < nth r q) → (∀ r ∈ R, ¬ nth r q < nth r p) → w = "=") ∧
    ((∃ r ∈ R, nth r p < nth r q) → (∀ r ∈ R, ¬ nth r q < nth r p) → w = "<=") ∧ ((∀ r ∈ R, ¬ nth r p < nth r q) → (∃ r ∈ R, nth r q < nth r p) → w = ">=") := by
  unfold m_law_due
  refine Ok.bis (lcO_filter (p := fun r => decide (nth r p < nth r q)) (g := fun _ => (1 : Int)) R (fun r hr => ?_) fun _ _ _ => rfl) ?_
  · exact Ok.eq (Ok.bis (ix_nat (by rw [hR r hr]; exact hp)) (Ok.bis (ix_nat (by rw [hR r hr]; exact hq)) (Ok.ret rfl)))
  refine Ok.bis (lcO_filter (p := fun r => decide (nth r q < nth r p)) (g := fun _ => (1 : Int)) R (fun r hr => ?_) fun _ _ _ => rfl) ?_
  · exact Ok.eq (Ok.bis (ix_nat (by rw [hR r hr]; exact hp)) (Ok.bis (ix_nat (by rw [hR r hr]; exact hq)) (Ok.ret rfl)))
  have key : ∀ (f : List Int → Bool), ((R.filter f).map (fun _ => (1 : Int)) = [] ↔ ∀ r ∈ R, f r = false) := by
    intro f
    rw [List.map_eq_nil_iff, List.filter_eq_nil_iff]
    exact ⟨fun h r hr => by have := h r hr; simpa using this, fun h r hr => by rw [h r hr]; simp⟩
  have k1 : ((R.filter fun r => decide (nth r p < nth r q)).map (fun _ => (1 : Int)) = []) ↔ ∀ r ∈ R, ¬ nth r p < nth r q := by
    rw [key]
    exact ⟨fun h r hr => of_decide_eq_false (h r hr), fun h r hr => decide_eq_false (h r hr)⟩
  have k2 : ((R.filter fun r => decide (nth r q < nth r p)).map (fun _ => (1 : Int)) = []) ↔ ∀ r ∈ R, ¬ nth r q < nth r p := by
    rw [key]
    exact ⟨fun h r hr => of_decide_eq_false (h r hr), fun h r hr => decide_eq_false (h r hr)⟩
  generalize (R.filter fun r => decide (nth r p < nth r q)).map (fun _ => (1 : Int)) = less at k1 ⊢
  generalize (R.filter fun r => decide (nth r q < nth r p)).map (fun _ => (1 : Int)) = more at k2 ⊢
  have ex_no : ∀ {P : List Int → Prop}, (∃ r ∈ R, P r) → (∀ r ∈ R, ¬ P r) → False := fun ⟨r, a, b⟩ h => h r a b
  by_cases c1 : less = []
  · have d1 := k1.mp c1
    have f1 : eqs less ([] : List Int) = true := eqs_true.mpr c1
    by_cases c2 : more = []
    · have d2 := k2.mp c2
      have f2 : eqs more ([] : List Int) = true := eqs_true.mpr c2
      rw [f1, f2]
      exact ⟨_, rfl, fun a _ => (ex_no a d1).elim, fun _ _ => rfl, fun a _ => (ex_no a d1).elim, fun _ b => (ex_no b d2).elim⟩
    · have f2 : eqs more ([] : List Int) = false := eqs_false.mpr c2
      rw [f1, f2]
      exact ⟨_, rfl, fun a _ => (ex_no a d1).elim, fun _ b => absurd (k2.mpr b) c2, fun a _ => (ex_no a d1).elim, fun _ _ => rfl⟩
  · have f1 : eqs less ([] : List Int) = false := eqs_false.mpr c1
    by_cases c2 : more = []
    · have d2 := k2.mp c2
      have f2 : eqs more ([] : List Int) = true := eqs_true.mpr c2
      rw [f1, f2]
      exact ⟨_, rfl, fun _ b => (ex_no b d2).elim, fun a _ => absurd (k1.mpr a) c1, fun _ _ => rfl, fun _ b => (ex_no b d2).elim⟩
    · have f2 : eqs more ([] : List Int) = false := eqs_false.mpr c2
      rw [f1, f2]
      exact ⟨_, rfl, fun _ _ => rfl, fun a _ => absurd (k1.mpr a) c1, fun _ b => absurd (k2.mpr b) c2, fun a _ => absurd (k1.mpr a) c1⟩
/-- the rows that have these times tell the word -/
theorem law_due_is {R : List (List Int)} {row ts : List Int} {p q : Nat} (h : IsT row ts) (hn : ts.length ≤ 5) (hR1 : ∀ r ∈ R, r.length = ts.length ∧ IsT r ts) (hR2 : ∀ r : List Int, r.length = ts.length → (∀ y ∈ r, 0 ≤ y ∧ y < ts.length) → IsT r ts → r ∈ R) (hp : p < ts.length) (hq : q < ts.length) (hne : p ≠ q) : m_law_due R (p : Int) (q : Int) = some (relW ts p q) := by
  have hT : IsT (ts.map fun x => maxD 0 ts - x) ts := h.anti fun x y => by omega
  have htold : (ts.map fun x => maxD 0 ts - x) ∈ R := hR2 _ (List.length_map _) (fun y hy => by
    obtain ⟨x, hx, rfl⟩ := List.mem_map.mp hy
    have := h.pos x hx
    have := maxD_ge (d := 0) hx
    have := top_le h
    omega) hT
  refine Ok.eq (Ok.mono (law_due_ok (n := ts.length) (fun r hr => (hR1 r hr).1) hp hq) ?_)
  rintro w ⟨w1, w2, w3, w4⟩
  have nm : ∀ j, j < ts.length → nth (ts.map fun x => maxD 0 ts - x) j = maxD 0 ts - nth ts j := fun j hj => nth_map hj
  unfold relW
  by_cases c0 : max (nth ts p) (nth ts q) < covO ts p q
  · rw [if_pos c0]
    obtain ⟨o1, a1, a2, a3, a4⟩ := open_ex h hn hp hq hne c0
    obtain ⟨o2, b1, b2, b3, b4⟩ := open_ex h hn hq hp (fun e => hne e.symm) (by rw [covO_symm, Int.max_comm]; exact c0)
    exact w1 ⟨o2, hR2 _ b1 b2 b3, b4⟩ ⟨o1, hR2 _ a1 a2 a3, a4⟩
  · rw [if_neg c0]
    have c0' : ¬ max (nth ts q) (nth ts p) < covO ts q p := by rw [covO_symm, Int.max_comm]; exact c0
    by_cases c1 : nth ts p = nth ts q
    · rw [if_pos c1]
      refine w2 (fun r hr z => ?_) fun r hr z => ?_
      · have := isT_le (hR1 r hr).2 hq hp (fun e => hne e.symm) c0' (by omega)
        omega
      · have := isT_le (hR1 r hr).2 hp hq hne c0 (by omega)
        omega
    · rw [if_neg c1]
      by_cases c2 : nth ts q < nth ts p
      · rw [if_pos c2]
        refine w3 ⟨_, htold, ?_⟩ fun r hr z => ?_
        · rw [nm p hp, nm q hq]
          omega
        · have := isT_le (hR1 r hr).2 hp hq hne c0 (by omega)
          omega
      · rw [if_neg c2]
        refine w4 (fun r hr z => ?_) ⟨_, htold, ?_⟩
        · have := isT_le (hR1 r hr).2 hq hp (fun e => hne e.symm) c0' (by omega)
          omega
        · rw [nm p hp, nm q hq]
          omega
/-! ### the lots -/
/-- what stands in the lots of some of the rows -/
structure LI (n : Nat) (done : List (List Int)) (m : Lot) : Prop where
  keys : (m.map (·.1)).Nodup
  left : ∀ q ∈ m, ∀ r ∈ q.2, r.length = n ∧ IsT r q.1
  some : ∀ q ∈ m, ∃ r, r ∈ q.2
  all : ∀ r ∈ done, ∀ ts, IsT r ts → ∃ q ∈ m, q.1 = ts ∧ r ∈ q.2
theorem add_mem {k r : List Int} : ∀ {m : Lot} {q : List Int × List (List Int)}, q ∈ addLot m k r → (∃ q' ∈ m, q'.1 = q.1 ∧ (q.2 = q'.2 ∨ (q.1 = k ∧ q.2 = q'.2 ++ [r]))) ∨ q = (k, [r])
  | [], q, h => .inr (List.mem_singleton.mp h)
  | (a, b) :: m, q, h => by
    unfold addLot at h
    by_cases c : a = k
    · rw [if_pos c] at h
      rcases List.mem_cons.mp h with rfl | h
      · exact .inl ⟨_, List.mem_cons_self, rfl, .inr ⟨c, rfl⟩⟩
      · exact .inl ⟨q, List.mem_cons_of_mem _ h, rfl, .inl rfl⟩
    · rw [if_neg c] at h
      rcases List.mem_cons.mp h with rfl | h
      · exact .inl ⟨_, List.mem_cons_self, rfl, .inl rfl⟩
      · rcases add_mem h with ⟨q', h1, h2⟩ | h1
        · exact .inl ⟨q', List.mem_cons_of_mem _ h1, h2⟩
        · exact .inr h1
theorem add_new {k r : List Int} : ∀ {m : Lot}, ∃ q ∈ addLot m k r, q.1 = k ∧ r ∈ q.2
  | [] => ⟨_, List.mem_cons_self, rfl, List.mem_cons_self⟩
  | (a, b) :: m => by
    unfold addLot
    by_cases c : a = k
    · rw [if_pos c]
      exact ⟨_, List.mem_cons_self, c, List.mem_append_right _ List.mem_cons_self⟩
    · rw [if_neg c]
      obtain ⟨q, h1, h2⟩ := add_new (k := k) (r := r) (m := m)
      exact ⟨q, List.mem_cons_of_mem _ h1, h2⟩
theorem add_old {k r : List Int} : ∀ {m : Lot} {q : List Int × List (List Int)}, q ∈ m → ∃ q' ∈ addLot m k r, q'.1 = q.1 ∧ ∀ x ∈ q.2, x ∈ q'.2
  | (a, b) :: m, q, h => by
    unfold addLot
    by_cases c : a = k
    · rw [if_pos c]
      rcases List.mem_cons.mp h with rfl | h
      · exact ⟨_, List.mem_cons_self, rfl, fun x hx => List.mem_append_left _ hx⟩
      · exact ⟨q, List.mem_cons_of_mem _ h, rfl, fun x hx => hx⟩
    · rw [if_neg c]
      rcases List.mem_cons.mp h with rfl | h
      · exact ⟨_, List.mem_cons_self, rfl, fun x hx => hx⟩
      · obtain ⟨q', h1, h2⟩ := add_old (k := k) (r := r) h
        exact ⟨q', List.mem_cons_of_mem _ h1, h2⟩
theorem LI.add {n : Nat} {done : List (List Int)} {m : Lot} {row ts : List Int} (h : LI n done m) (hr : row.length = n) (ht : IsT row ts) : LI n (done ++ [row]) (addLot m ts row) where
  keys := addLot_nodup h.keys
  left := fun q hq r hrq => by
    rcases add_mem hq with ⟨q', h1, h2, h3 | ⟨h3, h4⟩⟩ | rfl
    · rw [h3] at hrq
      rw [← h2]
      exact h.left q' h1 r hrq
    · rw [h4] at hrq
      rcases List.mem_append.mp hrq with z | z
      · rw [← h2]
        exact h.left q' h1 r z
      · rw [List.mem_singleton.mp z, h3]
        exact ⟨hr, ht⟩
    · rw [List.mem_singleton.mp hrq]
      exact ⟨hr, ht⟩
  some := fun q hq => by
    rcases add_mem hq with ⟨q', h1, h2, h3 | ⟨h3, h4⟩⟩ | rfl
    · rw [h3]
      exact h.some q' h1
    · rw [h4]
      exact ⟨row, List.mem_append_right _ List.mem_cons_self⟩
    · exact ⟨row, List.mem_cons_self⟩
  all := fun r hrd t hrt => by
    rcases List.mem_append.mp hrd with z | z
    · obtain ⟨q, h1, h2, h3⟩ := h.all r z t hrt
      obtain ⟨q', k1, k2, k3⟩ := add_old (k := ts) (r := row) h1
      exact ⟨q', k1, k2.trans h2, k3 r h3⟩
    · obtain rfl := List.mem_singleton.mp z
      obtain rfl := hrt.unique ht
      exact add_new
/-- what is found at a key -/
theorem lot_find {m : Lot} {q : List Int × List (List Int)} (nd : (m.map (·.1)).Nodup) (hq : q ∈ m) : lotO ⟨m⟩ ⟨q.1⟩ = some q.2 := by
  unfold lotO
  show (m.find? fun x => decide (x.1 = q.1)).map (·.2) = some q.2
  induction m with
  | nil => cases hq
  | cons p m ih =>
    rw [List.map_cons] at nd
    obtain ⟨n1, n2⟩ := List.nodup_cons.mp nd
    by_cases c : p.1 = q.1
    · rw [List.find?_cons, decide_eq_true c]
      rcases List.mem_cons.mp hq with rfl | hq
      · rfl
      · exact absurd (show q.1 ∈ m.map (·.1) from List.mem_map.mpr ⟨q, hq, rfl⟩) (by rw [← c]; exact n1)
    · rw [List.find?_cons, decide_eq_false c]
      rcases List.mem_cons.mp hq with rfl | hq
      · exact absurd rfl c
      · exact ih n2 hq
theorem lots_ok {n : Nat} (hn0 : 2 ≤ n) (hn : n ≤ 5) : Ok (m_law_lots (n : Int)) fun x => x.m.length ≤ 3125 ∧ ∃ every, LI n every x.m ∧ ∀ r : List Int, r.length = n → (∀ y ∈ r, 0 ≤ y ∧ y < n) → r ∈ every := by
  have hline : line = 16000000 := rfl
  unfold m_law_lots
  refine Ok.bis (rng_ok (by omega) (by omega)) ?_
  refine Ok.aft (P := fun (s : List (List Int)) => s.length ≤ 3125 ∧ (∀ r ∈ s, r.length = n) ∧ ∀ r : List Int, r.length = n → (∀ y ∈ r, 0 ≤ y ∧ y < n) → r ∈ s) (Ok.mono (forL_ok (fun i (s : List (List Int)) => s.length ≤ 5 ^ i ∧ (∀ r ∈ s, r.length = i) ∧ ∀ r : List Int, r.length = i → (∀ y ∈ r, 0 ≤ y ∧ y < n) → r ∈ s) ⟨Nat.le_refl _, fun r hr => by rw [List.mem_singleton.mp hr]; rfl, fun r hr _ => by rw [List.length_eq_zero_iff.mp hr]; exact List.mem_singleton.mpr rfl⟩ ?_) ?_) ?_
  · rintro i x s hx ⟨h1, h2, h3⟩
    obtain ⟨hi, rfl⟩ := rng_get hx
    have hi4 : i ≤ 4 := by omega
    have hp : 5 ^ i ≤ 625 := by
      have : i = 0 ∨ i = 1 ∨ i = 2 ∨ i = 3 ∨ i = 4 := by omega
      rcases this with rfl | rfl | rfl | rfl | rfl <;> decide
    refine Ok.aft (P := fun (t : List (List Int)) => t.length ≤ 5 * s.length ∧ (∀ r ∈ t, r.length = i + 1) ∧ ∀ row ∈ s, ∀ y : Int, 0 ≤ y → y < n → row ++ [y] ∈ t) (Ok.mono (forL_ok (fun j (t : List (List Int)) => t.length ≤ 5 * j ∧ (∀ r ∈ t, r.length = i + 1) ∧ ∀ k, k < j → ∀ row, s[k]? = some row → ∀ y : Int, 0 ≤ y → y < n → row ++ [y] ∈ t) ⟨Nat.zero_le _, (fun r hr => nomatch hr), fun k hk => absurd hk (Nat.not_lt_zero _)⟩ ?_) ?_) ?_
    · rintro j row t hrow ⟨g1, g2, g3⟩
      have hm := List.mem_of_getElem? hrow
      have hj := (List.getElem?_eq_some_iff.mp hrow).1
      have hlr := h2 row hm
      refine Ok.bis (rng_ok (by omega) (by omega)) ?_
      refine Ok.bis (lcO_map (g := fun y => row ++ [y]) _ fun y _ => Ok.eq (Ok.bis (catO_ok (by simp only [List.length_cons, List.length_nil]; omega)) (Ok.ret rfl))) ?_
      rw [Int.toNat_natCast]
      refine Ok.bis (a := t ++ _) (if_pos ?_) (Ok.ret ⟨_, rfl, ?_, fun r hr => ?_, fun k hk row' hrow' y y0 y1 => ?_⟩)
      · rw [List.length_map, List.length_map, List.length_range]
        omega
      · rw [List.length_append, List.length_map, List.length_map, List.length_range]
        omega
      · rcases List.mem_append.mp hr with hr | hr
        · exact g2 r hr
        · obtain ⟨y, _, rfl⟩ := List.mem_map.mp hr
          rw [List.length_append, hlr]
          rfl
      · by_cases c : k = j
        · subst c
          rw [hrow] at hrow'
          obtain rfl := Option.some.inj hrow'
          exact List.mem_append_right _ (List.mem_map.mpr ⟨y, List.mem_map.mpr ⟨y.toNat, List.mem_range.mpr (by omega), by omega⟩, rfl⟩)
        · exact List.mem_append_left _ (g3 k (by omega) row' hrow' y y0 y1)
    · rintro _ ⟨t, rfl, g1, g2, g3⟩
      refine ⟨t, rfl, g1, g2, fun row hrow y y0 y1 => ?_⟩
      obtain ⟨k, hk⟩ := List.getElem?_of_mem hrow
      exact g3 k (List.getElem?_eq_some_iff.mp hk).1 row hk y y0 y1
    · rintro t ⟨g1, g2, g3⟩
      refine Ok.ret ⟨_, rfl, ?_, g2, fun r hr hb => ?_⟩
      · rw [Nat.pow_succ]
        omega
      · have hne : r ≠ [] := fun e => by rw [e] at hr; cases hr
        have e := List.dropLast_concat_getLast hne
        rw [← e]
        have hy := hb _ (List.getLast_mem hne)
        refine g3 _ (h3 _ (by rw [List.length_dropLast, hr]; rfl) fun y hy => hb y (List.dropLast_subset _ hy)) _ hy.1 hy.2
  · rintro _ ⟨s, rfl, h1, h2, h3⟩
    rw [List.length_map, List.length_range, Int.toNat_natCast] at h1 h2 h3
    refine ⟨s, rfl, Nat.le_trans h1 ?_, h2, h3⟩
    have : n = 2 ∨ n = 3 ∨ n = 4 ∨ n = 5 := by omega
    rcases this with rfl | rfl | rfl | rfl <;> decide
  · rintro s ⟨h1, h2, h3⟩
    refine Ok.aft (P := fun (z : Lot × Nat) => z.2 = s.length ∧ z.1.length ≤ z.2 ∧ LI n s z.1) (Ok.mono (forL_ok (fun i (z : Lot × Nat) => z.2 = i ∧ z.1.length ≤ z.2 ∧ LI n (s.take i) z.1) ⟨rfl, Nat.le_refl _, List.nodup_nil, (fun q hq => nomatch hq), (fun q hq => nomatch hq), fun r hr => by rw [List.take_zero] at hr; cases hr⟩ ?_) ?_) ?_
    · rintro i row ⟨m, c⟩ hrow ⟨z1, z2, z3⟩
      dsimp only at z1 z2 z3
      subst z1
      have hi := (List.getElem?_eq_some_iff.mp hrow).1
      have hlr := h2 row (List.mem_of_getElem? hrow)
      obtain ⟨ts, e, ht⟩ := rounds_ok row (by omega)
      refine Ok.bis (played_ok ht (by omega)) (Ok.bis (a := (addLot m ts row, c + 1)) (if_pos (show c < 100000 by omega)) (Ok.ret ⟨_, rfl, rfl, ?_, ?_⟩))
      · exact Nat.le_trans (sz_len (k := ts) (r := row) m) (Nat.succ_le_succ z2)
      · rw [List.take_add_one, hrow]
        exact z3.add hlr ht
    · rintro _ ⟨⟨m, c⟩, rfl, z1, z2, z3⟩
      rw [List.take_length] at z3
      exact ⟨_, rfl, z1, z2, z3⟩
    · rintro ⟨m, c⟩ ⟨z1, z2, z3⟩
      exact Ok.ret ⟨show m.length ≤ 3125 from by dsimp only at z1 z2; omega, s, z3, h3⟩
theorem law_true (ns : List Int) (hl : ns.length ≤ 63) (hb : ∀ z ∈ ns, Builtin.Int.intBits z ≤ 1048576) : m_law ⟨ns⟩ = some true := by
  have hline : line = 16000000 := rfl
  unfold m_law
  refine Ok.eq (Ok.bis (show rngO (2 : Int) (6 : Int) = some [2, 3, 4, 5] from by decide +kernel) ?_)
  refine Ok.aft2 (P := fun (_ : Unit) => True) (R := fun _ => False) ?hh ?pp ?rr
  case rr => exact fun _ h => h.elim
  case pp =>
    intro _ _
    have e1 : m_relation ([2, 1, 2] : List Int) 0 2 = some ("=" : Str) := by decide +kernel
    have e2 : m_relation ([1, 2, 1] : List Int) 0 2 = some ("open" : Str) := by decide +kernel
    exact Ok.bis e1 (Ok.bis (a := true) (Ok.eq (Ok.tt rfl (Ok.bis e2 (Ok.ret (by rw [eqs_self]))))) (Ok.ret rfl))
  refine Ok.mono (forL_ret (fun _ (_ : Unit) => True) (fun _ => False) trivial ?_) fun _ z => z.imp (fun ⟨s, h, _⟩ => ⟨s, h, trivial⟩) id
  intro i x s hx _
  obtain ⟨n, rfl, n0, n1⟩ : ∃ n : Nat, x = (n : Int) ∧ 2 ≤ n ∧ n ≤ 5 := by
    have := List.mem_of_getElem? hx
    simp only [List.mem_cons, List.not_mem_nil, or_false] at this
    rcases this with rfl | rfl | rfl | rfl
    · exact ⟨2, rfl, by decide, by decide⟩
    · exact ⟨3, rfl, by decide, by decide⟩
    · exact ⟨4, rfl, by decide, by decide⟩
    · exact ⟨5, rfl, by decide, by decide⟩
  refine Ok.bind (lots_ok n0 n1) ?_
  rintro ⟨m⟩ ⟨hm, every, li, ev⟩
  dsimp only at hm li
  refine Ok.bis (a := m.map fun q => TupI.mk q.1) (show lotsW ⟨m⟩ = some _ by unfold lotsW; exact if_pos (show m.length ≤ 1000000 by omega)) ?_
  refine Ok.aft2 (P := fun (_ : Unit) => True) (R := fun _ => False) ?h2 (fun _ _ => Ok.ret (Or.inl ⟨_, rfl, trivial⟩)) (fun _ h => h.elim)
  refine Ok.mono (forL_ret (fun _ (_ : Unit) => True) (fun _ => False) trivial ?_) fun _ z => z.imp (fun ⟨s, h, _⟩ => ⟨s, h, trivial⟩) id
  intro _ k _ hk _
  obtain ⟨q, hq, rfl⟩ := List.mem_map.mp (List.mem_of_getElem? hk)
  obtain ⟨r0, hr0⟩ := li.some q hq
  obtain ⟨hr0l, hr0t⟩ := li.left q hq r0 hr0
  have hql : q.1.length = n := by rw [hr0t.1, hr0l]
  refine Ok.bis (rng_ok (by omega) (by omega)) ?_
  refine Ok.aft2 (P := fun (_ : Unit) => True) (R := fun _ => False) ?h3 (fun _ _ => Ok.ff (by rw [eqs_self]; rfl) (Ok.ret (Or.inl ⟨_, rfl, trivial⟩))) (fun _ h => h.elim)
  refine Ok.mono (forL_ret (fun _ (_ : Unit) => True) (fun _ => False) trivial ?_) fun _ z => z.imp (fun ⟨s, h, _⟩ => ⟨s, h, trivial⟩) id
  intro _ one _ hone _
  rw [Int.toNat_natCast] at hone
  obtain ⟨p, hp, rfl⟩ := List.mem_map.mp (List.mem_of_getElem? hone)
  rw [List.mem_range] at hp
  refine Ok.bis (rng_ok (by omega) (by omega)) ?_
  refine Ok.aft2 (P := fun (_ : Unit) => True) (R := fun _ => False) ?h4 (fun _ _ => Ok.ret (Or.inl ⟨_, rfl, trivial⟩)) (fun _ h => h.elim)
  refine Ok.mono (forL_ret (fun _ (_ : Unit) => True) (fun _ => False) trivial ?_) fun _ z => z.imp (fun ⟨s, h, _⟩ => ⟨s, h, trivial⟩) id
  intro _ two _ htwo _
  rw [Int.toNat_natCast] at htwo
  obtain ⟨p2, hp2, rfl⟩ := List.mem_map.mp (List.mem_of_getElem? htwo)
  rw [List.mem_range] at hp2
  by_cases c : p = p2
  · subst c
    exact Ok.tt eqs_self (Ok.ret (Or.inl ⟨_, rfl, trivial⟩))
  · refine Ok.ff (eqs_no (by omega)) ?_
    refine Ok.bis (relation_eq hr0t (by omega) (show p < q.1.length by omega) (show p2 < q.1.length by omega) c) ?_
    refine Ok.bis (lot_find li.keys hq) ?_
    refine Ok.bis (law_due_is hr0t (by omega) (fun r hr => by
      obtain ⟨a, b⟩ := li.left q hq r hr
      exact ⟨by omega, b⟩) (fun r hr hb ht => ?_) (by omega) (by omega) c) ?_
    · obtain ⟨q', k1, k2, k3⟩ := li.all r (ev r (by omega) (fun y hy => by
        have := hb y hy
        omega)) q.1 ht
      have e1 := lot_find li.keys k1
      have e2 := lot_find li.keys hq
      rw [k2, e2] at e1
      rw [Option.some.inj e1]
      exact k3
    · exact Ok.ff (by rw [eqs_self]; rfl) (Ok.ret (Or.inl ⟨_, rfl, trivial⟩))

/-! ### the end -/
theorem all_mk {l : PySem.W.OpenLaw} {w : World} {K : PySem.W.Frag} {h : Heap} {mg : Str → Option Value} {fa : Addr} (X : K.In h) (GG : h.Ns mainGlobals mg) (hfa : mg "law" = some (.ref fa))
    {f1 : Addr} {od1 an1 : Option Addr} {sl1 : Array (Option Value)} {oc1 kV1 dc1 pm1 cd1 ct1 : Value}
    {f2 : Addr} {od2 an2 : Option Addr} {sl2 : Array (Option Value)} {oc2 kV2 dc2 pm2 cd2 ct2 : Value}
    {f3 : Addr} {od3 an3 : Option Addr} {sl3 : Array (Option Value)} {oc3 kV3 dc3 pm3 cd3 ct3 : Value}
    {f4 : Addr} {od4 an4 : Option Addr} {sl4 : Array (Option Value)} {oc4 kV4 dc4 pm4 cd4 ct4 : Value}
    {f5 : Addr} {od5 an5 : Option Addr} {sl5 : Array (Option Value)} {oc5 kV5 dc5 pm5 cd5 ct5 : Value}
    {f6 : Addr} {od6 an6 : Option Addr} {sl6 : Array (Option Value)} {oc6 kV6 dc6 pm6 cd6 ct6 : Value}
    {f7 : Addr} {od7 an7 : Option Addr} {sl7 : Array (Option Value)} {oc7 kV7 dc7 pm7 cd7 ct7 : Value}
    {f8 : Addr} {od8 an8 : Option Addr} {sl8 : Array (Option Value)} {oc8 kV8 dc8 pm8 cd8 ct8 : Value}
    {f9 : Addr} {od9 an9 : Option Addr} {sl9 : Array (Option Value)} {oc9 kV9 dc9 pm9 cd9 ct9 : Value}
    {f10 : Addr} {od10 an10 : Option Addr} {sl10 : Array (Option Value)} {oc10 kV10 dc10 pm10 cd10 ct10 : Value}
    {f11 : Addr} {od11 an11 : Option Addr} {sl11 : Array (Option Value)} {oc11 kV11 dc11 pm11 cd11 ct11 : Value}
    {f12 : Addr} {od12 an12 : Option Addr} {sl12 : Array (Option Value)} {oc12 kV12 dc12 pm12 cd12 ct12 : Value}
    (a1 : PySem.W.nsIn K mainGlobals "is_an_integer" = some (some (.ref f1))) (l1 : K.lookup f1 = some ⟨oc1, od1, .func (PySem.W.fnOf "is_an_integer" "is_an_integer" (defArgs s_is_an_integer) (defBody s_is_an_integer) (defScope s_is_an_integer) .none kV1 dc1 pm1 an1 cd1 ct1), sl1⟩) (c1 : PySem.W.codeIn K cd1 "is_an_integer" = true) (k1 : PySem.W.keepIn K (.ref f1) = true)
    (a2 : PySem.W.nsIn K mainGlobals "is_within" = some (some (.ref f2))) (l2 : K.lookup f2 = some ⟨oc2, od2, .func (PySem.W.fnOf "is_within" "is_within" (defArgs s_is_within) (defBody s_is_within) (defScope s_is_within) .none kV2 dc2 pm2 an2 cd2 ct2), sl2⟩) (c2 : PySem.W.codeIn K cd2 "is_within" = true) (k2 : PySem.W.keepIn K (.ref f2) = true)
    (a3 : PySem.W.nsIn K mainGlobals "is_row" = some (some (.ref f3))) (l3 : K.lookup f3 = some ⟨oc3, od3, .func (PySem.W.fnOf "is_row" "is_row" (defArgs s_is_row) (defBody s_is_row) (defScope s_is_row) .none kV3 dc3 pm3 an3 cd3 ct3), sl3⟩) (c3 : PySem.W.codeIn K cd3 "is_row" = true) (k3 : PySem.W.keepIn K (.ref f3) = true)
    (a4 : PySem.W.nsIn K mainGlobals "need_place" = some (some (.ref f4))) (l4 : K.lookup f4 = some ⟨oc4, od4, .func (PySem.W.fnOf "need_place" "need_place" (defArgs s_need_place) (defBody s_need_place) (defScope s_need_place) .none kV4 dc4 pm4 an4 cd4 ct4), sl4⟩) (c4 : PySem.W.codeIn K cd4 "need_place" = true) (k4 : PySem.W.keepIn K (.ref f4) = true)
    (a5 : PySem.W.nsIn K mainGlobals "rounds_of" = some (some (.ref f5))) (l5 : K.lookup f5 = some ⟨oc5, od5, .func (PySem.W.fnOf "rounds_of" "rounds_of" (defArgs s_rounds_of) (defBody s_rounds_of) (defScope s_rounds_of) .none kV5 dc5 pm5 an5 cd5 ct5), sl5⟩) (c5 : PySem.W.codeIn K cd5 "rounds_of" = true) (k5 : PySem.W.keepIn K (.ref f5) = true)
    (a6 : PySem.W.nsIn K mainGlobals "is_times" = some (some (.ref f6))) (l6 : K.lookup f6 = some ⟨oc6, od6, .func (PySem.W.fnOf "is_times" "is_times" (defArgs s_is_times) (defBody s_is_times) (defScope s_is_times) .none kV6 dc6 pm6 an6 cd6 ct6), sl6⟩) (c6 : PySem.W.codeIn K cd6 "is_times" = true) (k6 : PySem.W.keepIn K (.ref f6) = true)
    (a7 : PySem.W.nsIn K mainGlobals "need_times" = some (some (.ref f7))) (l7 : K.lookup f7 = some ⟨oc7, od7, .func (PySem.W.fnOf "need_times" "need_times" (defArgs s_need_times) (defBody s_need_times) (defScope s_need_times) .none kV7 dc7 pm7 an7 cd7 ct7), sl7⟩) (c7 : PySem.W.codeIn K cd7 "need_times" = true) (k7 : PySem.W.keepIn K (.ref f7) = true)
    (a8 : PySem.W.nsIn K mainGlobals "relation" = some (some (.ref f8))) (l8 : K.lookup f8 = some ⟨oc8, od8, .func (PySem.W.fnOf "relation" "relation" (defArgs s_relation) (defBody s_relation) (defScope s_relation) .none kV8 dc8 pm8 an8 cd8 ct8), sl8⟩) (c8 : PySem.W.codeIn K cd8 "relation" = true) (k8 : PySem.W.keepIn K (.ref f8) = true)
    (a9 : PySem.W.nsIn K mainGlobals "_law_times" = some (some (.ref f9))) (l9 : K.lookup f9 = some ⟨oc9, od9, .func (PySem.W.fnOf "_law_times" "_law_times" (defArgs s_law_times) (defBody s_law_times) (defScope s_law_times) .none kV9 dc9 pm9 an9 cd9 ct9), sl9⟩) (c9 : PySem.W.codeIn K cd9 "_law_times" = true) (k9 : PySem.W.keepIn K (.ref f9) = true)
    (a10 : PySem.W.nsIn K mainGlobals "_law_lots" = some (some (.ref f10))) (l10 : K.lookup f10 = some ⟨oc10, od10, .func (PySem.W.fnOf "_law_lots" "_law_lots" (defArgs s_law_lots) (defBody s_law_lots) (defScope s_law_lots) .none kV10 dc10 pm10 an10 cd10 ct10), sl10⟩) (c10 : PySem.W.codeIn K cd10 "_law_lots" = true) (k10 : PySem.W.keepIn K (.ref f10) = true)
    (a11 : PySem.W.nsIn K mainGlobals "_law_due" = some (some (.ref f11))) (l11 : K.lookup f11 = some ⟨oc11, od11, .func (PySem.W.fnOf "_law_due" "_law_due" (defArgs s_law_due) (defBody s_law_due) (defScope s_law_due) .none kV11 dc11 pm11 an11 cd11 ct11), sl11⟩) (c11 : PySem.W.codeIn K cd11 "_law_due" = true) (k11 : PySem.W.keepIn K (.ref f11) = true)
    (a12 : PySem.W.nsIn K mainGlobals "law" = some (some (.ref f12))) (l12 : K.lookup f12 = some ⟨oc12, od12, .func (PySem.W.fnOf "law" "law" (defArgs s_law) (defBody s_law) (defScope s_law) .none kV12 dc12 pm12 an12 cd12 ct12), sl12⟩) (c12 : PySem.W.codeIn K cd12 "law" = true) (k12 : PySem.W.keepIn K (.ref f12) = true)
    (z1 : PySem.W.nsIn K mainGlobals "all" = some none)
    (z2 : PySem.W.nsIn K mainGlobals "bool" = some none)
    (z3 : PySem.W.nsIn K mainGlobals "enumerate" = some none)
    (z4 : PySem.W.nsIn K mainGlobals "int" = some none)
    (z5 : PySem.W.nsIn K mainGlobals "isinstance" = some none)
    (z6 : PySem.W.nsIn K mainGlobals "len" = some none)
    (z7 : PySem.W.nsIn K mainGlobals "list" = some none)
    (z8 : PySem.W.nsIn K mainGlobals "max" = some none)
    (z9 : PySem.W.nsIn K mainGlobals "min" = some none)
    (z10 : PySem.W.nsIn K mainGlobals "range" = some none)
    (z11 : PySem.W.nsIn K mainGlobals "tuple" = some none) :
    ∃ fd : FuncData, (∀ (s : Shared) (v : Value), BindsTo s fd ⟨[v], []⟩ [("script", v)]) ∧ ∀ base : Heap, K.In base → base.Ns mainGlobals mg → FnG l.prog w K mg base CX0 6 fa fd ["script"] ((spV (fun (w : Scr × Unit) => m_law w.1)) K) := by
  have e := hfa.symm.trans (PySem.W.mg_of X GG a12)
  cases e
  refine ⟨PySem.W.fnOf "law" "law" (defArgs s_law) (defBody s_law) (defScope s_law) .none kV12 dc12 pm12 an12 cd12 ct12, fun s v => .of_eq rfl, fun base _ _ => ?_⟩
  have z_all : mg "all" = none := PySem.W.mg_none_of X GG z1
  have z_bool : mg "bool" = none := PySem.W.mg_none_of X GG z2
  have z_enumerate : mg "enumerate" = none := PySem.W.mg_none_of X GG z3
  have z_int : mg "int" = none := PySem.W.mg_none_of X GG z4
  have z_isinstance : mg "isinstance" = none := PySem.W.mg_none_of X GG z5
  have z_len : mg "len" = none := PySem.W.mg_none_of X GG z6
  have z_list : mg "list" = none := PySem.W.mg_none_of X GG z7
  have z_max : mg "max" = none := PySem.W.mg_none_of X GG z8
  have z_min : mg "min" = none := PySem.W.mg_none_of X GG z9
  have z_range : mg "range" = none := PySem.W.mg_none_of X GG z10
  have z_tuple : mg "tuple" = none := PySem.W.mg_none_of X GG z11
  have F1 := fun_mk (st := s_is_an_integer) l1 c1 k1
  have c_is_an_integer : Cal l.prog w K mg base "is_an_integer" 1 ["value"] ((spV (fun (w : Int × Unit) => m_is_an_integer w.1)) K) := ⟨f1, _, ok_is_an_integer F1  z_isinstance z_int z_bool, PySem.W.mg_of X GG a1, k1, F1.binds (ps := ["value"]) fun _ _ _ _ _ _ us hl => match us, hl with | [_], _ => rfl⟩
  have F2 := fun_mk (st := s_is_within) l2 c2 k2
  have c_is_within : Cal l.prog w K mg base "is_within" 2 ["value", "least", "most"] ((spV (fun (w : Int × Int × Int × Unit) => m_is_within w.1 w.2.1 w.2.2.1)) K) := ⟨f2, _, ok_is_within F2 c_is_an_integer , PySem.W.mg_of X GG a2, k2, F2.binds (ps := ["value", "least", "most"]) fun _ _ _ _ _ _ us hl => match us, hl with | [_, _, _], _ => rfl⟩
  have F3 := fun_mk (st := s_is_row) l3 c3 k3
  have c_is_row : Cal l.prog w K mg base "is_row" 2 ["value"] ((spV (fun (w : (List Int) × Unit) => m_is_row w.1)) K) := ⟨f3, _, ok_is_row F3 c_is_an_integer z_isinstance z_list z_all, PySem.W.mg_of X GG a3, k3, F3.binds (ps := ["value"]) fun _ _ _ _ _ _ us hl => match us, hl with | [_], _ => rfl⟩
  have F4 := fun_mk (st := s_need_place) l4 c4 k4
  have c_need_place : Cal l.prog w K mg base "need_place" 3 ["place", "size"] ((spV (fun (w : Int × Int × Unit) => m_need_place w.1 w.2.1)) K) := ⟨f4, _, ok_need_place F4 c_is_within , PySem.W.mg_of X GG a4, k4, F4.binds (ps := ["place", "size"]) fun _ _ _ _ _ _ us hl => match us, hl with | [_, _], _ => rfl⟩
  have F5 := fun_mk (st := s_rounds_of) l5 c5 k5
  have c_rounds_of : Cal l.prog w K mg base "rounds_of" 1 ["row"] ((spN (fun (w : (List Int) × Unit) => m_rounds_of w.1)) K) := ⟨f5, _, ok_rounds_of F5  z_min z_len z_enumerate z_max, PySem.W.mg_of X GG a5, k5, F5.binds (ps := ["row"]) fun _ _ _ _ _ _ us hl => match us, hl with | [_], _ => rfl⟩
  have F6 := fun_mk (st := s_is_times) l6 c6 k6
  have c_is_times : Cal l.prog w K mg base "is_times" 3 ["value"] ((spV (fun (w : (List Int) × Unit) => m_is_times w.1)) K) := ⟨f6, _, ok_is_times F6 c_is_row c_rounds_of , PySem.W.mg_of X GG a6, k6, F6.binds (ps := ["value"]) fun _ _ _ _ _ _ us hl => match us, hl with | [_], _ => rfl⟩
  have F7 := fun_mk (st := s_need_times) l7 c7 k7
  have c_need_times : Cal l.prog w K mg base "need_times" 4 ["times"] ((spV (fun (w : (List Int) × Unit) => m_need_times w.1)) K) := ⟨f7, _, ok_need_times F7 c_is_times , PySem.W.mg_of X GG a7, k7, F7.binds (ps := ["times"]) fun _ _ _ _ _ _ us hl => match us, hl with | [_], _ => rfl⟩
  have F8 := fun_mk (st := s_relation) l8 c8 k8
  have c_relation : Cal l.prog w K mg base "relation" 5 ["times", "place", "other"] ((spV (fun (w : (List Int) × Int × Int × Unit) => m_relation w.1 w.2.1 w.2.2.1)) K) := ⟨f8, _, ok_relation F8 c_need_times c_need_place z_len z_min z_max, PySem.W.mg_of X GG a8, k8, F8.binds (ps := ["times", "place", "other"]) fun _ _ _ _ _ _ us hl => match us, hl with | [_, _, _], _ => rfl⟩
  have F9 := fun_mk (st := s_law_times) l9 c9 k9
  have c_law_times : Cal l.prog w K mg base "_law_times" 1 ["row"] ((spN (fun (w : (List Int) × Unit) => m_law_times w.1)) K) := ⟨f9, _, ok_law_times F9  z_len z_list z_range z_enumerate z_max, PySem.W.mg_of X GG a9, k9, F9.binds (ps := ["row"]) fun _ _ _ _ _ _ us hl => match us, hl with | [_], _ => rfl⟩
  have F10 := fun_mk (st := s_law_lots) l10 c10 k10
  have c_law_lots : Cal l.prog w K mg base "_law_lots" 2 ["size"] ((spV (fun (w : Int × Unit) => m_law_lots w.1)) K) := ⟨f10, _, ok_law_lots F10 c_law_times z_range z_tuple, PySem.W.mg_of X GG a10, k10, F10.binds (ps := ["size"]) fun _ _ _ _ _ _ us hl => match us, hl with | [_], _ => rfl⟩
  have F11 := fun_mk (st := s_law_due) l11 c11 k11
  have c_law_due : Cal l.prog w K mg base "_law_due" 1 ["rows", "one", "two"] ((spV (fun (w : (List (List Int)) × Int × Int × Unit) => m_law_due w.1 w.2.1 w.2.2.1)) K) := ⟨f11, _, ok_law_due F11  z_int, PySem.W.mg_of X GG a11, k11, F11.binds (ps := ["rows", "one", "two"]) fun _ _ _ _ _ _ us hl => match us, hl with | [_, _, _], _ => rfl⟩
  have F12 := fun_mk (st := s_law) l12 c12 k12
  exact ok_law F12 c_law_lots c_relation c_law_due z_range z_list

end Cl
open PySem PySem.W PyProof.Rows
set_option maxHeartbeats 0 in
theorem PySem.Challenge.cw_peakpeel_k07_relations_of_short_rows_holds : PySem.Challenge.rw_peakpeel_k07_relations_of_short_rows.Holds := by
  w_on; o_law; k_head; (case hw => w_witness2)
  k_fill
  refine PX.walkG (l := PySem.Challenge.rw_peakpeel_k07_relations_of_short_rows) (n := 63) (k := 6) (x := "script") (CX := fun _ => L2.CX0) (sp := fun w => (PX.spV (fun (w : PX.Scr × Unit) => Cl.m_law w.1)) _) rfl (by decide) rfl ⟨rfl, by decide, by decide⟩ (fun w h Y => PySem.W.kIn_of Y) ?F
    (fun _ H a ns hl hb _ hS => ⟨H, (⟨ns⟩, ()), true, PX.Ex.refl H, ⟨.ref a, [], rfl, ⟨a, rfl, hS⟩, rfl⟩, Cl.law_true ns hl hb, fun v H2 G2 _ r => r⟩) (fun _ _ _ _ _ h => h)
  case F =>
    intro w mg fa h KX GG hmg
    refine' Cl.all_mk KX GG hmg ?a1 ?l1 ?c1 ?k1 ?a2 ?l2 ?c2 ?k2 ?a3 ?l3 ?c3 ?k3 ?a4 ?l4 ?c4 ?k4 ?a5 ?l5 ?c5 ?k5 ?a6 ?l6 ?c6 ?k6 ?a7 ?l7 ?c7 ?k7 ?a8 ?l8 ?c8 ?k8 ?a9 ?l9 ?c9 ?k9 ?a10 ?l10 ?c10 ?k10 ?a11 ?l11 ?c11 ?k11 ?a12 ?l12 ?c12 ?k12 ?z1 ?z2 ?z3 ?z4 ?z5 ?z6 ?z7 ?z8 ?z9 ?z10 ?z11
    (case a1 => k_is); (case l1 => k_is); (case c1 => k_is); (case k1 => k_is)
    (case a2 => k_is); (case l2 => k_is); (case c2 => k_is); (case k2 => k_is)
    (case a3 => k_is); (case l3 => k_is); (case c3 => k_is); (case k3 => k_is)
    (case a4 => k_is); (case l4 => k_is); (case c4 => k_is); (case k4 => k_is)
    (case a5 => k_is); (case l5 => k_is); (case c5 => k_is); (case k5 => k_is)
    (case a6 => k_is); (case l6 => k_is); (case c6 => k_is); (case k6 => k_is)
    (case a7 => k_is); (case l7 => k_is); (case c7 => k_is); (case k7 => k_is)
    (case a8 => k_is); (case l8 => k_is); (case c8 => k_is); (case k8 => k_is)
    (case a9 => k_is); (case l9 => k_is); (case c9 => k_is); (case k9 => k_is)
    (case a10 => k_is); (case l10 => k_is); (case c10 => k_is); (case k10 => k_is)
    (case a11 => k_is); (case l11 => k_is); (case c11 => k_is); (case k11 => k_is)
    (case a12 => k_is); (case l12 => k_is); (case c12 => k_is); (case k12 => k_is)
    (case z1 => k_is); (case z2 => k_is); (case z3 => k_is); (case z4 => k_is)
    (case z5 => k_is); (case z6 => k_is); (case z7 => k_is); (case z8 => k_is)
    (case z9 => k_is); (case z10 => k_is); (case z11 => k_is)
