import PyProof.Rows.All
import Wide.All
import OpenK.AllK
import Wide.FinOn
import HandS.ForMost
import HandS.Wide
import HandS.EndBits
import HandS.Conv
import HandS.Style
import HandS.Zip
import HandS.IsInst
import KE.DatumOrd
import HandS.GenList
import PyProof.Rows.RegStrFacts
import KE.KDictZip
import HandS.ListItems
import HandS.Deep
import HandS.ExcIs
import HandS.ExcValue
import HandS.RaiseMore
import HandS.FStr
import PySem.Challenge.RW_peakpeel_k05_times_judged
set_option Elab.async false
set_option linter.all false
set_option maxRecDepth 100000
set_option maxHeartbeats 20000000
/-! PXa: readings by typed data: states, expressions. -/
namespace PX
open PySem L2

/-! ### heaps -/
def Ex (H H' : Hp) : Prop := ∀ a o, H a = some o → H' a = some o
theorem Ex.refl (H : Hp) : Ex H H := fun _ _ h => h
theorem Ex.trans {H H1 H2 : Hp} (a : Ex H H1) (b : Ex H1 H2) : Ex H H2 := fun x o h => b x o (a x o h)
theorem Ex.new {H : Hp} {p : Addr} {o : HO} (h : H p = none) : Ex H (upd H p o) := fun a u e => by
  rw [upd_ne (ne_of_none e h)]
  exact e
theorem Ex.upd_sub {G H : Hp} {p : Addr} {o : HO} (e : Ex G H) (h : H p = some o) : Ex (upd G p o) H := fun a u q => by
  by_cases c : a = p
  · subst c
    rw [upd_same] at q
    cases q
    exact h
  · rw [upd_ne c] at q
    exact e a u q
theorem none_back {H H' : Hp} {p : Addr} (e : Ex H H') (h : H' p = none) : H p = none := by
  cases h1 : H p with
  | none => rfl
  | some o =>
    rw [e p o h1] at h
    cases h

def Nt (u : HO) : Prop := ∀ xs, u ≠ .tup xs
/-- a step from (H, G) to (H', G'): G what stands for good, H all that is tracked; only m may change -/
structure Rc (m : List Addr) (H G H' G' : Hp) : Prop where
  ex : Ex G G'
  sub : Ex G' H'
  keep : ∀ b u, b ∉ m → H b = some u → H' b = some u
  dom : ∀ b u, H b = some u → ∃ u', H' b = some u'
  fr : ∀ b u, H b = some u → Nt u → G b = none → G' b = none
  tp : ∀ b u, H b = some u → Nt u → ∀ u', H' b = some u' → Nt u'
theorem Rc.refl {m : List Addr} {H G : Hp} (h : Ex G H) : Rc m H G H G := ⟨Ex.refl G, h, fun _ _ _ e => e, fun _ u e => ⟨u, e⟩, fun _ _ _ _ e => e, fun _ u e n u' e' => by rw [e] at e'; cases e'; exact n⟩
theorem Rc.trans {m : List Addr} {H G H1 G1 H2 G2 : Hp} (a : Rc m H G H1 G1) (b : Rc m H1 G1 H2 G2) : Rc m H G H2 G2 where
  ex := a.ex.trans b.ex
  sub := b.sub
  keep := fun x u n e => b.keep x u n (a.keep x u n e)
  dom := fun x u e => by
    obtain ⟨u1, e1⟩ := a.dom x u e
    exact b.dom x u1 e1
  fr := fun x u e t n => by
    obtain ⟨u1, e1⟩ := a.dom x u e
    exact b.fr x u1 e1 (a.tp x u e t u1 e1) (a.fr x u e t n)
  tp := fun x u e t u' e' => by
    obtain ⟨u1, e1⟩ := a.dom x u e
    exact b.tp x u1 e1 (a.tp x u e t u1 e1) u' e'
theorem Rc.mono {m m' : List Addr} {H G H1 G1 : Hp} (a : Rc m H G H1 G1) (h : ∀ b, b ∈ m → b ∈ m') : Rc m' H G H1 G1 :=
  ⟨a.ex, a.sub, fun b u n e => a.keep b u (fun z => n (h b z)) e, a.dom, a.fr, a.tp⟩
theorem Rc.any {m : List Addr} {H G H1 G1 : Hp} (a : Rc [] H G H1 G1) : Rc m H G H1 G1 := a.mono fun _ h => nomatch h
/-- a step without changes behind one with changes -/
theorem Rc.then {m : List Addr} {H G H1 G1 H2 G2 : Hp} (a : Rc m H G H1 G1) (b : Rc [] H1 G1 H2 G2) : Rc m H G H2 G2 := a.trans b.any
theorem Rc.exH {H G H1 G1 : Hp} (a : Rc [] H G H1 G1) : Ex H H1 := fun b u e => a.keep b u (fun z => nomatch z) e
theorem Rc.new {m : List Addr} {H G : Hp} {p : Addr} {o : HO} (h : Ex G H) (n : H p = none) : Rc m H G (upd H p o) G :=
  ⟨Ex.refl G, h.trans (Ex.new n), fun b u _ e => Ex.new n b u e, fun b u e => ⟨u, Ex.new n b u e⟩, fun _ _ _ _ e => e, fun b u e t u' e' => by rw [Ex.new n b u e] at e'; cases e'; exact t⟩
/-- a new thing that stands for good -/
theorem Rc.newG {m : List Addr} {H G : Hp} {p : Addr} {o : HO} (h : Ex G H) (n : H p = none) : Rc m H G (upd H p o) (upd G p o) where
  ex := Ex.new (none_back h n)
  sub := fun a u q => by
    by_cases c : a = p
    · subst c
      rw [upd_same] at q ⊢
      exact q
    · rw [upd_ne c] at q ⊢
      exact h a u q
  keep := fun b u _ e => Ex.new n b u e
  dom := fun b u e => ⟨u, Ex.new n b u e⟩
  fr := fun b u e _ g => by
    rw [upd_ne (ne_of_none e n)]
    exact g
  tp := fun b u e t u' e' => by
    rw [Ex.new n b u e] at e'
    cases e'
    exact t
/-- what is ours, and new since (H, G), may be made to stand for good -/
theorem Rc.freeze {m : List Addr} {H G H1 G1 : Hp} {p : Addr} {o : HO} (a : Rc m H G H1 G1) (n : H p = none) (g : G1 p = none) (h : H1 p = some o) : Rc m H G H1 (upd G1 p o) :=
  ⟨a.ex.trans (Ex.new g), a.sub.upd_sub h, a.keep, a.dom, fun b u e t q => by
    rw [upd_ne (ne_of_none e n)]
    exact a.fr b u e t q, a.tp⟩
/-- a tuple that is tracked may stand for good -/
theorem Rc.adopt {m : List Addr} {H G H1 G1 : Hp} {p : Addr} {xs : List V} (a : Rc m H G H1 G1) (h : H1 p = some (.tup xs)) : Rc m H G H1 (upd G1 p (.tup xs)) :=
  ⟨fun b u e => by
    by_cases c : b = p
    · subst c
      have := a.sub _ _ (a.ex _ _ e)
      rw [h] at this
      rw [upd_same]
      exact this
    · rw [upd_ne c]
      exact a.ex b u e, a.sub.upd_sub h, a.keep, a.dom, fun b u e t q => by
    by_cases c : b = p
    · subst c
      exact absurd rfl (a.tp _ _ e t _ h xs)
    · rw [upd_ne c]
      exact a.fr b u e t q, a.tp⟩
/-- a write at p, which is new since (H, G), or in m -/
theorem Rc.write {m : List Addr} {H G H1 G1 : Hp} {p : Addr} {o : HO} (a : Rc m H G H1 G1) (n : H p = none ∨ p ∈ m) (g : G1 p = none) (ht : Nt o := by intro _ z; cases z) : Rc m H G (upd H1 p o) G1 where
  ex := a.ex
  sub := fun b u e => by
    rw [upd_ne (ne_of_none e g)]
    exact a.sub b u e
  keep := fun b u nb e => by
    have hb : b ≠ p := fun z => by
      subst z
      rcases n with n | n
      · rw [n] at e
        cases e
      · exact nb n
    rw [upd_ne hb]
    exact a.keep b u nb e
  dom := fun b u e => by
    by_cases c : b = p
    · subst c
      exact ⟨o, upd_same⟩
    · obtain ⟨u', e'⟩ := a.dom b u e
      exact ⟨u', by rw [upd_ne c]; exact e'⟩
  fr := a.fr
  tp := fun b u e t u' e' => by
    by_cases c : b = p
    · subst c
      rw [upd_same] at e'
      cases e'
      exact ht
    · rw [upd_ne c] at e'
      exact a.tp b u e t u' e'

/-! ### typed data -/
class Rep (α : Type) where
  rel : PySem.W.Frag → Hp → V → α → Prop
  mono : ∀ {K : PySem.W.Frag} {G G' : Hp} {v : V} {x : α}, Ex G G' → rel K G v x → rel K G' v x
/-- data without addresses -/
class Scal (α : Type) extends Rep α where
  enc : α → V
  is : ∀ {K : PySem.W.Frag} {G : Hp} {v : V} {x : α}, rel K G v x ↔ v = enc x
instance : Scal Int where
  rel := fun _ _ v x => v = .int x
  mono := fun _ h => h
  enc := .int
  is := Iff.rfl
instance : Scal Bool where
  rel := fun _ _ v x => v = .bl x
  mono := fun _ h => h
  enc := .bl
  is := Iff.rfl
instance : Scal Str where
  rel := fun _ _ v x => v = .str x
  mono := fun _ h => h
  enc := .str
  is := Iff.rfl
instance : Scal Unit where
  rel := fun _ _ v _ => v = .non
  mono := fun _ h => h
  enc := fun _ => .non
  is := Iff.rfl
theorem scal_any {α : Type} [Scal α] {K : PySem.W.Frag} {G G' : Hp} {v : V} {x : α} (h : Rep.rel K G v x) : Rep.rel K G' v x := Scal.is.mpr (Scal.is.mp h)
theorem Paired.imp {α β : Type} {F F' : α → β → Prop} (h : ∀ a b, F a b → F' a b) : ∀ {l : List α} {r : List β}, Paired F l r → Paired F' l r
  | _, _, .nil => .nil
  | _, _, .cons a b => .cons (h _ _ a) (Paired.imp h b)
theorem Paired.len {α β : Type} {F : α → β → Prop} : ∀ {l : List α} {r : List β}, Paired F l r → l.length = r.length
  | _, _, .nil => rfl
  | _, _, .cons _ b => by rw [List.length_cons, List.length_cons, Paired.len b]
theorem Paired.get {α β : Type} {F : α → β → Prop} : ∀ {l : List α} {r : List β} {i : Nat} {y : β}, Paired F l r → r[i]? = some y → ∃ x, l[i]? = some x ∧ F x y
  | _, _, _, _, .nil, e => by simp at e
  | _, _, 0, _, .cons a _, e => by
    simp at e
    subst e
    exact ⟨_, rfl, a⟩
  | _, _, i + 1, y, .cons _ b, e => by
    obtain ⟨x, h1, h2⟩ := Paired.get (i := i) (y := y) b (by simpa using e)
    exact ⟨x, by simpa using h1, h2⟩
theorem Paired.getL {α β : Type} {F : α → β → Prop} : ∀ {l : List α} {r : List β} {i : Nat} {x : α}, Paired F l r → l[i]? = some x → ∃ y, r[i]? = some y ∧ F x y
  | _, _, _, _, .nil, e => by simp at e
  | _, _, 0, _, .cons a _, e => by
    simp at e
    subst e
    exact ⟨_, rfl, a⟩
  | _, _, i + 1, x, .cons _ b, e => by
    obtain ⟨y, h1, h2⟩ := Paired.getL (i := i) (x := x) b (by simpa using e)
    exact ⟨y, by simpa using h1, h2⟩
theorem Paired.append {α β : Type} {F : α → β → Prop} : ∀ {l l' : List α} {r r' : List β}, Paired F l r → Paired F l' r' → Paired F (l ++ l') (r ++ r')
  | _, _, _, _, .nil, s => s
  | _, _, _, _, .cons a b, s => .cons a (Paired.append b s)
theorem Paired.take {α β : Type} {F : α → β → Prop} : ∀ {l : List α} {r : List β} (n : Nat), Paired F l r → Paired F (l.take n) (r.take n)
  | _, _, 0, _ => by rw [List.take_zero, List.take_zero]; exact .nil
  | _, _, _ + 1, .nil => .nil
  | _, _, n + 1, .cons a b => .cons a (Paired.take n b)
theorem Paired.drop {α β : Type} {F : α → β → Prop} : ∀ {l : List α} {r : List β} (n : Nat), Paired F l r → Paired F (l.drop n) (r.drop n)
  | _, _, 0, h => h
  | _, _, _ + 1, .nil => .nil
  | _, _, n + 1, .cons _ b => Paired.drop n b
theorem Paired.reverse {α β : Type} {F : α → β → Prop} : ∀ {l : List α} {r : List β}, Paired F l r → Paired F l.reverse r.reverse
  | _, _, .nil => .nil
  | _, _, .cons a b => by
    rw [List.reverse_cons, List.reverse_cons]
    exact Paired.append (Paired.reverse b) (.cons a .nil)
theorem Paired.set {α β : Type} {F : α → β → Prop} {x : α} {y : β} (h : F x y) : ∀ {l : List α} {r : List β} (i : Nat), Paired F l r → Paired F (l.set i x) (r.set i y)
  | _, _, _, .nil => .nil
  | _, _, 0, .cons _ b => .cons h b
  | _, _, i + 1, .cons a b => .cons a (Paired.set h i b)
abbrev Rels {α : Type} [Rep α] (K : PySem.W.Frag) (G : Hp) : List V → List α → Prop := Paired (Rep.rel K G)
theorem Rels.mono {α : Type} [Rep α] {K : PySem.W.Frag} {G G' : Hp} {vs : List V} {xs : List α} (e : Ex G G') (h : Rels K G vs xs) : Rels K G' vs xs := Paired.imp (fun _ _ q => Rep.mono e q) h
instance {α : Type} [Rep α] : Rep (List α) where
  rel := fun K G v xs => ∃ a vs, v = .ref a ∧ G a = some (.lst vs) ∧ Rels K G vs xs
  mono := fun e ⟨a, vs, h1, h2, h3⟩ => ⟨a, vs, h1, e a _ h2, Rels.mono e h3⟩
instance {α β : Type} [Rep α] [Rep β] : Rep (α × β) where
  rel := fun K G v x => ∃ a u w, v = .ref a ∧ G a = some (.tup [u, w]) ∧ Rep.rel K G u x.1 ∧ Rep.rel K G w x.2
  mono := fun e ⟨a, u, w, h1, h2, h3, h4⟩ => ⟨a, u, w, h1, e a _ h2, Rep.mono e h3, Rep.mono e h4⟩
/-- the law's script: it may stand locked -/
structure Scr where
  l : List Int
instance : Rep Scr where
  rel := fun K G v x => ∃ a, v = .ref a ∧ SqL K G a (x.l.map .int)
  mono := fun e ⟨a, h1, h2⟩ => ⟨a, h1, by
    rcases h2 with (h2 | ⟨o, h2⟩) | h2
    · exact .inl (.inl (e _ _ h2))
    · exact .inl (.inr ⟨o, e _ _ h2⟩)
    · exact .inr h2⟩
theorem rels_int {K : PySem.W.Frag} {G : Hp} : ∀ {vs : List V} {xs : List Int}, Rels K G vs xs → vs = xs.map .int
  | _, _, .nil => rfl
  | _, _, .cons h t => by
    rw [List.map_cons, rels_int t, show _ = V.int _ from h]
theorem rels_of_int {K : PySem.W.Frag} {G : Hp} : ∀ (xs : List Int), Rels K G (xs.map .int) xs
  | [] => .nil
  | _ :: t => .cons rfl (rels_of_int t)
theorem rels_bl {K : PySem.W.Frag} {G : Hp} : ∀ {vs : List V} {xs : List Bool}, Rels K G vs xs → vs = xs.map .bl
  | _, _, .nil => rfl
  | _, _, .cons h t => by
    rw [List.map_cons, rels_bl t, show _ = V.bl _ from h]

/-- a list at p that is ours -/
def Own {α : Type} [Rep α] (K : PySem.W.Frag) (H G : Hp) (p : Addr) (xs : List α) : Prop := ∃ vs, H p = some (.lst vs) ∧ G p = none ∧ Rels K G vs xs
theorem Own.step {α : Type} [Rep α] {K : PySem.W.Frag} {m : List Addr} {H G H1 G1 : Hp} {p : Addr} {xs : List α} (h : Own K H G p xs) (s : Rc m H G H1 G1) (n : p ∉ m) : Own K H1 G1 p xs := by
  obtain ⟨vs, h1, h2, h3⟩ := h
  exact ⟨vs, s.keep p _ n h1, s.fr p _ h1 (fun _ z => by cases z) h2, Rels.mono s.ex h3⟩
theorem Own.step0 {α : Type} [Rep α] {K : PySem.W.Frag} {H G H1 G1 : Hp} {p : Addr} {xs : List α} (h : Own K H G p xs) (s : Rc [] H G H1 G1) : Own K H1 G1 p xs := h.step s fun z => nomatch z
theorem Own.ne {α : Type} [Rep α] {K : PySem.W.Frag} {H G : Hp} {p q : Addr} {xs : List α} (h : Own K H G p xs) (n : H q = none) : p ≠ q := by
  obtain ⟨vs, h1, _⟩ := h
  exact ne_of_none h1 n

/-! ### what runs, told by what is wanted behind -/
section
variable {X : Cx} {σ : L2.St} {H : Hp}
def wpE (X : Cx) (e : Expr) : TE := fun σ H Q => ∀ (pins : List (Addr × Obj)) (s : Shared), Inv X pins σ H s → wpAny (model X.prog X.w) X.A (eval e X.env) (EP X pins σ Q) X.xe s
def wpT (X : Cx) (e : Expr) : TT := fun σ H Q => ∀ (pins : List (Addr × Obj)) (s : Shared), Inv X pins σ H s → wpAny (model X.prog X.w) X.A (isTrue e X.env (eval e X.env)) (TP X pins σ Q) X.xe s
def wpW (X : Cx) (e : Expr) : TT := fun σ H Q => ∀ (whole : Sem Value) (pins : List (Addr × Obj)) (s : Shared), Inv X pins σ H s → wpAny (model X.prog X.w) X.A (isTrue e X.env whole) (TP X pins σ Q) X.xe s
def wpA (X : Cx) (es : List Expr) : TA := fun σ H Q => ∀ (pos : Pos) (pins : List (Addr × Obj)) (s : Shared), Inv X pins σ H s → wpAny (model X.prog X.w) X.A (spliced (backTo pos (starEach es X.env))) (AP X pins σ Q) X.xe s
def wpS (X : Cx) (st : Stmt) : TS := fun D σ H => ∀ (pins : List (Addr × Obj)) (s : Shared), Inv X pins σ H s → wpAny (model X.prog X.w) X.A (exec st X.env) (SP X pins D) X.xe s
def wpB (X : Cx) (st : List Stmt) : TS := fun D σ H => ∀ (pins : List (Addr × Obj)) (s : Shared), Inv X pins σ H s → wpAny (model X.prog X.w) X.A (execs st X.env) (SP X pins D) X.xe s
theorem pe_wp {e : Expr} : PE X e (wpE X e) := ⟨fun pins s _ _ _ I h => h pins s I⟩
theorem pt_wp {e : Expr} : PT X e (wpT X e) := ⟨fun pins s _ _ _ I h => h pins s I⟩
theorem pw_wp {e : Expr} : PW X e (wpW X e) := ⟨fun w pins s _ _ _ I h => h w pins s I⟩
theorem pa_wp {es : List Expr} : PA X es (wpA X es) := ⟨fun pos pins s _ _ _ I h => h pos pins s I⟩
theorem ps_wp {st : Stmt} : PS X st (wpS X st) := ⟨fun pins s _ _ _ I h => h pins s I⟩
theorem pss_wp {st : List Stmt} : PSs X st (wpB X st) := ⟨fun pins s _ _ _ I h => h pins s I⟩
theorem toE {e : Expr} {t : TE} {Q : VK} (h : PE X e t) (q : t σ H Q) : wpE X e σ H Q := fun pins s I => h.run pins s σ H Q I q
theorem toT {e : Expr} {t : TT} {Q : Bool → Hp → Prop} (h : PT X e t) (q : t σ H Q) : wpT X e σ H Q := fun pins s I => h.run pins s σ H Q I q
theorem toW {e : Expr} {t : TT} {Q : Bool → Hp → Prop} (h : PW X e t) (q : t σ H Q) : wpW X e σ H Q := fun w pins s I => h.run w pins s σ H Q I q
theorem toA {es : List Expr} {t : TA} {Q : List V → Hp → Prop} (h : PA X es t) (q : t σ H Q) : wpA X es σ H Q := fun pos pins s I => h.run pos pins s σ H Q I q
theorem toS {st : Stmt} {t : TS} {D : Ends} (h : PS X st t) (q : t D σ H) : wpS X st D σ H := fun pins s I => h.run pins s σ H D I q
theorem toB {st : List Stmt} {t : TS} {D : Ends} (h : PSs X st t) (q : t D σ H) : wpB X st D σ H := fun pins s I => h.run pins s σ H D I q
theorem wpE_mono {e : Expr} {Q Q' : VK} (k : ∀ v H, Q v H → Q' v H) (h : wpE X e σ H Q) : wpE X e σ H Q' := fun pins s I => thn (h pins s I) fun _ _ ⟨v, H', I', r, q⟩ => ⟨v, H', I', r, k v H' q⟩
theorem wpT_mono {e : Expr} {Q Q' : Bool → Hp → Prop} (k : ∀ v H, Q v H → Q' v H) (h : wpT X e σ H Q) : wpT X e σ H Q' := fun pins s I => thn (h pins s I) fun b _ ⟨H', I', q⟩ => ⟨H', I', k b H' q⟩
/-- every list that is tracked has a length that Python allows -/
theorem wpE_len {e : Expr} {Q : VK} (h : (∀ a vs, H a = some (.lst vs) → vs.length ≤ sizeLine) → wpE X e σ H Q) : wpE X e σ H Q := fun pins s I => h (fun a vs e => (I.hok a _ e).1) pins s I
theorem wpS_len {st : Stmt} {D : Ends} (h : (∀ a vs, H a = some (.lst vs) → vs.length ≤ sizeLine) → wpS X st D σ H) : wpS X st D σ H := fun pins s I => h (fun a vs e => (I.hok a _ e).1) pins s I

/-! ### what an expression gives -/
variable {G : Hp}
/-- a value; nothing changes -/
def EvX {α : Type} [Rep α] (X : Cx) (e : Expr) (σ : L2.St) (H G : Hp) (x : α) : Prop := ∀ H1 G1, Rc [] H G H1 G1 → ∀ Q : VK, (∀ v H2 G2, Rc [] H1 G1 H2 G2 → Rep.rel X.K G2 v x → Q v H2) → wpE X e σ H1 Q
/-- a new list -/
def EvN {α : Type} [Rep α] (X : Cx) (e : Expr) (σ : L2.St) (H G : Hp) (xs : List α) : Prop := ∀ H1 G1, Rc [] H G H1 G1 → ∀ Q : VK, (∀ p H2 G2, Rc [] H1 G1 H2 G2 → H1 p = none → Own X.K H2 G2 p xs → Q (.ref p) H2) → wpE X e σ H1 Q
/-- a test -/
def EvT (X : Cx) (e : Expr) (σ : L2.St) (H G : Hp) (b : Bool) : Prop := ∀ H1 G1, Rc [] H G H1 G1 → ∀ Q : Bool → Hp → Prop, (∀ H2 G2, Rc [] H1 G1 H2 G2 → Q b H2) → wpT X e σ H1 Q
def EvW (X : Cx) (e : Expr) (σ : L2.St) (H G : Hp) (b : Bool) : Prop := ∀ H1 G1, Rc [] H G H1 G1 → ∀ Q : Bool → Hp → Prop, (∀ H2 G2, Rc [] H1 G1 H2 G2 → Q b H2) → wpW X e σ H1 Q
/-- arguments -/
class ArgsR (τ : Type) where
  n : Nat
  rel : PySem.W.Frag → Hp → List V → τ → Prop
  mono : ∀ {K : PySem.W.Frag} {G G' : Hp} {vs : List V} {x : τ}, Ex G G' → rel K G vs x → rel K G' vs x
  len : ∀ {K : PySem.W.Frag} {G : Hp} {vs : List V} {x : τ}, rel K G vs x → vs.length = n
instance : ArgsR Unit where
  n := 0
  len := fun h => by rw [show _ = [] from h]; rfl
  rel := fun _ _ vs _ => vs = []
  mono := fun _ h => h
instance {α τ : Type} [Rep α] [ArgsR τ] : ArgsR (α × τ) where
  n := ArgsR.n τ + 1
  len := fun ⟨_, _, h1, _, h3⟩ => by rw [h1, List.length_cons, ArgsR.len h3]
  rel := fun K G vs x => ∃ v r, vs = v :: r ∧ Rep.rel K G v x.1 ∧ ArgsR.rel K G r x.2
  mono := fun e ⟨v, r, h1, h2, h3⟩ => ⟨v, r, h1, Rep.mono e h2, ArgsR.mono e h3⟩
def EvA {τ : Type} [ArgsR τ] (X : Cx) (es : List Expr) (σ : L2.St) (H G : Hp) (x : τ) : Prop := ∀ H1 G1, Rc [] H G H1 G1 → ∀ Q : List V → Hp → Prop, (∀ vs H2 G2, Rc [] H1 G1 H2 G2 → ArgsR.rel X.K G2 vs x → Q vs H2) → wpA X es σ H1 Q
section
variable {α β : Type} [Rep α] [Rep β] {a b c e : Expr} {pos : Pos} {x : α} {y : β}
theorem EvX.go {Q : VK} (h : EvX X e σ H G x) (g : Ex G H) (k : ∀ v H2 G2, Rc [] H G H2 G2 → Rep.rel X.K G2 v x → Q v H2) : wpE X e σ H Q := h H G (Rc.refl g) Q k
theorem EvN.go {xs : List α} {Q : VK} (h : EvN X e σ H G xs) (g : Ex G H) (k : ∀ p H2 G2, Rc [] H G H2 G2 → H p = none → Own X.K H2 G2 p xs → Q (.ref p) H2) : wpE X e σ H Q := h H G (Rc.refl g) Q k
theorem EvT.go {t : Bool} {Q : Bool → Hp → Prop} (h : EvT X e σ H G t) (g : Ex G H) (k : ∀ H2 G2, Rc [] H G H2 G2 → Q t H2) : wpT X e σ H Q := h H G (Rc.refl g) Q k
theorem EvX.mono {H1 G1 : Hp} (h : EvX X e σ H G x) (s : Rc [] H G H1 G1) : EvX X e σ H1 G1 x := fun H2 G2 r => h H2 G2 (s.trans r)
theorem EvN.mono {xs : List α} {H1 G1 : Hp} (h : EvN X e σ H G xs) (s : Rc [] H G H1 G1) : EvN X e σ H1 G1 xs := fun H2 G2 r => h H2 G2 (s.trans r)
theorem EvT.mono {t : Bool} {H1 G1 : Hp} (h : EvT X e σ H G t) (s : Rc [] H G H1 G1) : EvT X e σ H1 G1 t := fun H2 G2 r => h H2 G2 (s.trans r)
/-- a new list, taken as a value -/
theorem EvN.val {xs : List α} (h : EvN X e σ H G xs) : EvX X e σ H G xs := fun H1 G1 s Q k => h H1 G1 s Q fun p H2 G2 r np ⟨vs, h1, h2, h3⟩ =>
  k (.ref p) H2 (upd G2 p (.lst vs)) (r.freeze np h2 h1) ⟨p, vs, rfl, upd_same, Rels.mono (Ex.new h2) h3⟩
theorem EvX.is {x' : α} (h : EvX X e σ H G x) (q : x = x') : EvX X e σ H G x' := q ▸ h
theorem EvN.is {xs xs' : List α} (h : EvN X e σ H G xs) (q : xs = xs') : EvN X e σ H G xs' := q ▸ h
theorem EvT.is {t t' : Bool} (h : EvT X e σ H G t) (q : t = t') : EvT X e σ H G t' := q ▸ h
/-- a list of ours is read (as one that stands), and what comes out has no address -/
theorem EvX.lend {γ : Type} [Scal γ] {z : γ} {p : Addr} {vs : List V} (h1 : H p = some (.lst vs)) (h2 : G p = none) (h : EvX X e σ H (upd G p (.lst vs)) z) : EvX X e σ H G z := fun H1 G1 s Q k => by
  have h3 : H1 p = some (.lst vs) := s.exH p _ h1
  have h4 : G1 p = none := s.fr p _ h1 (fun _ z => by cases z) h2
  have s' : Rc [] H (upd G p (.lst vs)) H1 (upd G1 p (.lst vs)) := ⟨fun b u q => by
      by_cases c : b = p
      · subst c
        rw [upd_same] at q ⊢
        exact q
      · rw [upd_ne c] at q ⊢
        exact s.ex b u q, s.sub.upd_sub h3, s.keep, s.dom, fun b u q t n => by
      by_cases c : b = p
      · subst c
        rw [upd_same] at n
        cases n
      · rw [upd_ne c] at n ⊢
        exact s.fr b u q t n, s.tp⟩
  refine h H1 _ s' Q fun v H2 G2 r q => k v H2 G1 ⟨Ex.refl G1, s.sub.trans r.exH, r.keep, r.dom, fun _ _ _ _ n => n, r.tp⟩ (scal_any q)
theorem EvT.lend {t : Bool} {p : Addr} {vs : List V} (h1 : H p = some (.lst vs)) (h2 : G p = none) (h : EvT X e σ H (upd G p (.lst vs)) t) : EvT X e σ H G t := fun H1 G1 s Q k => by
  have h3 : H1 p = some (.lst vs) := s.exH p _ h1
  have h4 : G1 p = none := s.fr p _ h1 (fun _ z => by cases z) h2
  have s' : Rc [] H (upd G p (.lst vs)) H1 (upd G1 p (.lst vs)) := ⟨fun b u q => by
      by_cases c : b = p
      · subst c
        rw [upd_same] at q ⊢
        exact q
      · rw [upd_ne c] at q ⊢
        exact s.ex b u q, s.sub.upd_sub h3, s.keep, s.dom, fun b u q t n => by
      by_cases c : b = p
      · subst c
        rw [upd_same] at n
        cases n
      · rw [upd_ne c] at n ⊢
        exact s.fr b u q t n, s.tp⟩
  refine h H1 _ s' Q fun H2 G2 r => k H2 G1 ⟨Ex.refl G1, s.sub.trans r.exH, r.keep, r.dom, fun _ _ _ _ n => n, r.tp⟩
/-- .. and what comes out is a new list of such -/
theorem EvN.lend {γ : Type} [Scal γ] {zs : List γ} {p : Addr} {vs : List V} (h1 : H p = some (.lst vs)) (h2 : G p = none) (h : EvN X e σ H (upd G p (.lst vs)) zs) : EvN X e σ H G zs := fun H1 G1 s Q k => by
  have h3 : H1 p = some (.lst vs) := s.exH p _ h1
  have h4 : G1 p = none := s.fr p _ h1 (fun _ z => by cases z) h2
  have s' : Rc [] H (upd G p (.lst vs)) H1 (upd G1 p (.lst vs)) := ⟨fun b u q => by
      by_cases c : b = p
      · subst c
        rw [upd_same] at q ⊢
        exact q
      · rw [upd_ne c] at q ⊢
        exact s.ex b u q, s.sub.upd_sub h3, s.keep, s.dom, fun b u q t n => by
      by_cases c : b = p
      · subst c
        rw [upd_same] at n
        cases n
      · rw [upd_ne c] at n ⊢
        exact s.fr b u q t n, s.tp⟩
  refine h H1 _ s' Q fun q H2 G2 r nq ⟨ws, w1, w2, w3⟩ => k q H2 G1 ⟨Ex.refl G1, s.sub.trans r.exH, r.keep, r.dom, fun _ _ _ _ n => n, r.tp⟩ nq ⟨ws, w1, none_back s.sub nq, Paired.imp (fun _ _ z => scal_any z) w3⟩
/-- a list of ours as it stands in the lent heap -/
theorem lent {xs : List α} {p : Addr} {vs : List V} (h2 : G p = none) (h3 : Rels X.K G vs xs) : Rep.rel X.K (upd G p (.lst vs)) (.ref p) xs := ⟨p, vs, rfl, upd_same, Rels.mono (Ex.new h2) h3⟩
end
end
end PX

/-! PXb: expressions. -/
namespace PX
open PySem L2

/-! ### partial operations of the mirror -/
def mulO (i j : Int) : Option Int := if i.natAbs.log2 + j.natAbs.log2 < 1000000 then some (i * j) else none
def fdivO (i j : Int) : Option Int := if 0 < j ∧ j.natAbs.log2 < 9000 then some (i / j) else none
def modO (i j : Int) : Option Int := if 0 < j then some (i % j) else none
def powO (i j : Int) : Option Int := if 0 ≤ j ∧ (Builtin.Int.intBits i : Int) * j ≤ 2 ^ 27 then some (i ^ j.toNat) else none
def ix {α : Type} (xs : List α) (i : Int) : Option α := atI xs i
def cut {α : Type} (xs : List α) (lo hi : Option Int) : List α := (xs.drop (HT.sIx xs.length 0 lo)).take (HT.sIx xs.length xs.length hi - HT.sIx xs.length 0 lo)
def guardO (b : Bool) : Option Unit := if b then some () else none
def line : Nat := 16000000
def catO {α : Type} (xs ys : List α) : Option (List α) := if xs.length + ys.length ≤ line then some (xs ++ ys) else none
def repO {α : Type} (xs : List α) (k : Int) : Option (List α) := if -(2 ^ 63) ≤ k ∧ k < 2 ^ 63 ∧ xs.length * k.toNat ≤ line then some (List.replicate k.toNat xs).flatten else none
def rng (a b : Int) : List Int := (List.range (b - a).toNat).map fun i => a + (i : Nat)
def rngO (a b : Int) : Option (List Int) := if -(line : Int) ≤ a ∧ a ≤ line ∧ -(line : Int) ≤ b ∧ b ≤ line ∧ (b - a).toNat ≤ line then some (rng a b) else none
def setO {α : Type} (xs : List α) (i : Int) (x : α) : Option (List α) := (ixN xs.length i).map fun j => xs.set j x
def appO {α : Type} (xs : List α) (x : α) : Option (List α) := if xs.length < line then some (xs ++ [x]) else none
def extO {α : Type} (xs ys : List α) : Option (List α) := if xs.length + ys.length ≤ line then some (xs ++ ys) else none
def enumI {α : Type} (xs : List α) : List (Int × α) := xs.zipIdx.map fun p => ((p.2 : Int), p.1)
theorem line_le {n : Nat} (h : n ≤ line) : n ≤ sizeLine := Nat.le_trans h (by decide)
theorem line_lt {n : Nat} (h : n < line) : n < sizeLine := Nat.lt_of_lt_of_le h (by decide)
theorem dite_some {α : Type} {c : Prop} [Decidable c] {x y : α} (h : (if c then some x else none) = some y) : c ∧ x = y := by
  by_cases k : c
  · rw [if_pos k] at h
    exact ⟨k, Option.some.inj h⟩
  · rw [if_neg k] at h
    cases h
theorem cond_some {α : Type} {b : Bool} {x y : Option α} {z : α} (h : cond b x y = some z) : (b = true ∧ x = some z) ∨ (b = false ∧ y = some z) := by
  cases b
  · exact .inr ⟨rfl, h⟩
  · exact .inl ⟨rfl, h⟩
theorem bind_some {α β : Type} {x : Option α} {f : α → Option β} {z : β} (h : x.bind f = some z) : ∃ a, x = some a ∧ f a = some z := by
  cases x with
  | none => cases h
  | some a => exact ⟨a, rfl, h⟩
theorem paired_cut {α : Type} {F : V → α → Prop} {vs : List V} {xs : List α} (h : Paired F vs xs) (lo hi : Option Int) : Paired F (cutV vs lo hi) (cut xs lo hi) := by
  unfold cutV cut
  rw [Paired.len h]
  exact Paired.take _ (Paired.drop _ h)
theorem atI_paired {α : Type} {F : V → α → Prop} {vs : List V} {xs : List α} {i : Int} {x : α} (h : Paired F vs xs) (e : atI xs i = some x) : ∃ v, atI vs i = some v ∧ F v x := by
  unfold atI at e ⊢
  rw [Paired.len h]
  cases q : ixN xs.length i with
  | none => rw [q] at e; cases e
  | some j =>
    rw [q] at e
    exact Paired.get h e
theorem paired_rep {α : Type} {F : V → α → Prop} {vs : List V} {xs : List α} (h : Paired F vs xs) : ∀ n : Nat, Paired F (List.replicate n vs).flatten (List.replicate n xs).flatten
  | 0 => .nil
  | n + 1 => by
    rw [List.replicate_succ, List.replicate_succ, List.flatten_cons, List.flatten_cons]
    exact Paired.append h (paired_rep h n)

section
variable {X : Cx} {σ : L2.St} {H G : Hp} {α β γ : Type} [Rep α] [Rep β] [Rep γ] {a b c e : Expr} {pos : Pos} {x : α} {y : β} {z : γ}
/-! ### names, constants -/
theorem ev_var {i : Nat} {nm : Str} {v : V} (hs : σ[i]? = some (some v)) (hr : Rep.rel X.K G v x) (hN : X.N[i]? = some nm := by rfl) (hv : Vis X.env.scope nm := by first | exact Or.inl rfl | exact Or.inr (Or.inl rfl) | exact Or.inr (Or.inr rfl))
    (hd : (nm == ("__debug__" : Str)) = false := by decide) (hcd : (nm == ("__classdict__" : Str)) = false := by decide) : EvX X (.Name nm pos) σ H G x := fun H1 G1 s Q k =>
  toE (pv i hN hv hd hcd) ⟨v, hs, k v H1 G1 (Rc.refl s.sub) (Rep.mono s.ex hr)⟩
theorem ev_int {i : Int} {j} : EvX X (.Constant (.int i) j pos) σ H G i := fun H1 G1 s Q k => toE pe_int (k _ H1 G1 (Rc.refl s.sub) rfl)
theorem ev_bl {i : Bool} {j} : EvX X (.Constant (.bool i) j pos) σ H G i := fun H1 G1 s Q k => toE pe_bl (k _ H1 G1 (Rc.refl s.sub) rfl)
theorem ev_str {i : Str} {j} : EvX X (.Constant (.str i) j pos) σ H G i := fun H1 G1 s Q k => toE pe_str (k _ H1 G1 (Rc.refl s.sub) rfl)
theorem ev_non {j} : EvX X (.Constant .none j pos) σ H G () := fun H1 G1 s Q k => toE pe_non (k _ H1 G1 (Rc.refl s.sub) rfl)

/-! ### operators -/
/-- an operation on values -/
def Opv (K : PySem.W.Frag) (r : R2) (H G : Hp) (x : α) (y : β) (z : γ) : Prop := ∀ v w H1 G1, Rc [] H G H1 G1 → Rep.rel K G1 v x → Rep.rel K G1 w y → ∀ Q : VK, (∀ u H2 G2, Rc [] H1 G1 H2 G2 → Rep.rel K G2 u z → Q u H2) → r v w H1 Q
def OpvN (K : PySem.W.Frag) (r : R2) (H G : Hp) (x : α) (y : β) (zs : List γ) : Prop := ∀ v w H1 G1, Rc [] H G H1 G1 → Rep.rel K G1 v x → Rep.rel K G1 w y → ∀ Q : VK, (∀ p H2 G2, Rc [] H1 G1 H2 G2 → H1 p = none → Own K H2 G2 p zs → Q (.ref p) H2) → r v w H1 Q
theorem ev_op {op : Operator} {r : R2} (ho : OpR X (binaryOp op) r) (ha : EvX X a σ H G x) (hb : EvX X b σ H G y) (hz : Opv X.K r H G x y z) : EvX X (.BinOp a op b pos) σ H G z := fun H1 G1 s Q k =>
  toE (pe_op ho pe_wp pe_wp) (show tOp r (wpE X a) (wpE X b) σ H1 Q from ha H1 G1 s _ fun v H2 G2 s2 r2 => hb H2 G2 (s.trans s2) _ fun w H3 G3 s3 r3 =>
    hz v w H3 G3 ((s.trans s2).trans s3) (Rep.mono s3.ex r2) r3 Q fun u H4 G4 s4 r4 => k u H4 G4 ((s2.trans s3).trans s4) r4)
theorem ev_opN {op : Operator} {r : R2} {zs : List γ} (ho : OpR X (binaryOp op) r) (ha : EvX X a σ H G x) (hb : EvX X b σ H G y) (hz : OpvN X.K r H G x y zs) : EvN X (.BinOp a op b pos) σ H G zs := fun H1 G1 s Q k =>
  toE (pe_op ho pe_wp pe_wp) (show tOp r (wpE X a) (wpE X b) σ H1 Q from ha H1 G1 s _ fun v H2 G2 s2 r2 => hb H2 G2 (s.trans s2) _ fun w H3 G3 s3 r3 =>
    hz v w H3 G3 ((s.trans s2).trans s3) (Rep.mono s3.ex r2) r3 Q fun p H4 G4 s4 np o4 => k p H4 G4 ((s2.trans s3).trans s4) (none_back s2.exH (none_back s3.exH np)) o4)
theorem ev_cmp {op : CmpOp} {r : R2} (ho : OpR X (compareOp op) r) (hm : behindInMarks op b = false) (ha : EvX X a σ H G x) (hb : EvX X b σ H G y) (hz : Opv X.K r H G x y z) : EvX X (.Compare a [op] [b] pos) σ H G z := fun H1 G1 s Q k =>
  toE (pe_cmpR ho pe_wp pe_wp hm) (show tOp r (wpE X a) (wpE X b) σ H1 Q from ha H1 G1 s _ fun v H2 G2 s2 r2 => hb H2 G2 (s.trans s2) _ fun w H3 G3 s3 r3 =>
    hz v w H3 G3 ((s.trans s2).trans s3) (Rep.mono s3.ex r2) r3 Q fun u H4 G4 s4 r4 => k u H4 G4 ((s2.trans s3).trans s4) r4)
theorem et_cmp {op : CmpOp} {r : R2} {t : Bool} (ho : OpR X (compareOp op) r) (hm : behindInMarks op b = false) (ha : EvX X a σ H G x) (hb : EvX X b σ H G y) (hz : Opv X.K r H G x y t) : EvT X (.Compare a [op] [b] pos) σ H G t := fun H1 G1 s Q k =>
  toT (pt_cmpR ho pe_wp pe_wp hm) (show tTest (tOp r (wpE X a) (wpE X b)) σ H1 Q from ha H1 G1 s _ fun v H2 G2 s2 r2 => hb H2 G2 (s.trans s2) _ fun w H3 G3 s3 r3 =>
    hz v w H3 G3 ((s.trans s2).trans s3) (Rep.mono s3.ex r2) r3 _ fun u H4 G4 s4 r4 => ⟨t, r4, k H4 G4 ((s2.trans s3).trans s4)⟩)
theorem opI0 {g : Int → Int → V} {i j : Int} (hz : ∀ G, Rep.rel X.K G (g i j) z) : Opv X.K (rI0 g) H G i j z := fun v w H1 G1 s hv hw Q k => ⟨i, j, hv, hw, k _ H1 G1 (Rc.refl s.sub) (hz G1)⟩
theorem opIC {C : Int → Int → Prop} {g : Int → Int → V} {i j : Int} (hc : C i j) (hz : ∀ G, Rep.rel X.K G (g i j) z) : Opv X.K (rI C g) H G i j z := fun v w H1 G1 s hv hw Q k => ⟨i, j, hv, hw, hc, k _ H1 G1 (Rc.refl s.sub) (hz G1)⟩
section
variable {i j k : Int}
theorem ev_add (ha : EvX X a σ H G i) (hb : EvX X b σ H G j) : EvX X (.BinOp a .Add b pos) σ H G (i + j) := ev_op op_add ha hb (opI0 fun _ => rfl)
theorem ev_sub (ha : EvX X a σ H G i) (hb : EvX X b σ H G j) : EvX X (.BinOp a .Sub b pos) σ H G (i - j) := ev_op op_sub ha hb (opI0 fun _ => rfl)
theorem ev_mul (h : mulO i j = some k) (ha : EvX X a σ H G i) (hb : EvX X b σ H G j) : EvX X (.BinOp a .Mult b pos) σ H G k := by
  obtain ⟨h1, h2⟩ := dite_some h
  subst h2
  exact ev_op op_mulW ha hb (opIC h1 fun _ => rfl)
theorem ev_fdiv (h : fdivO i j = some k) (ha : EvX X a σ H G i) (hb : EvX X b σ H G j) : EvX X (.BinOp a .FloorDiv b pos) σ H G k := by
  obtain ⟨h1, h2⟩ := dite_some h
  subst h2
  exact ev_op op_fdivW ha hb (opIC h1 fun _ => rfl)
theorem ev_mod (h : modO i j = some k) (ha : EvX X a σ H G i) (hb : EvX X b σ H G j) : EvX X (.BinOp a .Mod b pos) σ H G k := by
  obtain ⟨h1, h2⟩ := dite_some h
  subst h2
  exact ev_op op_mod ha hb (opIC h1 fun _ => rfl)
theorem op_powW : OpR X (binaryOp .Pow) (rI (fun i j => 0 ≤ j ∧ (Builtin.Int.intBits i : Int) * j ≤ 2 ^ 27) fun i j => .int (i ^ j.toNat)) := opI fun _ _ _ _ _ _ _ hc q => PyProof.Rows.pow_int hc.1 hc.2 q
theorem ev_pow (h : powO i j = some k) (ha : EvX X a σ H G i) (hb : EvX X b σ H G j) : EvX X (.BinOp a .Pow b pos) σ H G k := by
  obtain ⟨h1, h2⟩ := dite_some h
  subst h2
  exact ev_op op_powW ha hb (opIC h1 fun _ => rfl)
theorem ev_neg (ha : EvX X a σ H G i) : EvX X (.UnaryOp .USub a pos) σ H G (-i) := fun H1 G1 s Q k =>
  toE (pe_un un_neg pe_wp) (show wpE X a σ H1 _ from ha H1 G1 s _ fun v H2 G2 s2 r2 => ⟨i, r2, k _ H2 G2 s2 rfl⟩)
theorem ev_lt (ha : EvX X a σ H G i) (hb : EvX X b σ H G j) : EvX X (.Compare a [.Lt] [b] pos) σ H G (decide (i < j)) := ev_cmp op_lt (nomark _) ha hb (opI0 fun _ => rfl)
theorem ev_le (ha : EvX X a σ H G i) (hb : EvX X b σ H G j) : EvX X (.Compare a [.LtE] [b] pos) σ H G (decide (i ≤ j)) := ev_cmp op_le (nomark _) ha hb (opI0 fun _ => rfl)
theorem ev_gt (ha : EvX X a σ H G i) (hb : EvX X b σ H G j) : EvX X (.Compare a [.Gt] [b] pos) σ H G (decide (j < i)) := ev_cmp op_gt (nomark _) ha hb (opI0 fun _ => rfl)
theorem ev_ge (ha : EvX X a σ H G i) (hb : EvX X b σ H G j) : EvX X (.Compare a [.GtE] [b] pos) σ H G (decide (j ≤ i)) := ev_cmp op_ge (nomark _) ha hb (opI0 fun _ => rfl)
theorem et_lt (ha : EvX X a σ H G i) (hb : EvX X b σ H G j) : EvT X (.Compare a [.Lt] [b] pos) σ H G (decide (i < j)) := et_cmp op_lt (nomark _) ha hb (opI0 fun _ => rfl)
theorem et_le (ha : EvX X a σ H G i) (hb : EvX X b σ H G j) : EvT X (.Compare a [.LtE] [b] pos) σ H G (decide (i ≤ j)) := et_cmp op_le (nomark _) ha hb (opI0 fun _ => rfl)
theorem et_gt (ha : EvX X a σ H G i) (hb : EvX X b σ H G j) : EvT X (.Compare a [.Gt] [b] pos) σ H G (decide (j < i)) := et_cmp op_gt (nomark _) ha hb (opI0 fun _ => rfl)
theorem et_ge (ha : EvX X a σ H G i) (hb : EvX X b σ H G j) : EvT X (.Compare a [.GtE] [b] pos) σ H G (decide (j ≤ i)) := et_cmp op_ge (nomark _) ha hb (opI0 fun _ => rfl)
end

/-! ### == and != -/
/-- data that == tells apart as Lean does -/
class Eqs (α : Type) extends Rep α where
  dec : DecidableEq α
  eq : ∀ {X : Cx} {H G : Hp} {x y : α}, X.A.units + 64 < cLine → Opv X.K (fun v w H Q => rEq v w H Q ∨ rEqD X.K v w H Q) H G x y (decide (x = y))
  ne : ∀ {X : Cx} {H G : Hp} {x y : α}, X.A.units + 64 < cLine → Opv X.K (fun v w H Q => rNe v w H Q ∨ rNeD X.K v w H Q) H G x y (!decide (x = y))
instance {α : Type} [e : Eqs α] : DecidableEq α := e.dec
theorem op_eqS (hu : X.A.units + 64 < cLine) : OpR X (compareOp .Eq) (fun v w H Q => rEq v w H Q ∨ rEqD X.K v w H Q) := by
  intro pins s σ H x y v u Q I rx ry h
  rcases h with h | h
  · exact op_eq pins s σ H x y v u Q I rx ry h
  · exact op_eqD hu pins s σ H x y v u Q I rx ry h
theorem op_neS (hu : X.A.units + 64 < cLine) : OpR X (compareOp .NotEq) (fun v w H Q => rNe v w H Q ∨ rNeD X.K v w H Q) := by
  intro pins s σ H x y v u Q I rx ry h
  rcases h with h | h
  · exact op_ne pins s σ H x y v u Q I rx ry h
  · exact op_neD hu pins s σ H x y v u Q I rx ry h
theorem ev_eq {α : Type} [Eqs α] {x y : α} (hu : X.A.units + 64 < cLine) (ha : EvX X a σ H G x) (hb : EvX X b σ H G y) : EvX X (.Compare a [.Eq] [b] pos) σ H G (decide (x = y)) := ev_cmp (op_eqS hu) (nomark _) ha hb (Eqs.eq hu)
theorem ev_ne {α : Type} [Eqs α] {x y : α} (hu : X.A.units + 64 < cLine) (ha : EvX X a σ H G x) (hb : EvX X b σ H G y) : EvX X (.Compare a [.NotEq] [b] pos) σ H G (!decide (x = y)) := ev_cmp (op_neS hu) (nomark _) ha hb (Eqs.ne hu)
theorem et_eq {α : Type} [Eqs α] {x y : α} (hu : X.A.units + 64 < cLine) (ha : EvX X a σ H G x) (hb : EvX X b σ H G y) : EvT X (.Compare a [.Eq] [b] pos) σ H G (decide (x = y)) := et_cmp (op_eqS hu) (nomark _) ha hb (Eqs.eq hu)
theorem et_ne {α : Type} [Eqs α] {x y : α} (hu : X.A.units + 64 < cLine) (ha : EvX X a σ H G x) (hb : EvX X b σ H G y) : EvT X (.Compare a [.NotEq] [b] pos) σ H G (!decide (x = y)) := et_cmp (op_neS hu) (nomark _) ha hb (Eqs.ne hu)
theorem dec_congr {p q : Prop} [Decidable p] [Decidable q] (h : p ↔ q) : decide p = decide q := by
  by_cases k : p
  · rw [decide_eq_true k, decide_eq_true (h.mp k)]
  · rw [decide_eq_false k, decide_eq_false fun z => k (h.mpr z)]
instance : Eqs Int where
  dec := inferInstance
  eq := fun _ v w H1 G1 s hv hw Q k => by
    cases hv
    cases hw
    exact .inl ⟨rfl, k _ H1 G1 (Rc.refl s.sub) (congrArg V.bl (dec_congr ⟨V.int.inj, congrArg _⟩))⟩
  ne := fun _ v w H1 G1 s hv hw Q k => by
    cases hv
    cases hw
    exact .inl ⟨rfl, k _ H1 G1 (Rc.refl s.sub) (congrArg (fun b => V.bl (!b)) (dec_congr ⟨V.int.inj, congrArg _⟩))⟩
instance : Eqs Bool where
  dec := inferInstance
  eq := fun _ v w H1 G1 s hv hw Q k => by
    cases hv
    cases hw
    exact .inl ⟨rfl, k _ H1 G1 (Rc.refl s.sub) (congrArg V.bl (dec_congr ⟨V.bl.inj, congrArg _⟩))⟩
  ne := fun _ v w H1 G1 s hv hw Q k => by
    cases hv
    cases hw
    exact .inl ⟨rfl, k _ H1 G1 (Rc.refl s.sub) (congrArg (fun b => V.bl (!b)) (dec_congr ⟨V.bl.inj, congrArg _⟩))⟩
instance : Eqs Str where
  dec := inferInstance
  eq := fun _ v w H1 G1 s hv hw Q k => by
    cases hv
    cases hw
    exact .inl ⟨rfl, k _ H1 G1 (Rc.refl s.sub) (congrArg V.bl (dec_congr ⟨V.str.inj, congrArg _⟩))⟩
  ne := fun _ v w H1 G1 s hv hw Q k => by
    cases hv
    cases hw
    exact .inl ⟨rfl, k _ H1 G1 (Rc.refl s.sub) (congrArg (fun b => V.bl (!b)) (dec_congr ⟨V.str.inj, congrArg _⟩))⟩
/-- data that Python's own data follow -/
class PyD (α : Type) extends Rep α where
  dq : DecidableEq α
  py : α → PyData
  dep : Nat
  dp : ∀ {K : PySem.W.Frag} {G : Hp} {v : V} {x : α}, Rep.rel K G v x → Dp K G v (py x)
  depOk : ∀ x, (py x).depth ≤ dep
  lay : ∀ x, (py x).canLay0 = true
  eqv : ∀ x y, PyData.eqv (py x) (py y) = @decide (x = y) (dq x y)
instance : PyD Int where
  dq := inferInstance
  py := .int
  dep := 0
  dp := fun h => by
    cases h
    exact .int _
  depOk := fun x => by simp [PyData.depth]
  lay := fun x => by simp [PyData.canLay0]
  eqv := fun x y => by
    rw [Bool.eq_iff_iff]
    simp [PyData.eqv]
instance : PyD Bool where
  dq := inferInstance
  py := .bool
  dep := 0
  dp := fun h => by
    cases h
    exact .bl _
  depOk := fun x => by simp [PyData.depth]
  lay := fun x => by simp [PyData.canLay0]
  eqv := fun x y => by
    rw [Bool.eq_iff_iff]
    simp [PyData.eqv]
section
variable {α β : Type} [PyD α] [PyD β]
theorem dp_all {K : PySem.W.Frag} {G : Hp} : ∀ {vs : List V} {xs : List α}, Rels K G vs xs → DpAll K G vs (xs.map PyD.py)
  | _, _, .nil => .nil
  | _, _, .cons h t => .cons (PyD.dp h) (dp_all t)
theorem depAll_le : ∀ xs : List α, PyData.depthAll (xs.map PyD.py) ≤ PyD.dep α
  | [] => by simp [PyData.depthAll]
  | x :: t => by
    have h1 := PyD.depOk x
    have h2 := depAll_le t
    simp only [List.map_cons, PyData.depthAll]
    omega
theorem layAll : ∀ xs : List α, PyData.canLayAll0 (xs.map PyD.py) = true
  | [] => by simp [PyData.canLayAll0]
  | x :: t => by simp [PyData.canLayAll0, PyD.lay x, layAll t]
theorem eqvAll_dec : ∀ xs ys : List α, PyData.eqvAll (xs.map PyD.py) (ys.map PyD.py) = @decide (xs = ys) (@instDecidableEqList α PyD.dq xs ys)
  | [], [] => by simp [PyData.eqvAll]
  | [], _ :: _ => by simp [PyData.eqvAll]
  | _ :: _, [] => by simp [PyData.eqvAll]
  | x :: t, y :: u => by
    have h1 := PyD.eqv x y
    have h2 := eqvAll_dec t u
    simp only [List.map_cons, PyData.eqvAll, h1, h2]
    rw [Bool.eq_iff_iff]
    simp
end
instance {α : Type} [PyD α] : PyD (List α) where
  dq := @instDecidableEqList α PyD.dq
  py := fun xs => .list (xs.map PyD.py)
  dep := PyD.dep α + 1
  dp := fun ⟨_, _, h1, h2, h3⟩ => by
    subst h1
    exact .lst (.inl (.inl h2)) (dp_all h3)
  depOk := fun xs => by
    have h := depAll_le xs
    simp only [PyData.depth]
    omega
  lay := fun xs => by
    simp only [PyData.canLay0]
    exact layAll xs
  eqv := fun xs ys => by
    simp only [PyData.eqv]
    exact eqvAll_dec xs ys
instance {α β : Type} [PyD α] [PyD β] : PyD (α × β) where
  dq := @instDecidableEqProd α β PyD.dq PyD.dq
  py := fun x => .tuple [PyD.py x.1, PyD.py x.2]
  dep := max (PyD.dep α) (PyD.dep β) + 1
  dp := fun ⟨_, _, _, h1, h2, h3, h4⟩ => by
    subst h1
    exact .tup (.inl (.inl h2)) (.cons (PyD.dp h3) (.cons (PyD.dp h4) .nil))
  depOk := fun x => by
    have h1 := PyD.depOk x.1
    have h2 := PyD.depOk x.2
    simp only [PyData.depth, PyData.depthAll]
    omega
  lay := fun x => by simp [PyData.canLay0, PyData.canLayAll0, PyD.lay x.1, PyD.lay x.2]
  eqv := fun x y => by
    simp only [PyData.eqv, PyData.eqvAll, PyD.eqv]
    rw [Bool.eq_iff_iff]
    simp [Prod.ext_iff]
/-- .. and is not deeper than Python's own walk goes -/
class Shal (α : Type) [PyD α] : Prop where
  le : PyD.dep α ≤ 60
instance : Shal Int := ⟨by decide⟩
theorem shaped_py {α : Type} [PyD α] (h : PyD.dep α ≤ 60) (x : α) : SeqAt.shaped (PyD.py x) = true := by
  unfold SeqAt.shaped
  rw [PyD.lay x, decide_eq_true (Nat.le_trans (PyD.depOk x) (Nat.le_trans h (by decide)))]
  rfl
theorem opD_eq {α : Type} [PyD α] {X : Cx} {H G : Hp} {x y : α} (h : PyD.dep α ≤ 60) : Opv X.K (fun v w H Q => rEq v w H Q ∨ rEqD X.K v w H Q) H G x y (@decide (x = y) (PyD.dq x y)) := fun v w H1 G1 s hv hw Q k =>
  .inr ⟨_, _, PyD.dp (Rep.mono s.sub hv), PyD.dp (Rep.mono s.sub hw), shaped_py h x, shaped_py h y, k _ H1 G1 (Rc.refl s.sub) (congrArg V.bl (PyD.eqv x y))⟩
theorem opD_ne {α : Type} [PyD α] {X : Cx} {H G : Hp} {x y : α} (h : PyD.dep α ≤ 60) : Opv X.K (fun v w H Q => rNe v w H Q ∨ rNeD X.K v w H Q) H G x y (!@decide (x = y) (PyD.dq x y)) := fun v w H1 G1 s hv hw Q k =>
  .inr ⟨_, _, PyD.dp (Rep.mono s.sub hv), PyD.dp (Rep.mono s.sub hw), shaped_py h x, shaped_py h y, k _ H1 G1 (Rc.refl s.sub) (congrArg (fun b => V.bl (!b)) (PyD.eqv x y))⟩
instance : Eqs (List Int) where
  dec := inferInstance
  eq := fun _ => opD_eq (α := List Int) (by decide)
  ne := fun _ => opD_ne (α := List Int) (by decide)
instance : Eqs (List (List Int)) where
  dec := inferInstance
  eq := fun _ => opD_eq (α := List (List Int)) (by decide)
  ne := fun _ => opD_ne (α := List (List Int)) (by decide)
instance : Eqs (List Bool) where
  dec := inferInstance
  eq := fun _ => opD_eq (α := List Bool) (by decide)
  ne := fun _ => opD_ne (α := List Bool) (by decide)
instance : Eqs (Int × Int) where
  dec := inferInstance
  eq := fun _ => opD_eq (α := Int × Int) (by decide)
  ne := fun _ => opD_ne (α := Int × Int) (by decide)
instance : Eqs (List (Int × Int)) where
  dec := inferInstance
  eq := fun _ => opD_eq (α := List (Int × Int)) (by decide)
  ne := fun _ => opD_ne (α := List (Int × Int)) (by decide)
end
end PX

/-! PXg: defs whose surroundings hold no repr that is under way; the law's end. -/
namespace PX
open PySem L2
open PySem.Spec PyProof.Rows

/-- a def keeps its promise wherever no guard stands around -/
structure FnG (P : Program) (w : World) (K : PySem.W.Frag) (mg : Str → Option Value) (base : Heap) (CX : CXT) (k : Nat) (f : Addr) (fd : FuncData) (ps : List Str) (sp : Sp) : Prop where
  len : ∀ vs H Q E, sp vs H Q E → vs.length = ps.length
  run : ∀ (A : Around) (outer : List Env) (s : Shared) (H : Hp) (args : Args) (us : List Value) (vs : List V) (Q : VK) (E : XK), A.guards = some [] → Room k A → Env0 P w K mg base A outer s H →
    BindsTo s fd args (ps.zip us) → L2.Vals vs us → sp vs H Q E → codeAny (model P w) A (.call (.ref f) args) (CR CX outer P w H s Q E) s
section
variable {P : Program} {w : World} {K : PySem.W.Frag} {mg : Str → Option Value} {base : Heap} {CX : CXT} {j k : Nat} {f : Addr} {fd : FuncData} {ps : List Str} {sp : Sp}
theorem FnG.mono (F : FnG P w K mg base CX j f fd ps sp) (h : j ≤ k) : FnG P w K mg base CX k f fd ps sp := ⟨F.len, fun A o s H a us vs Q E g r => F.run A o s H a us vs Q E g (r.mono h)⟩
theorem FnG.imp {sp' : Sp} (F : FnG P w K mg base CX k f fd ps sp) (h : ∀ vs H Q E, sp' vs H Q E → sp vs H Q E) : FnG P w K mg base CX k f fd ps sp' :=
  ⟨fun vs H Q E q => F.len vs H Q E (h _ _ _ _ q), fun A o s H a us vs Q E g r e b v q => F.run A o s H a us vs Q E g r e b v (h _ _ _ _ q)⟩
theorem fnG_of {name qual : Str} {params : Arguments} {body : List Stmt} {scope : Scope} {dV kV doc pm cdv ct oc : Value} {an od : Option Addr} {osl : Array (Option Value)} {N : List Str}
    (lk : K.lookup f = some ⟨oc, od, .func (PySem.W.fnOf name qual params body scope dV kV doc pm an cdv ct), osl⟩) (hcd : PySem.W.codeIn K cdv qual = true) (S : FnScope N ps scope)
    (len : ∀ vs H Q E, sp vs H Q E → vs.length = ps.length)
    (hbody : ∀ (A : Around) (outer : List Env) (s : Shared) (H : Hp) (vs : List V) (Q : VK) (E : XK), A.guards = some [] → Room k (A.deeper (envOfC qual scope s.heap.objs.size f cdv)) → sp vs H Q E →
      wpB (cxOf CX P w K mg base N qual scope f cdv A outer s H E) body { nx := fun _ H' => Q .non H', rt := Q } (start N vs) H) :
    FnG P w K mg base CX (k + 1) f (PySem.W.fnOf name qual params body scope dV kV doc pm an cdv ct) ps sp := by
  constructor
  · exact len
  intro A outer s H args us vs Q E hG hr e0 hb rv hsp
  have hlen := len _ _ _ _ hsp
  have KX : K.In s.heap := e0.mod.kin.keeps fun c z q => (e0.bs c z q).1
  have unl : s.heap.NoLimit := e0.mod.nolimit.keeps fun c z q => (e0.bs c z q).1
  have kinds : ∀ y ∈ ps.zip us, scope.names.lookup y.1 = some .local ∨
      (scope.names.lookup y.1 = some .cell ∧ ((cellsFrom (s.heap.objs.size + 1) scope.names []).lookup y.1).isSome = true) := by
    rintro ⟨nm, val⟩ hy
    cases S.par nm (List.of_mem_zip hy).1 with
    | inl q => exact .inl q
    | inr q => exact .inr ⟨q, PySem.W.cellsFrom_some _ _ _ (.inl q)⟩
  have lk' := KX _ _ lk
  have rec' := PySem.W.codeRec_of KX hcd
  refine codeAny_call_function hr.depth lk' rfl S.co S.gen rfl rec' (hb _ _ _ _ ?_)
  refine wpAny_newFunctionEnv_cells S.kind kinds fun env henv s1 new => ?_
  subst henv
  refine ⟨unl.keeps new.toInCall.keep, codeAny_func ?_⟩
  have q0 := hbody A outer s H vs Q E hG (hr.deeper _) hsp
  have I := inv_start (CX := CX) (P := P) (w := w) (mg := mg) (E := E) S hr.hd e0 hlen rv new
  refine wpAny_mono (q0 [] s1 I) (fun fl s' told => ?_) fun e s' told => told
  cases fl with
  | brk => exact told.elim fun _ z => z.elim fun _ z => z.2.elim
  | cont => exact told.elim fun _ z => z.elim fun _ z => z.2.elim
  | ret u =>
    obtain ⟨v, _, H', J, r1, q1⟩ := told
    exact ⟨v, H', J.os, J.bare, J.base, J.hok, r1, q1⟩
  | next =>
    obtain ⟨_, H', J, q1⟩ := told
    exact ⟨V.non, H', J.os, J.bare, J.base, J.hok, rfl, q1⟩
theorem nox_B {X : Cx} {sts : List Stmt} {D : Ends} {σ : L2.St} {H : Hp} (h : wpB X.nox sts D σ H) : wpB X sts D σ H := toB (PSs.nox pss_wp) h
/-- .. for a def as it stands behind the top; its body raises nothing -/
theorem defG {x qual : Str} {st : Stmt} {N : List Str} (F : Fun K x qual st f fd) (S : FnScope N ps (defScope st)) (len : ∀ vs H Q E, sp vs H Q E → vs.length = ps.length)
    (hbody : ∀ (cdv : Value) (A : Around) (outer : List Env) (s : Shared) (H : Hp) (vs : List V) (Q : VK) (E : XK), A.guards = some [] → Room k (A.deeper (envOfC qual (defScope st) s.heap.objs.size f cdv)) → sp vs H Q E →
      wpB (cxOf CX P w K mg base N qual (defScope st) f cdv A outer s H E).nox (defBody st) { nx := fun _ H' => Q .non H', rt := Q } (start N vs) H) : FnG P w K mg base CX (k + 1) f fd ps sp := by
  obtain ⟨oc, od, kV, doc, pm, an, cdv, ct, osl, rfl, lk, hcd⟩ := F.ex
  exact fnG_of lk hcd S len fun A outer s H vs Q E g r q => nox_B (hbody cdv A outer s H vs Q E g r q)
/-- .. its body may raise -/
theorem defX {x qual : Str} {st : Stmt} {N : List Str} (F : Fun K x qual st f fd) (S : FnScope N ps (defScope st)) (len : ∀ vs H Q E, sp vs H Q E → vs.length = ps.length)
    (hbody : ∀ (cdv : Value) (A : Around) (outer : List Env) (s : Shared) (H : Hp) (vs : List V) (Q : VK) (E : XK), A.guards = some [] → Room k (A.deeper (envOfC qual (defScope st) s.heap.objs.size f cdv)) → sp vs H Q E →
      wpB (cxOf CX P w K mg base N qual (defScope st) f cdv A outer s H E) (defBody st) { nx := fun _ H' => Q .non H', rt := Q } (start N vs) H) : FnG P w K mg base CX (k + 1) f fd ps sp := by
  obtain ⟨oc, od, kV, doc, pm, an, cdv, ct, osl, rfl, lk, hcd⟩ := F.ex
  exact fnG_of lk hcd S len fun A outer s H vs Q E => hbody cdv A outer s H vs Q E
theorem deeper_guards {A : Around} {env : Env} : (A.deeper env).guards = A.guards := rfl
end
section
variable {X : Cx} {CX : CXT} {k : Nat} {f : Addr} {fd : FuncData} {ps : List Str} {sp : Sp} {E : XK} {x : Str} {p pos : Pos} {e : Expr} {es : List Expr} {t : TA}
/-- the callee runs -/
theorem runG {pins : List (Addr × Obj)} {σ : L2.St} {H : Hp} {s : Shared} {Q : VK} {us : List Value} {vs : List V} (F : FnG X.prog X.w X.K X.mg X.base CX k f fd ps sp) (hG : X.A.guards = some []) (hr : Room k X.A) (hb : Binds X.K fd ps []) (hx : Passes CX X E)
    (I : Inv X pins σ H s) (r : L2.Vals vs us) (h : sp vs H Q E) : wpAny (model X.prog X.w) X.A (call (.ref f) us) (EP X pins σ Q) X.xe s := by
  have hlen : us.length = ps.length := by
    rw [← r.length]
    exact F.len _ _ _ _ h
  have bd := hb s us I.kIn (by rw [List.append_nil]; exact hlen)
  rw [List.append_nil] at bd
  refine wpAny_call (codeAny_mono (F.run X.A X.stack s H ⟨us, []⟩ us vs Q E hG hr I.env0 bd r h) ?_)
  intro res s' hq
  match res, hq with
  | .error er, hq => exact hx pins σ H s er s' I hq
  | .ok (.ret u), ⟨v, H', q1, q2, q3, q4, q5, q6⟩ => exact ⟨v, H', I.call' (ch := []) q1 q3 q4 q2 (fun _ z => nomatch z), q5, q6⟩
theorem pe_callG (F : FnG X.prog X.w X.K X.mg X.base CX k f fd ps sp) (hG : X.A.guards = some []) (hr : Room k X.A) (hg : Gl X x) (hm : X.mg x = some (.ref f)) (hk : PySem.W.keepIn X.K (.ref f) = true) (hb : Binds X.K fd ps []) (hx : Passes CX X E) (ha : PA X (e :: es) t)
    (hdb : (x == ("__debug__" : Str)) = false := by decide) (he : starEach (e :: es) X.env = (false, eval e X.env) :: starEach es X.env := by rfl) (hpl : (backTo pos (starEach es X.env)).any (·.1) = false := by rfl) :
    PE X (.Call (.Name x p) (e :: es) [] pos) (fun σ H Q => t σ H fun vs H1 => sp vs H1 Q E) := by
  constructor
  intro pins s σ H Q I h
  refine wpAny_Call_Name_kw (ld_glob I hg hm ?_ hdb)
  refine PySem.W.callWith_K (h₀ := X.base) I.ok.mod.kin hk ?_ he hpl
  exact thn (ha.run pos pins s σ H _ I h) fun us s1 ⟨vs, H1, I1, r, q⟩ => ⟨I1.kIn, runG F hG hr hb hx I1 r q⟩
theorem pe_callG0 (F : FnG X.prog X.w X.K X.mg X.base CX k f fd ps sp) (hG : X.A.guards = some []) (hr : Room k X.A) (hg : Gl X x) (hm : X.mg x = some (.ref f)) (hk : PySem.W.keepIn X.K (.ref f) = true) (hb : Binds X.K fd ps []) (hx : Passes CX X E)
    (hdb : (x == ("__debug__" : Str)) = false := by decide) : PE X (.Call (.Name x p) [] [] pos) (fun σ H Q => sp [] H Q E) := by
  constructor
  intro pins s σ H Q I h
  refine wpAny_Call_Name_kw (ld_glob I hg hm ?_ hdb)
  exact PySem.W.callWith_K0 I.kIn hk (runG (us := []) F hG hr hb hx I .nil h)
end

/-! ### the law's end -/
section
variable {P : Program} {w : World} {K : PySem.W.Frag} {mg mb : Str → Option Value} {CX : CXT} {k : Nat} {fa a : Addr} {fd : FuncData} {x : Str} {sp : Sp} {s₁ : Shared} {vs : List Value} {ns : List Int}
theorem law_callG (KX : K.In s₁.heap) (hns : s₁.heap.Ns mainGlobals mg) (hb : s₁.heap.Ns builtinsNs mb) (hbb : ∀ x : Str, x ≠ "__name__" → mb x = bootBuiltins x) (hlim : s₁.heap.NoLimit) (hg : s₁.gens = #[])
    (ha : s₁.heap.get? a = some { cls := .type "list", data := .seq vs.toArray }) (hi : IntsAre vs ns) (hl : ns.length ≤ sizeLine) (hr : Room k callerA)
    (F : ∀ base : Heap, K.In base → base.Ns mainGlobals mg → FnG P w K mg base CX k fa fd [x] sp) (hbind : ∀ (s : Shared) (u : Value), BindsTo s fd ⟨[u], []⟩ [(x, u)])
    (hsp : ∀ H : Hp, Only H → SqL K H a (ns.map V.int) → sp [.ref a] H (fun v _ => v = .bl true) fun _ _ _ => False)
    (hCX : ∀ H e s', CX [] H s₁ (fun _ _ _ => False) e s' → False) :
    codeAny (model P w) callerA (.call (.ref fa) ⟨[.ref a], []⟩) (fun r s' => r = .ok (.ret (.bool true)) ∧ OldK s₁.heap s'.heap ∧ s'.os = s₁.os ∧ AllBare s'.gens) s₁ := by
  have rv := vals_ints hi
  have sized := hi.length
  -- told for a heap that tracks the script at most
  suffices core : ∀ H : Hp, Only H → SqL K H a (ns.map V.int) → HOk P w H s₁.heap → (∀ b, H b ≠ none → b = a) → (H a ≠ none → K.lookup a = none) →
      codeAny (model P w) callerA (.call (.ref fa) ⟨[.ref a], []⟩) (fun r s' => r = .ok (.ret (.bool true)) ∧ OldK s₁.heap s'.heap ∧ s'.os = s₁.os ∧ AllBare s'.gens) s₁ by
    cases known : K.lookup a with
    | some o =>
      have same := KX a o known
      rw [ha] at same
      cases same
      exact core (fun _ => none) (fun _ => .inl rfl) (.inr ⟨_, vs.toArray, _, known, rfl, rfl, rfl, by rw [List.size_toArray, sized]; exact hl, by simpa using rv⟩) (fun _ _ z => nomatch z) (fun _ z => absurd rfl z) (fun z => absurd rfl z)
    | none =>
      let H0 : Hp := fun b => if b = a then some (.frz { cls := .type "list", data := .seq vs.toArray } (.lst (ns.map V.int))) else none
      have at_a : H0 a = some (.frz { cls := .type "list", data := .seq vs.toArray } (.lst (ns.map V.int))) := if_pos rfl
      have off : ∀ b, b ≠ a → H0 b = none := fun b hb => if_neg hb
      refine core H0 (fun b => ?_) (.inl (.inr ⟨_, at_a⟩)) (fun b u z => ?_) (fun b z => ?_) fun _ => known
      · by_cases c : b = a
        · rw [c]
          exact .inr ⟨_, _, at_a⟩
        · exact .inl (off b c)
      · by_cases c : b = a
        · rw [c, at_a] at z
          cases z
          rw [c]
          exact ⟨ha, by rw [List.length_map]; exact hl, vs, _, rv, ha⟩
        · rw [off b c] at z
          cases z
      · by_cases c : b = a
        · exact c
        · exact absurd (off b c) z
  intro H only hS hok hA hK
  have seen : ∀ {b : Addr} {o : Obj}, s₁.heap.get? b = some o → H b = none → (hidT s₁.heap H).get? b = some o := fun q n => hidT_get q n
  have untr : ∀ {b : Addr} {o : Obj} {es : Array DictEntry} {ep : Nat}, s₁.heap.get? b = some o → o.data = .dict es ep → H b = none := by
    intro b o es ep q d
    cases c : H b with
    | none => rfl
    | some u =>
      have same : b = a := hA b (by rw [c]; exact fun z => nomatch z)
      rw [same, ha] at q
      cases q
      cases (show Data.seq vs.toArray _ = Data.dict es ep from d)
  have spaces : ∀ {b : Addr} {m : Str → Option Value}, s₁.heap.Ns b m → (hidT s₁.heap H).Ns b m := by
    rintro b m ⟨o, es, ep, q, d, r⟩
    exact ⟨o, es, ep, seen q (untr q d), d, r⟩
  have KB : K.In (hidT s₁.heap H) := by
    intro b o q
    refine seen (KX b o q) ?_
    cases c : H b with
    | none => rfl
    | some u =>
      have same : b = a := hA b (by rw [c]; exact fun z => nomatch z)
      rw [same, hK (by rw [← same, c]; exact fun z => nomatch z)] at q
      cases q
  obtain ⟨mc, l1, l2⟩ := hlim
  have M : Mod K mg (hidT s₁.heap H) := ⟨KB, spaces hns, ⟨mb, spaces hb, hbb⟩, ⟨mc, spaces l1, l2⟩⟩
  have e0 : Env0 P w K mg (hidT s₁.heap H) callerA [] s₁ H := ⟨rfl, M, fun b o q => of_hidT q, Nat.le_of_eq (hidT_size _ _), trivial, fun b q => absurd (show b ∈ ([] : List Addr) from q) (by simp), hok, .of_eq hg⟩
  refine codeAny_mono ((F _ KB (spaces hns)).run callerA [] s₁ H ⟨[.ref a], []⟩ [.ref a] [.ref a] _ _ rfl hr e0 (hbind s₁ (.ref a)) (.cons rfl .nil) (hsp H only hS)) ?_
  intro res s' told
  match res, told with
  | .error er, told => exact (hCX H er s' told).elim
  | .ok (.ret u), ⟨v, H', q1, q2, q3, q4, q5, q6⟩ =>
    cases (show v = .bl true from q6)
    cases (show u = Value.bool true from q5)
    refine ⟨rfl, OldK.of_keep fun b o q => ?_, q1, q2⟩
    cases c : H b with
    | none => exact q3.keep b o q c (by intro z; exact absurd (show b ∈ ([] : List Addr) from z) (by simp)) (by simp)
    | some u =>
      rcases only b with z | ⟨ob, xs, z⟩
      · rw [c] at z
        cases z
      · obtain ⟨w1, _⟩ := hok b _ z
        obtain ⟨w2, _⟩ := q4 b _ (q3.frzs b ob _ z)
        rw [q] at w1
        cases w1
        exact w2
end
theorem walkG {l : PySem.W.OpenLaw} {n k : Nat} {q : Program} {loose : List Str} {XP : (Str → Option Value) → Heap → Prop} {YP : World → Heap → Prop} {d : DefRec} {K : Params → PySem.W.Frag} {CX : World → CXT} {sp : World → Sp} {x : Str}
    (hn : l.most = some n) (hn2 : n ≤ sizeLine) (hdf : d.params.defaults = []) (hr : Room k callerA)
    (hY : ∀ (w : World) (h : Heap), YP w h → (K w.params).In h)
    (F : ∀ (w : World) (mg : Str → Option Value) (fa : Addr) (h : Heap), (K w.params).In h → h.Ns mainGlobals mg → mg d.name = some (.ref fa) →
      ∃ fd : FuncData, (∀ (s : Shared) (u : Value), BindsTo s fd ⟨[u], []⟩ [(x, u)]) ∧
        ∀ base : Heap, (K w.params).In base → base.Ns mainGlobals mg → FnG l.prog w (K w.params) mg base (CX w) k fa fd [x] (sp w))
    (hsp : ∀ (w : World) (H : Hp) (a : Addr) (ns : List Int), ns.length ≤ n → (∀ z ∈ ns, Builtin.Int.intBits z ≤ 1048576) → Only H → SqL (K w.params) H a (ns.map V.int) → sp w [.ref a] H (fun v _ => v = .bl true) fun _ _ _ => False)
    (hCX : ∀ (w : World) (H : Hp) (s : Shared) (e : Value) (s' : Shared), CX w [] H s (fun _ _ _ => False) e s' → False) :
    PySem.W.WalkO q loose XP YP l.row.toRowW d [] (fun f vs => PySem.call f vs) := by
  refine Att.attach_callB hn hdf fun w s₀ s₁ mg mb fa o pm cd doc a vs ns G Y ho hd hcd hmg hobj hints hlen hbits hg => ?_
  obtain ⟨fd, hb, hF⟩ := F w mg fa _ (hY w _ Y) G.T.g hmg
  exact law_callG (hY w _ Y) G.T.g G.T.b G.T.builtins G.T.nolimit hg hobj hints (Nat.le_trans hlen hn2) hr hF hb (fun H h1 h2 => hsp w H a ns hlen hbits h1 h2) fun H e s' => hCX w H s₁ e s'
end PX

/-! PXc: tests, items, displays, calls. -/
namespace PX
open PySem L2
section
variable {X : Cx} {σ : L2.St} {H G : Hp} {α β γ : Type} [Rep α] [Rep β] [Rep γ] {a b c e : Expr} {es rest : List Expr} {pos p2 : Pos} {x : α} {y : β} {z : γ} {t u : Bool}
theorem sql_mono {K : PySem.W.Frag} {G G' : Hp} {p : Addr} {vs : List V} (e : Ex G G') (h : SqL K G p vs) : SqL K G' p vs := by
  rcases h with (h | ⟨o, h⟩) | h
  · exact .inl (.inl (e _ _ h))
  · exact .inl (.inr ⟨o, e _ _ h⟩)
  · exact .inr h
/-! ### tests -/
theorem et_val (h : EvX X e σ H G t) (he : ∀ whole, isTrue e X.env whole = (do let v ← whole; standAt e.pos; holding [v] (truthy v)) := by intro _; rfl) : EvT X e σ H G t := fun H1 G1 s Q k =>
  toT (pt_val pe_wp he) (show wpE X e σ H1 _ from h H1 G1 s _ fun v H2 G2 s2 r => ⟨t, r, k H2 G2 s2⟩)
theorem et_not (h : EvT X a σ H G t) : EvT X (.UnaryOp .Not a pos) σ H G (!t) := fun H1 G1 s Q k => toT (pt_not pt_wp) (show wpT X a σ H1 _ from h H1 G1 s _ k)
theorem ev_not (h : EvX X a σ H G t) : EvX X (.UnaryOp .Not a pos) σ H G (!t) := fun H1 G1 s Q k =>
  toE (pe_not pe_wp) (show wpE X a σ H1 _ from h H1 G1 s _ fun v H2 G2 s2 r => ⟨t, r, k _ H2 G2 s2 rfl⟩)
theorem et_w (h : EvW X e σ H G t) : EvT X e σ H G t := fun H1 G1 s Q k pins s0 I => h H1 G1 s Q k _ pins s0 I
theorem ew_and1 (h : EvT X a σ H G t) : EvW X (.BoolOp .And [a] pos) σ H G t := fun H1 G1 s Q k => toW (pw_and1 pt_wp) (h H1 G1 s Q k)
theorem ew_or1 (h : EvT X a σ H G t) : EvW X (.BoolOp .Or [a] pos) σ H G t := fun H1 G1 s Q k => toW (pw_or1 pt_wp) (h H1 G1 s Q k)
theorem ew_and (h : EvT X a σ H G t) (h2 : t = true → EvW X (.BoolOp .And (b :: rest) pos) σ H G u) (h3 : t = false → u = false) : EvW X (.BoolOp .And (a :: b :: rest) pos) σ H G u := fun H1 G1 s Q k =>
  toW (pw_and pt_wp pw_wp) (show wpT X a σ H1 _ from h H1 G1 s _ fun H2 G2 s2 => by
    cases t with
    | true => exact h2 rfl H2 G2 (s.trans s2) Q fun H3 G3 s3 => k H3 G3 (s2.trans s3)
    | false =>
      rw [h3 rfl] at k
      exact k H2 G2 s2)
theorem ew_or (h : EvT X a σ H G t) (h2 : t = false → EvW X (.BoolOp .Or (b :: rest) pos) σ H G u) (h3 : t = true → u = true) : EvW X (.BoolOp .Or (a :: b :: rest) pos) σ H G u := fun H1 G1 s Q k =>
  toW (pw_or pt_wp pw_wp) (show wpT X a σ H1 _ from h H1 G1 s _ fun H2 G2 s2 => by
    cases t with
    | false => exact h2 rfl H2 G2 (s.trans s2) Q fun H3 G3 s3 => k H3 G3 (s2.trans s3)
    | true =>
      rw [h3 rfl] at k
      exact k H2 G2 s2)
theorem ev_one {op} (h : EvX X a σ H G x) : EvX X (.BoolOp op [a] pos) σ H G x := fun H1 G1 s Q k => toE (pe_one pe_wp) (h H1 G1 s Q k)
theorem ev_and (h : EvX X a σ H G t) (h2 : t = true → EvX X (.BoolOp .And (b :: rest) pos) σ H G u) (h3 : t = false → u = false) : EvX X (.BoolOp .And (a :: b :: rest) pos) σ H G u := fun H1 G1 s Q k =>
  toE (pe_and pe_wp pe_wp) (show wpE X a σ H1 _ from h H1 G1 s _ fun v H2 G2 s2 r => ⟨t, r, by
    cases t with
    | true => exact h2 rfl H2 G2 (s.trans s2) Q fun v H3 G3 s3 => k v H3 G3 (s2.trans s3)
    | false =>
      rw [h3 rfl] at k
      exact k _ H2 G2 s2 rfl⟩)
theorem ev_or (h : EvX X a σ H G t) (h2 : t = false → EvX X (.BoolOp .Or (b :: rest) pos) σ H G u) (h3 : t = true → u = true) : EvX X (.BoolOp .Or (a :: b :: rest) pos) σ H G u := fun H1 G1 s Q k =>
  toE (pe_or pe_wp pe_wp) (show wpE X a σ H1 _ from h H1 G1 s _ fun v H2 G2 s2 r => ⟨t, r, by
    cases t with
    | false => exact h2 rfl H2 G2 (s.trans s2) Q fun v H3 G3 s3 => k v H3 G3 (s2.trans s3)
    | true =>
      rw [h3 rfl] at k
      exact k _ H2 G2 s2 rfl⟩)
theorem ev_if (h : EvT X c σ H G t) (h1 : t = true → EvX X a σ H G x) (h2 : t = false → EvX X b σ H G x) : EvX X (.IfExp c a b pos) σ H G x := fun H1 G1 s Q k =>
  toE (pe_ifExp pt_wp pe_wp pe_wp) (show wpT X c σ H1 _ from h H1 G1 s _ fun H2 G2 s2 => by
    cases t with
    | true => exact h1 rfl H2 G2 (s.trans s2) Q fun v H3 G3 s3 => k v H3 G3 (s2.trans s3)
    | false => exact h2 rfl H2 G2 (s.trans s2) Q fun v H3 G3 s3 => k v H3 G3 (s2.trans s3))
theorem ev_ifN {xs : List α} (h : EvT X c σ H G t) (h1 : t = true → EvN X a σ H G xs) (h2 : t = false → EvN X b σ H G xs) : EvN X (.IfExp c a b pos) σ H G xs := fun H1 G1 s Q k =>
  toE (pe_ifExp pt_wp pe_wp pe_wp) (show wpT X c σ H1 _ from h H1 G1 s _ fun H2 G2 s2 => by
    cases t with
    | true => exact h1 rfl H2 G2 (s.trans s2) Q fun p H3 G3 s3 n => k p H3 G3 (s2.trans s3) (none_back s2.exH n)
    | false => exact h2 rfl H2 G2 (s.trans s2) Q fun p H3 G3 s3 n => k p H3 G3 (s2.trans s3) (none_back s2.exH n))
/-- is True, is False -/
theorem et_is (ha : EvX X a σ H G t) (hb : EvX X b σ H G u) : EvT X (.Compare a [.Is] [b] pos) σ H G (decide (t = u)) := et_cmp op_isBl (nomark _) ha hb fun v w H1 G1 s hv hw Q k => ⟨t, u, hv, hw, k _ H1 G1 (Rc.refl s.sub) rfl⟩
theorem et_isnot (ha : EvX X a σ H G t) (hb : EvX X b σ H G u) : EvT X (.Compare a [.IsNot] [b] pos) σ H G (!decide (t = u)) := et_cmp op_notBl (nomark _) ha hb fun v w H1 G1 s hv hw Q k => ⟨t, u, hv, hw, k _ H1 G1 (Rc.refl s.sub) rfl⟩
theorem ev_isv (ha : EvX X a σ H G t) (hb : EvX X b σ H G u) : EvX X (.Compare a [.Is] [b] pos) σ H G (decide (t = u)) := ev_cmp op_isBl (nomark _) ha hb fun v w H1 G1 s hv hw Q k => ⟨t, u, hv, hw, k _ H1 G1 (Rc.refl s.sub) rfl⟩
/-- a op b op' c, on whole numbers -/
theorem et_chain {op op' : CmpOp} {g g' : Int → Int → Bool} {i j k : Int} (ho : OpR X (compareOp op) (rI0 fun i j => .bl (g i j))) (ho' : OpR X (compareOp op') (rI0 fun i j => .bl (g' i j))) (ha : EvX X a σ H G i) (hb : EvX X b σ H G j) (hc : EvX X c σ H G k)
    (hm : lastMarks [op, op'] [b, c] = false := by with_unfolding_all rfl) : EvT X (.Compare a [op, op'] [b, c] pos) σ H G (g i j && g' j k) := fun H1 G1 s Q q =>
  toT (pt_chain ho ho' pe_wp pe_wp pe_wp hm) (show wpE X a σ H1 _ from ha H1 G1 s _ fun v H2 G2 s2 r2 => hb H2 G2 (s.trans s2) _ fun w H3 G3 s3 r3 => ⟨i, j, r2, r3, g i j, rfl, by
    cases hg : g i j with
    | true => exact hc H3 G3 ((s.trans s2).trans s3) _ fun u H4 G4 s4 r4 => ⟨j, k, r3, r4, _, rfl, by
        rw [hg, Bool.true_and] at q
        exact q H4 G4 ((s2.trans s3).trans s4)⟩
    | false =>
      rw [hg, Bool.false_and] at q
      exact ⟨false, rfl, q H3 G3 (s2.trans s3)⟩⟩)
theorem ev_chain {op op' : CmpOp} {g g' : Int → Int → Bool} {i j k : Int} (ho : OpR X (compareOp op) (rI0 fun i j => .bl (g i j))) (ho' : OpR X (compareOp op') (rI0 fun i j => .bl (g' i j))) (ha : EvX X a σ H G i) (hb : EvX X b σ H G j) (hc : EvX X c σ H G k)
    (hm : lastMarks [op, op'] [b, c] = false := by with_unfolding_all rfl) : EvX X (.Compare a [op, op'] [b, c] pos) σ H G (g i j && g' j k) := fun H1 G1 s Q q =>
  toE (pe_chain ho ho' pe_wp pe_wp pe_wp hm) (show wpE X a σ H1 _ from ha H1 G1 s _ fun v H2 G2 s2 r2 => hb H2 G2 (s.trans s2) _ fun w H3 G3 s3 r3 => ⟨i, j, r2, r3, g i j, rfl, by
    cases hg : g i j with
    | true => exact hc H3 G3 ((s.trans s2).trans s3) _ fun u H4 G4 s4 r4 => ⟨j, k, r3, r4, by
        rw [hg, Bool.true_and] at q
        exact q _ H4 G4 ((s2.trans s3).trans s4) rfl⟩
    | false =>
      rw [hg, Bool.false_and] at q
      exact q _ H3 G3 (s2.trans s3) rfl⟩)

/-! ### items, slices -/
theorem ev_ix {xs : List α} {i : Int} (h : ix xs i = some x) (ha : EvX X a σ H G xs) (hb : EvX X b σ H G i) (hs : PlainIx b := by exact fun _ _ => rfl) : EvX X (.Subscript a b pos) σ H G x := fun H1 G1 s Q k =>
  toE (pe_ix ix_list pe_wp pe_wp hs) (show wpE X a σ H1 _ from ha H1 G1 s _ fun v H2 G2 s2 r2 => hb H2 G2 (s.trans s2) _ fun w H3 G3 s3 r3 => by
    obtain ⟨p, vs, q1, q2, q3⟩ := Rep.mono s3.ex r2
    obtain ⟨v', e1, e2⟩ := atI_paired q3 h
    exact ⟨p, vs, i, v', q1, r3, .inl (.inl (s3.sub _ _ q2)), e1, k v' H3 G3 (s2.trans s3) e2⟩)
/-- an item of the script -/
theorem ev_ixS {xs : Scr} {i j : Int} (h : ix xs.l i = some j) (ha : EvX X a σ H G xs) (hb : EvX X b σ H G i) (hs : PlainIx b := by exact fun _ _ => rfl) : EvX X (.Subscript a b pos) σ H G j := fun H1 G1 s Q k =>
  toE (pe_ix ix_list pe_wp pe_wp hs) (show wpE X a σ H1 _ from ha H1 G1 s _ fun v H2 G2 s2 r2 => hb H2 G2 (s.trans s2) _ fun w H3 G3 s3 r3 => by
    obtain ⟨p, q1, q2⟩ := Rep.mono s3.ex r2
    obtain ⟨v', e1, e2⟩ := atI_paired (rels_of_int (K := X.K) (G := G3) xs.l) h
    exact ⟨p, _, i, v', q1, r3, sql_mono s3.sub q2, e1, k v' H3 G3 (s2.trans s3) e2⟩)
theorem ev_fst {x : α × β} {j p3 p4} (ha : EvX X a σ H G x) : EvX X (.Subscript a (.Constant (.int 0) j p3) p4) σ H G x.1 := fun H1 G1 s Q k =>
  toE (pe_ix ix_tup pe_wp pe_int (fun _ _ => rfl)) (show wpE X a σ H1 _ from ha H1 G1 s _ fun v H2 G2 s2 ⟨p, u, w, q1, q2, q3, q4⟩ => ⟨p, _, 0, u, q1, rfl, .inl (.inl (s2.sub _ _ q2)), rfl, k u H2 G2 s2 q3⟩)
theorem ev_snd {x : α × β} {j p3 p4} (ha : EvX X a σ H G x) : EvX X (.Subscript a (.Constant (.int 1) j p3) p4) σ H G x.2 := fun H1 G1 s Q k =>
  toE (pe_ix ix_tup pe_wp pe_int (fun _ _ => rfl)) (show wpE X a σ H1 _ from ha H1 G1 s _ fun v H2 G2 s2 ⟨p, u, w, q1, q2, q3, q4⟩ => ⟨p, _, 1, w, q1, rfl, .inl (.inl (s2.sub _ _ q2)), rfl, k w H2 G2 s2 q4⟩)
/-- an end of a slice -/
def EvO (X : Cx) (e : Option Expr) (σ : L2.St) (H G : Hp) (o : Option Int) : Prop := ∃ t : TO, PO X e t ∧ ∀ H1 G1, Rc [] H G H1 G1 → ∀ Q : Option Int → Hp → Prop, (∀ H2 G2, Rc [] H1 G1 H2 G2 → Q o H2) → t σ H1 Q
theorem eo_none : EvO X none σ H G none := ⟨_, po_none, fun H1 G1 s Q k => k H1 G1 (Rc.refl s.sub)⟩
theorem eo_some {i : Int} (h : EvX X e σ H G i) : EvO X (some e) σ H G (some i) := ⟨_, po_some pe_wp, fun H1 G1 s Q k => h H1 G1 s _ fun v H2 G2 s2 r => ⟨i, r, k H2 G2 s2⟩⟩
theorem Own.mk {K : PySem.W.Frag} {p : Addr} {vs : List V} {xs : List α} (e : Ex G H) (n : H p = none) (h : Rels K G vs xs) : Own K (upd H p (.lst vs)) G p xs := ⟨vs, upd_same, none_back e n, h⟩
theorem ev_slice {xs : List α} {lo hi : Option Expr} {l h : Option Int} (ha : EvX X a σ H G xs) (hl : EvO X lo σ H G l) (hh : EvO X hi σ H G h) : EvN X (.Subscript a (.Slice lo hi none p2) pos) σ H G (cut xs l h) := fun H1 G1 s Q k => by
  obtain ⟨tl, pl, ql⟩ := hl
  obtain ⟨th, ph, qh⟩ := hh
  refine toE (pe_slice sl_list pe_wp pl ph) (show wpE X a σ H1 _ from ha H1 G1 s _ fun v H2 G2 s2 r2 => ql H2 G2 (s.trans s2) _ fun H3 G3 s3 => qh H3 G3 ((s.trans s2).trans s3) _ fun H4 G4 s4 => ?_)
  obtain ⟨p, vs, q1, q2, q3⟩ := Rep.mono (s3.trans s4).ex r2
  refine ⟨p, vs, q1, .inl (.inl (s4.sub _ _ q2)), fun d nd => k d _ G4 (((s2.trans s3).trans s4).trans (Rc.new s4.sub nd)) (none_back s2.exH (none_back s3.exH (none_back s4.exH nd))) (Own.mk s4.sub nd (paired_cut q3 l h))⟩
theorem ev_rev {xs : List α} {k : Nat} {p1 p3 : Pos} (ha : EvX X a σ H G xs) : EvN X (.Subscript a (.Slice none none (some (.UnaryOp .USub (.Constant (.int 1) k p1) p2)) p3) pos) σ H G xs.reverse := fun H1 G1 s Q q =>
  toE (pe_revL pe_wp) (show wpE X a σ H1 _ from ha H1 G1 s _ fun v H2 G2 s2 ⟨p, vs, q1, q2, q3⟩ => ⟨p, vs, q1, .inl (.inl (s2.sub _ _ q2)), fun d nd => q d _ G2 (s2.trans (Rc.new s2.sub nd)) (none_back s2.exH nd) (Own.mk s2.sub nd (Paired.reverse q3))⟩)

/-! ### displays -/
def EvL (X : Cx) (es : List Expr) (σ : L2.St) (H G : Hp) (xs : List α) : Prop := ∀ H1 G1, Rc [] H G H1 G1 → ∀ Q : List V → Hp → Prop, (∀ vs H2 G2, Rc [] H1 G1 H2 G2 → Rels X.K G2 vs xs → Q vs H2) → wpA X es σ H1 Q
theorem el_nil : EvL (α := α) X [] σ H G [] := fun H1 G1 s Q k => toA pa_nil (k [] H1 G1 (Rc.refl s.sub) .nil)
theorem el_cons {xs : List α} (h : EvX X e σ H G x) (r : EvL X es σ H G xs) (hs : starEach (e :: es) X.env = (false, eval e X.env) :: starEach es X.env := by rfl) : EvL X (e :: es) σ H G (x :: xs) := fun H1 G1 s Q k =>
  toA (pa_cons pe_wp pa_wp hs) (show wpE X e σ H1 _ from h H1 G1 s _ fun v H2 G2 s2 r2 => r H2 G2 (s.trans s2) _ fun vs H3 G3 s3 r3 => k _ H3 G3 (s2.trans s3) (.cons (Rep.mono s3.ex r2) r3))
theorem ev_lst {xs : List α} (h : EvL X es σ H G xs) (hz : xs.length ≤ 100000 := by decide) : EvN X (.List es pos) σ H G xs := fun H1 G1 s Q k =>
  toE (pe_lst pa_wp) (show wpA X es σ H1 _ from h H1 G1 s _ fun vs H2 G2 s2 r2 => ⟨by rw [Paired.len r2]; exact Nat.le_trans hz (by decide), fun p np => k p _ G2 (s2.trans (Rc.new s2.sub np)) (none_back s2.exH np) (Own.mk s2.sub np r2)⟩)
theorem ev_pair {k1} (ha : EvX X a σ H G x) (hb : EvX X b σ H G y) (hs : starEach [a, b] X.env = (false, eval a X.env) :: starEach [b] X.env := by rfl) (hs2 : starEach [b] X.env = (false, eval b X.env) :: starEach [] X.env := by rfl) : EvX X (.Tuple [a, b] k1 pos) σ H G (x, y) := fun H1 G1 s Q k =>
  toE (pe_tup (pa_cons pe_wp (pa_cons pe_wp pa_nil hs2) hs)) (show wpE X a σ H1 _ from ha H1 G1 s _ fun v H2 G2 s2 r2 => hb H2 G2 (s.trans s2) _ fun w H3 G3 s3 r3 => ⟨(by show 2 ≤ sizeLine; decide), fun p np =>
    k _ _ (upd G3 p (.tup [v, w])) ((s2.trans s3).trans (Rc.newG s3.sub np)) ⟨p, v, w, rfl, upd_same, Rep.mono (s3.ex.trans (Ex.new (none_back s3.sub np))) r2, Rep.mono (Ex.new (none_back s3.sub np)) r3⟩⟩)
theorem ev_cat {xs ys zs : List α} (h : catO xs ys = some zs) (ha : EvX X a σ H G xs) (hb : EvX X b σ H G ys) : EvN X (.BinOp a .Add b pos) σ H G zs := by
  obtain ⟨h1, h2⟩ := dite_some h
  subst h2
  refine ev_opN op_cat ha hb fun v w H1 G1 s hv hw Q k => ?_
  obtain ⟨p, vs, q1, q2, q3⟩ := hv
  obtain ⟨p', ws, w1, w2, w3⟩ := hw
  exact ⟨p, p', vs, ws, q1, w1, s.sub _ _ q2, s.sub _ _ w2, by rw [Paired.len q3, Paired.len w3]; exact line_le h1, fun d nd => k d _ G1 (Rc.new s.sub nd) nd (Own.mk s.sub nd (Paired.append q3 w3))⟩
theorem ev_rep {xs zs : List α} {k : Int} (h : repO xs k = some zs) (ha : EvX X a σ H G xs) (hb : EvX X b σ H G k) : EvN X (.BinOp a .Mult b pos) σ H G zs := by
  obtain ⟨h1, h2⟩ := dite_some h
  subst h2
  refine ev_opN op_rep ha hb fun v w H1 G1 s hv hw Q q => ?_
  obtain ⟨p, vs, q1, q2, q3⟩ := hv
  exact ⟨p, k, vs, q1, hw, s.sub _ _ q2, h1.1, h1.2.1, by rw [Paired.len q3]; exact line_le h1.2.2, fun d nd => q d _ G1 (Rc.new s.sub nd) nd (Own.mk s.sub nd (paired_rep q3 _))⟩

/-! ### calls -/
variable {τ : Type} [ArgsR τ]
theorem ea_nil : EvA X [] σ H G () := fun H1 G1 s Q k => toA pa_nil (k [] H1 G1 (Rc.refl s.sub) rfl)
theorem ea_cons {w : τ} (h : EvX X e σ H G x) (r : EvA X es σ H G w) (hs : starEach (e :: es) X.env = (false, eval e X.env) :: starEach es X.env := by rfl) : EvA X (e :: es) σ H G (x, w) := fun H1 G1 s Q k =>
  toA (pa_cons pe_wp pa_wp hs) (show wpE X e σ H1 _ from h H1 G1 s _ fun v H2 G2 s2 r2 => r H2 G2 (s.trans s2) _ fun vs H3 G3 s3 r3 => k _ H3 G3 (s2.trans s3) ⟨v, vs, rfl, Rep.mono s3.ex r2, r3⟩)
/-- a built-in's call -/
theorem ev_bi {id : String} {r : List V → Hp → VK → Prop} {nm : Str} {p : Pos} {w : τ} (hc : CallR X (.builtin id) r) (hm : X.mg nm = none) (hv : bootBuiltins nm = some (.builtin id)) (ha : EvA X (e :: es) σ H G w)
    (hz : ∀ vs H1 G1, Rc [] H G H1 G1 → ArgsR.rel X.K G1 vs w → ∀ Q : VK, (∀ u H2 G2, Rc [] H1 G1 H2 G2 → Rep.rel X.K G2 u z → Q u H2) → r vs H1 Q) (hg : Gl X nm := by rfl) (hn : nm ≠ "__name__" := by decide) (hdb : (nm == ("__debug__" : Str)) = false := by decide)
    (he : starEach (e :: es) X.env = (false, eval e X.env) :: starEach es X.env := by rfl) (hpl : (backTo pos (starEach es X.env)).any (·.1) = false := by rfl) : EvX X (.Call (.Name nm p) (e :: es) [] pos) σ H G z := fun H1 G1 s Q k =>
  toE (pe_callB hc hg hm hv pa_wp hn hdb he hpl) (show wpA X (e :: es) σ H1 _ from ha H1 G1 s _ fun vs H2 G2 s2 r2 => hz vs H2 G2 (s.trans s2) r2 Q fun u H3 G3 s3 r3 => k u H3 G3 (s2.trans s3) r3)
theorem ev_biN {id : String} {r : List V → Hp → VK → Prop} {nm : Str} {p : Pos} {w : τ} {zs : List γ} (hc : CallR X (.builtin id) r) (hm : X.mg nm = none) (hv : bootBuiltins nm = some (.builtin id)) (ha : EvA X (e :: es) σ H G w)
    (hz : ∀ vs H1 G1, Rc [] H G H1 G1 → ArgsR.rel X.K G1 vs w → ∀ Q : VK, (∀ p H2 G2, Rc [] H1 G1 H2 G2 → H1 p = none → Own X.K H2 G2 p zs → Q (.ref p) H2) → r vs H1 Q) (hg : Gl X nm := by rfl) (hn : nm ≠ "__name__" := by decide) (hdb : (nm == ("__debug__" : Str)) = false := by decide)
    (he : starEach (e :: es) X.env = (false, eval e X.env) :: starEach es X.env := by rfl) (hpl : (backTo pos (starEach es X.env)).any (·.1) = false := by rfl) : EvN X (.Call (.Name nm p) (e :: es) [] pos) σ H G zs := fun H1 G1 s Q k =>
  toE (pe_callB hc hg hm hv pa_wp hn hdb he hpl) (show wpA X (e :: es) σ H1 _ from ha H1 G1 s _ fun vs H2 G2 s2 r2 => hz vs H2 G2 (s.trans s2) r2 Q fun u H3 G3 s3 n3 r3 => k u H3 G3 (s2.trans s3) (none_back s2.exH n3) r3)
/-- a built-in class called -/
theorem ev_ty {id : String} {r : List V → Hp → VK → Prop} {nm : Str} {p : Pos} {w : τ} (hc : CallR X (.type id) r) (hm : X.mg nm = none) (hv : bootBuiltins nm = some (.type id)) (ha : EvA X (e :: es) σ H G w)
    (hz : ∀ vs H1 G1, Rc [] H G H1 G1 → ArgsR.rel X.K G1 vs w → ∀ Q : VK, (∀ u H2 G2, Rc [] H1 G1 H2 G2 → Rep.rel X.K G2 u z → Q u H2) → r vs H1 Q) (hg : Gl X nm := by rfl) (hn : nm ≠ "__name__" := by decide) (hdb : (nm == ("__debug__" : Str)) = false := by decide)
    (he : starEach (e :: es) X.env = (false, eval e X.env) :: starEach es X.env := by rfl) (hpl : (backTo pos (starEach es X.env)).any (·.1) = false := by rfl) : EvX X (.Call (.Name nm p) (e :: es) [] pos) σ H G z := fun H1 G1 s Q k =>
  toE (pe_callTy hc hg hm hv pa_wp hn hdb he hpl) (show wpA X (e :: es) σ H1 _ from ha H1 G1 s _ fun vs H2 G2 s2 r2 => hz vs H2 G2 (s.trans s2) r2 Q fun u H3 G3 s3 r3 => k u H3 G3 (s2.trans s3) r3)
theorem ev_tyN {id : String} {r : List V → Hp → VK → Prop} {nm : Str} {p : Pos} {w : τ} {zs : List γ} (hc : CallR X (.type id) r) (hm : X.mg nm = none) (hv : bootBuiltins nm = some (.type id)) (ha : EvA X (e :: es) σ H G w)
    (hz : ∀ vs H1 G1, Rc [] H G H1 G1 → ArgsR.rel X.K G1 vs w → ∀ Q : VK, (∀ p H2 G2, Rc [] H1 G1 H2 G2 → H1 p = none → Own X.K H2 G2 p zs → Q (.ref p) H2) → r vs H1 Q) (hg : Gl X nm := by rfl) (hn : nm ≠ "__name__" := by decide) (hdb : (nm == ("__debug__" : Str)) = false := by decide)
    (he : starEach (e :: es) X.env = (false, eval e X.env) :: starEach es X.env := by rfl) (hpl : (backTo pos (starEach es X.env)).any (·.1) = false := by rfl) : EvN X (.Call (.Name nm p) (e :: es) [] pos) σ H G zs := fun H1 G1 s Q k =>
  toE (pe_callTy hc hg hm hv pa_wp hn hdb he hpl) (show wpA X (e :: es) σ H1 _ from ha H1 G1 s _ fun vs H2 G2 s2 r2 => hz vs H2 G2 (s.trans s2) r2 Q fun u H3 G3 s3 n3 r3 => k u H3 G3 (s2.trans s3) (none_back s2.exH n3) r3)
theorem args1 {K : PySem.W.Frag} {vs : List V} (h : ArgsR.rel K G vs (x, ())) : ∃ v, vs = [v] ∧ Rep.rel K G v x := by
  obtain ⟨v, r, h1, h2, h3⟩ := h
  exact ⟨v, by rw [h1, show r = [] from h3], h2⟩
theorem args2 {K : PySem.W.Frag} {vs : List V} (h : ArgsR.rel K G vs (x, y, ())) : ∃ v w, vs = [v, w] ∧ Rep.rel K G v x ∧ Rep.rel K G w y := by
  obtain ⟨v, r, h1, h2, h3⟩ := h
  obtain ⟨w, q1, q2⟩ := args1 h3
  exact ⟨v, w, by rw [h1, q1], h2, q2⟩
variable {p : Pos}
theorem ev_len {xs : List α} (hm : X.mg "len" = none) (ha : EvX X a σ H G xs) (hg : Gl X "len" := by rfl) (he : starEach [a] X.env = (false, eval a X.env) :: starEach [] X.env := by rfl) : EvX X (.Call (.Name "len" p) [a] [] pos) σ H G (xs.length : Int) :=
  ev_bi call_len_seq hm PySem.boot_len (ea_cons ha ea_nil he) (fun vs H1 G1 s r Q k => by
    obtain ⟨v, rfl, d, ws, q1, q2, q3⟩ := args1 r
    exact ⟨d, ws, by rw [q1], .inl (.inl (.inl (s.sub _ _ q2))), k _ H1 G1 (Rc.refl s.sub) (by rw [Paired.len q3]; rfl)⟩) hg (by decide) (by decide) he
theorem ev_lenS {xs : Scr} (hm : X.mg "len" = none) (ha : EvX X a σ H G xs) (hg : Gl X "len" := by rfl) (he : starEach [a] X.env = (false, eval a X.env) :: starEach [] X.env := by rfl) : EvX X (.Call (.Name "len" p) [a] [] pos) σ H G (xs.l.length : Int) :=
  ev_bi call_len_seq hm PySem.boot_len (ea_cons ha ea_nil he) (fun vs H1 G1 s r Q k => by
    obtain ⟨v, rfl, d, q1, q2⟩ := args1 r
    exact ⟨d, _, by rw [q1], .inl (sql_mono s.sub q2), k _ H1 G1 (Rc.refl s.sub) (by rw [List.length_map]; rfl)⟩) hg (by decide) (by decide) he
theorem ev_max2 {i j : Int} (hc : X.calm = true) (hm : X.mg "max" = none) (ha : EvX X a σ H G i) (hb : EvX X b σ H G j) (hg : Gl X "max" := by rfl) (he : starEach [a, b] X.env = (false, eval a X.env) :: starEach [b] X.env := by rfl) (he2 : starEach [b] X.env = (false, eval b X.env) :: starEach [] X.env := by rfl)
    (hpl : (backTo pos (starEach [b] X.env)).any (·.1) = false := by rfl) : EvX X (.Call (.Name "max" p) [a, b] [] pos) σ H G (max i j) :=
  ev_bi (call_max2 hc) hm (by decide +kernel) (ea_cons ha (ea_cons hb ea_nil he2) he) (fun vs H1 G1 s r Q k => by
    obtain ⟨v, w, rfl, q1, q2⟩ := args2 r
    exact ⟨i, j, by rw [show v = V.int i from q1, show w = V.int j from q2], k _ H1 G1 (Rc.refl s.sub) (show V.int _ = V.int _ by congr 1; rw [Int.max_def]; split <;> split <;> omega)⟩) hg (by decide) (by decide) he hpl
theorem ev_min2 {i j : Int} (hc : X.calm = true) (hm : X.mg "min" = none) (ha : EvX X a σ H G i) (hb : EvX X b σ H G j) (hg : Gl X "min" := by rfl) (he : starEach [a, b] X.env = (false, eval a X.env) :: starEach [b] X.env := by rfl) (he2 : starEach [b] X.env = (false, eval b X.env) :: starEach [] X.env := by rfl)
    (hpl : (backTo pos (starEach [b] X.env)).any (·.1) = false := by rfl) : EvX X (.Call (.Name "min" p) [a, b] [] pos) σ H G (min i j) :=
  ev_bi (call_min2 hc) hm (by decide +kernel) (ea_cons ha (ea_cons hb ea_nil he2) he) (fun vs H1 G1 s r Q k => by
    obtain ⟨v, w, rfl, q1, q2⟩ := args2 r
    exact ⟨i, j, by rw [show v = V.int i from q1, show w = V.int j from q2], k _ H1 G1 (Rc.refl s.sub) (show V.int _ = V.int _ by congr 1; rw [Int.min_def]; split <;> split <;> omega)⟩) hg (by decide) (by decide) he hpl
/-- int of a truth value -/
theorem ev_intB (hm : X.mg "int" = none) (ha : EvX X a σ H G t) (hg : Gl X "int" := by rfl) (he : starEach [a] X.env = (false, eval a X.env) :: starEach [] X.env := by rfl) : EvX X (.Call (.Name "int" p) [a] [] pos) σ H G (if t then 1 else 0 : Int) :=
  ev_ty call_int1 hm (by decide +kernel) (ea_cons ha ea_nil he) (fun vs H1 G1 s r Q k => by
    obtain ⟨v, rfl, q1⟩ := args1 r
    exact .inr ⟨t, by rw [show v = V.bl t from q1], k _ H1 G1 (Rc.refl s.sub) rfl⟩) hg (by decide) (by decide) he
/-- the greatest, the least -/
def maxO : List Int → Option Int
  | [] => none
  | x :: r => some (r.foldl max x)
def minO : List Int → Option Int
  | [] => none
  | x :: r => some (r.foldl min x)
theorem foldl_max_le {m : Int} : ∀ (r : List Int) (x : Int), x ≤ m → (∀ y ∈ r, y ≤ m) → r.foldl max x ≤ m
  | [], _, h, _ => h
  | y :: r, x, h, k => foldl_max_le r (max x y) (by have := k y List.mem_cons_self; omega) fun z hz => k z (List.mem_cons_of_mem _ hz)
theorem le_foldl_max : ∀ (r : List Int) (x y : Int), (y = x ∨ y ∈ r) → y ≤ r.foldl max x
  | [], x, y, h => by
    rcases h with h | h
    · exact Int.le_of_eq h
    · cases h
  | z :: r, x, y, h => by
    show y ≤ r.foldl max (max x z)
    rcases h with h | h
    · exact Int.le_trans (by omega) (le_foldl_max r (max x z) (max x z) (.inl rfl))
    · rcases List.mem_cons.mp h with h | h
      · exact Int.le_trans (by omega) (le_foldl_max r (max x z) (max x z) (.inl rfl))
      · exact le_foldl_max r (max x z) y (.inr h)
theorem le_foldl_min {m : Int} : ∀ (r : List Int) (x : Int), m ≤ x → (∀ y ∈ r, m ≤ y) → m ≤ r.foldl min x
  | [], _, h, _ => h
  | y :: r, x, h, k => le_foldl_min r (min x y) (by have := k y List.mem_cons_self; omega) fun z hz => k z (List.mem_cons_of_mem _ hz)
theorem foldl_min_le : ∀ (r : List Int) (x y : Int), (y = x ∨ y ∈ r) → r.foldl min x ≤ y
  | [], x, y, h => by
    rcases h with h | h
    · exact Int.le_of_eq h.symm
    · cases h
  | z :: r, x, y, h => by
    show r.foldl min (min x z) ≤ y
    rcases h with h | h
    · exact Int.le_trans (foldl_min_le r (min x z) (min x z) (.inl rfl)) (by omega)
    · rcases List.mem_cons.mp h with h | h
      · exact Int.le_trans (foldl_min_le r (min x z) (min x z) (.inl rfl)) (by omega)
      · exact foldl_min_le r (min x z) y (.inr h)
theorem maxO_is {xs : List Int} {m n : Int} (h : maxO xs = some m) (h1 : n ∈ xs) (h2 : ∀ y ∈ xs, y ≤ n) : n = m := by
  cases xs with
  | nil => cases h
  | cons x r =>
    have e : r.foldl max x = m := Option.some.inj h
    subst e
    have k1 := le_foldl_max r x n (List.mem_cons.mp h1)
    have k2 := foldl_max_le r x (h2 x List.mem_cons_self) fun z hz => h2 z (List.mem_cons_of_mem _ hz)
    omega
theorem minO_is {xs : List Int} {m n : Int} (h : minO xs = some m) (h1 : n ∈ xs) (h2 : ∀ y ∈ xs, n ≤ y) : n = m := by
  cases xs with
  | nil => cases h
  | cons x r =>
    have e : r.foldl min x = m := Option.some.inj h
    subst e
    have k1 := foldl_min_le r x n (List.mem_cons.mp h1)
    have k2 := le_foldl_min r x (h2 x List.mem_cons_self) fun z hz => h2 z (List.mem_cons_of_mem _ hz)
    omega
theorem ev_maxL {xs : List Int} {m : Int} (hc : X.calm = true) (hm : X.mg "max" = none) (h : maxO xs = some m) (ha : EvX X a σ H G xs) (hg : Gl X "max" := by rfl) (he : starEach [a] X.env = (false, eval a X.env) :: starEach [] X.env := by rfl) : EvX X (.Call (.Name "max" p) [a] [] pos) σ H G m :=
  ev_bi (cr_max hc) hm (by decide +kernel) (ea_cons ha ea_nil he) (fun vs H1 G1 s r Q k => by
    obtain ⟨v, rfl, d, ws, q1, q2, q3⟩ := args1 r
    rw [rels_int q3] at q2
    exact ⟨d, xs, by rw [q1], .inl (.inl (s.sub _ _ q2)), by cases xs with | nil => cases h | cons x r => exact Nat.succ_pos _, fun n h1 h2 => k _ H1 G1 (Rc.refl s.sub) (by rw [maxO_is h h1 h2]; rfl)⟩) hg (by decide) (by decide) he
theorem ev_minL {xs : List Int} {m : Int} (hc : X.calm = true) (hm : X.mg "min" = none) (h : minO xs = some m) (ha : EvX X a σ H G xs) (hg : Gl X "min" := by rfl) (he : starEach [a] X.env = (false, eval a X.env) :: starEach [] X.env := by rfl) : EvX X (.Call (.Name "min" p) [a] [] pos) σ H G m :=
  ev_bi (cr_min hc) hm (by decide +kernel) (ea_cons ha ea_nil he) (fun vs H1 G1 s r Q k => by
    obtain ⟨v, rfl, d, ws, q1, q2, q3⟩ := args1 r
    rw [rels_int q3] at q2
    exact ⟨d, xs, by rw [q1], .inl (.inl (s.sub _ _ q2)), by cases xs with | nil => cases h | cons x r => exact Nat.succ_pos _, fun n h1 h2 => k _ H1 G1 (Rc.refl s.sub) (by rw [minO_is h h1 h2]; rfl)⟩) hg (by decide) (by decide) he
theorem ev_sum {xs : List Int} (hc : X.calm = true) (hm : X.mg "sum" = none) (ha : EvX X a σ H G xs) (hg : Gl X "sum" := by rfl) (he : starEach [a] X.env = (false, eval a X.env) :: starEach [] X.env := by rfl) : EvX X (.Call (.Name "sum" p) [a] [] pos) σ H G xs.sum :=
  ev_bi (cr_sum hc) hm (by decide +kernel) (ea_cons ha ea_nil he) (fun vs H1 G1 s r Q k => by
    obtain ⟨v, rfl, d, ws, q1, q2, q3⟩ := args1 r
    rw [rels_int q3] at q2
    exact ⟨d, xs, by rw [q1], .inl (.inl (s.sub _ _ q2)), k _ H1 G1 (Rc.refl s.sub) rfl⟩) hg (by decide) (by decide) he
theorem ev_all {xs : List Bool} (hc : X.calm = true) (hm : X.mg "all" = none) (ha : EvX X a σ H G xs) (hg : Gl X "all" := by rfl) (he : starEach [a] X.env = (false, eval a X.env) :: starEach [] X.env := by rfl) : EvX X (.Call (.Name "all" p) [a] [] pos) σ H G (xs.all id) :=
  ev_bi (cr_all hc) hm (by decide +kernel) (ea_cons ha ea_nil he) (fun vs H1 G1 s r Q k => by
    obtain ⟨v, rfl, d, ws, q1, q2, q3⟩ := args1 r
    rw [rels_bl q3] at q2
    exact ⟨d, xs, by rw [q1], .inl (.inl (s.sub _ _ q2)), k _ H1 G1 (Rc.refl s.sub) rfl⟩) hg (by decide) (by decide) he
theorem rgV_rng (a b : Int) : rgV a b = (rng a b).map .int := by
  unfold rgV rng
  rw [List.map_map]
  rfl
theorem rngO_ok {a b : Int} {xs : List Int} (h : rngO a b = some xs) : RgOk a b ∧ xs = rng a b := by
  obtain ⟨h1, h2⟩ := dite_some h
  refine ⟨?_, h2.symm⟩
  have e : (line : Int) = 16000000 := rfl
  have e2 : line = 16000000 := rfl
  obtain ⟨q1, q2, q3, q4, q5⟩ := h1
  exact ⟨by omega, by omega, by omega, by omega, by omega⟩
theorem ev_listRng1 {j : Int} {xs : List Int} {pr p3 : Pos} (hc : X.calm = true) (hm : X.mg "list" = none) (hr : X.mg "range" = none) (h : rngO 0 j = some xs) (ha : EvX X a σ H G j) (hg : Gl X "list" := by rfl) (hg2 : Gl X "range" := by rfl) (hs : starEach [a] X.env = (false, eval a X.env) :: starEach [] X.env := by rfl)
    (hs2 : starEach [.Call (.Name "range" pr) [a] [] p3] X.env = (false, eval (.Call (.Name "range" pr) [a] [] p3) X.env) :: starEach [] X.env := by rfl) : EvN X (.Call (.Name "list" p) [.Call (.Name "range" pr) [a] [] p3] [] pos) σ H G xs := fun H1 G1 s Q k => by
  obtain ⟨h1, rfl⟩ := rngO_ok h
  exact toE (pe_listRg hc hg hm (prg_1 hg2 hr pe_wp hs) hs2) (show wpE X a σ H1 _ from ha H1 G1 s _ fun v H2 G2 s2 r2 => ⟨j, r2, h1, fun d nd => k d _ G2 (s2.trans (Rc.new s2.sub nd)) (none_back s2.exH nd) (Own.mk s2.sub nd (by rw [rgV_rng]; exact rels_of_int _))⟩)
/-- list of a list -/
theorem ev_list {xs : List α} (hm : X.mg "list" = none) (ha : EvX X a σ H G xs) (hg : Gl X "list" := by rfl) (he : starEach [a] X.env = (false, eval a X.env) :: starEach [] X.env := by rfl) : EvN X (.Call (.Name "list" p) [a] [] pos) σ H G xs :=
  ev_tyN call_list_of hm (by decide +kernel) (ea_cons ha ea_nil he) (fun vs H1 G1 s r Q k => by
    obtain ⟨v, rfl, d, ws, q1, q2, q3⟩ := args1 r
    exact ⟨d, ws, by rw [q1], .inl (.inl (.inl (s.sub _ _ q2))), fun l nl => k l _ G1 (Rc.new s.sub nl) nl (Own.mk s.sub nl q3)⟩) hg (by decide) (by decide) he
end
end PX

/-! PXd: promises, walks, comprehensions, statements. -/
namespace PX
open PySem L2

/-- behind an expression every list that is tracked has a length that Python allows -/
theorem wpE_post {X : Cx} {σ : L2.St} {H : Hp} {e : Expr} {Q : VK} (h : wpE X e σ H fun v H1 => (∀ a vs, H1 a = some (.lst vs) → vs.length ≤ sizeLine) → Q v H1) : wpE X e σ H Q := fun pins s I =>
  thn (h pins s I) fun _ _ ⟨v, H', I', r, q⟩ => ⟨v, H', I', r, q fun a _ e => (I'.hok a _ e).1⟩

/-! ### promises -/
section
variable {α γ τ : Type} [Rep α] [Rep γ] [ArgsR τ]
/-- a value of the arguments; nothing changes -/
def spV (f : τ → Option γ) (K : PySem.W.Frag) : Sp := fun vs H Q _ => ∃ G w r, Ex G H ∧ ArgsR.rel K G vs w ∧ f w = some r ∧ ∀ v H2 G2, Rc [] H G H2 G2 → Rep.rel K G2 v r → Q v H2
/-- a new list -/
def spN (f : τ → Option (List γ)) (K : PySem.W.Frag) : Sp := fun vs H Q _ => ∃ G w r, Ex G H ∧ ArgsR.rel K G vs w ∧ f w = some r ∧ ∀ p H2 G2, Rc [] H G H2 G2 → H p = none → Own K H2 G2 p r → Q (.ref p) H2
/-- the first argument, a list, changes -/
def spM (f : List α → τ → Option (γ × List α)) (K : PySem.W.Frag) : Sp := fun vs H Q _ => ∃ G a us pot w r pot', vs = .ref a :: us ∧ Ex G H ∧ Own K H G a pot ∧ ArgsR.rel K G us w ∧ f pot w = some (r, pot') ∧
  ∀ v H2 G2, Rc [a] H G H2 G2 → Own K H2 G2 a pot' → Rep.rel K G2 v r → Q v H2
def spMN (f : List α → τ → Option (List γ × List α)) (K : PySem.W.Frag) : Sp := fun vs H Q _ => ∃ G a us pot w r pot', vs = .ref a :: us ∧ Ex G H ∧ Own K H G a pot ∧ ArgsR.rel K G us w ∧ f pot w = some (r, pot') ∧
  ∀ p H2 G2, Rc [a] H G H2 G2 → H p = none → Own K H2 G2 a pot' → Own K H2 G2 p r → Q (.ref p) H2
theorem lenV {f : τ → Option γ} {K : PySem.W.Frag} {n : Nat} (h : ArgsR.n τ = n) : ∀ vs H Q E, spV f K vs H Q E → vs.length = n := fun vs H Q E ⟨_, _, _, _, q, _⟩ => by rw [ArgsR.len q, h]
theorem lenN {f : τ → Option (List γ)} {K : PySem.W.Frag} {n : Nat} (h : ArgsR.n τ = n) : ∀ vs H Q E, spN f K vs H Q E → vs.length = n := fun vs H Q E ⟨_, _, _, _, q, _⟩ => by rw [ArgsR.len q, h]
theorem lenM {f : List α → τ → Option (γ × List α)} {K : PySem.W.Frag} {n : Nat} (h : ArgsR.n τ + 1 = n) : ∀ vs H Q E, spM f K vs H Q E → vs.length = n := fun vs H Q E ⟨_, _, _, _, _, _, _, e, _, _, q, _⟩ => by rw [e, List.length_cons, ArgsR.len q, h]
theorem lenMN {f : List α → τ → Option (List γ × List α)} {K : PySem.W.Frag} {n : Nat} (h : ArgsR.n τ + 1 = n) : ∀ vs H Q E, spMN f K vs H Q E → vs.length = n := fun vs H Q E ⟨_, _, _, _, _, _, _, e, _, _, q, _⟩ => by rw [e, List.length_cons, ArgsR.len q, h]
end
section
variable {X : Cx} {σ : L2.St} {H G : Hp} {α β γ τ : Type} [Rep α] [Rep β] [Rep γ] [ArgsR τ] {a b c e tg iter elt : Expr} {es rest : List Expr} {pos p2 p : Pos} {x : α} {y : β} {z : γ} {t u : Bool} {w : τ}
  {k : Nat} {f : Addr} {fd : FuncData} {ps : List Str} {nm : Str}
theorem ev_call {fn : τ → Option γ} {r : γ} (F : FnG X.prog X.w X.K X.mg X.base CX0 k f fd ps (spV fn X.K)) (hG : X.A.guards = some []) (hr : Room k X.A) (hm : X.mg nm = some (.ref f)) (hk : PySem.W.keepIn X.K (.ref f) = true) (hb : Binds X.K fd ps []) (h : fn w = some r) (ha : EvA X (e :: es) σ H G w)
    (hg : Gl X nm := by rfl) (hdb : (nm == ("__debug__" : Str)) = false := by decide) (he : starEach (e :: es) X.env = (false, eval e X.env) :: starEach es X.env := by rfl) (hpl : (backTo pos (starEach es X.env)).any (·.1) = false := by rfl) : EvX X (.Call (.Name nm p) (e :: es) [] pos) σ H G r := fun H1 G1 s Q q =>
  toE (pe_callG F hG hr hg hm hk hb pass0 pa_wp hdb he hpl) (show wpA X (e :: es) σ H1 _ from ha H1 G1 s _ fun vs H2 G2 s2 r2 => ⟨G2, w, r, s2.sub, r2, h, fun v H3 G3 s3 r3 => q v H3 G3 (s2.trans s3) r3⟩)
theorem ev_callN {fn : τ → Option (List γ)} {r : List γ} (F : FnG X.prog X.w X.K X.mg X.base CX0 k f fd ps (spN fn X.K)) (hG : X.A.guards = some []) (hr : Room k X.A) (hm : X.mg nm = some (.ref f)) (hk : PySem.W.keepIn X.K (.ref f) = true) (hb : Binds X.K fd ps []) (h : fn w = some r) (ha : EvA X (e :: es) σ H G w)
    (hg : Gl X nm := by rfl) (hdb : (nm == ("__debug__" : Str)) = false := by decide) (he : starEach (e :: es) X.env = (false, eval e X.env) :: starEach es X.env := by rfl) (hpl : (backTo pos (starEach es X.env)).any (·.1) = false := by rfl) : EvN X (.Call (.Name nm p) (e :: es) [] pos) σ H G r := fun H1 G1 s Q q =>
  toE (pe_callG F hG hr hg hm hk hb pass0 pa_wp hdb he hpl) (show wpA X (e :: es) σ H1 _ from ha H1 G1 s _ fun vs H2 G2 s2 r2 => ⟨G2, w, r, s2.sub, r2, h, fun d H3 G3 s3 n3 o3 => q d H3 G3 (s2.trans s3) (none_back s2.exH n3) o3⟩)
/-- a call, its promise to be shown behind the arguments -/
theorem wp_call {sp : Sp} {Q : VK} (F : FnG X.prog X.w X.K X.mg X.base CX0 k f fd ps sp) (hG : X.A.guards = some []) (hr : Room k X.A) (hm : X.mg nm = some (.ref f)) (hk : PySem.W.keepIn X.K (.ref f) = true) (hb : Binds X.K fd ps []) (h : wpA X (e :: es) σ H fun vs H1 => sp vs H1 Q E0)
    (hg : Gl X nm := by rfl) (hdb : (nm == ("__debug__" : Str)) = false := by decide) (he : starEach (e :: es) X.env = (false, eval e X.env) :: starEach es X.env := by rfl) (hpl : (backTo pos (starEach es X.env)).any (·.1) = false := by rfl) : wpE X (.Call (.Name nm p) (e :: es) [] pos) σ H Q :=
  toE (pe_callG F hG hr hg hm hk hb pass0 pa_wp hdb he hpl) h
theorem wpA_nil {Q : List V → Hp → Prop} (h : Q [] H) : wpA X [] σ H Q := toA pa_nil h
theorem wpA_cons {Q : List V → Hp → Prop} (h : wpE X e σ H fun v H1 => wpA X es σ H1 fun vs H2 => Q (v :: vs) H2) (hs : starEach (e :: es) X.env = (false, eval e X.env) :: starEach es X.env := by rfl) : wpA X (e :: es) σ H Q := toA (pa_cons pe_wp pa_wp hs) h
theorem wp_var {i : Nat} {v : V} {Q : VK} (hs : σ[i]? = some (some v)) (h : Q v H) (hN : X.N[i]? = some nm := by rfl) (hv : Vis X.env.scope nm := by first | exact Or.inl rfl | exact Or.inr (Or.inl rfl) | exact Or.inr (Or.inr rfl))
    (hd : (nm == ("__debug__" : Str)) = false := by decide) (hcd : (nm == ("__classdict__" : Str)) = false := by decide) : wpE X (.Name nm pos) σ H Q := toE (pv i hN hv hd hcd) ⟨v, hs, h⟩
theorem EvA.go {Q : List V → Hp → Prop} (h : EvA X es σ H G w) (g : Ex G H) (q : ∀ vs H2 G2, Rc [] H G H2 G2 → ArgsR.rel X.K G2 vs w → Q vs H2) : wpA X es σ H Q := h H G (Rc.refl g) Q q
/-- a call that changes the list at its first argument, a name -/
theorem wp_callM {fn : List α → τ → Option (γ × List α)} {i : Nat} {d : Addr} {pot pot' : List α} {r : γ} {n0 : Str} {q0 : Pos} {Q : VK} (F : FnG X.prog X.w X.K X.mg X.base CX0 k f fd ps (spM fn X.K)) (hG : X.A.guards = some []) (hr : Room k X.A) (hm : X.mg nm = some (.ref f)) (hk : PySem.W.keepIn X.K (.ref f) = true) (hb : Binds X.K fd ps [])
    (hs : σ[i]? = some (some (.ref d))) (ha : EvA X es σ H G w) (g : Ex G H) (o : Own X.K H G d pot) (h : fn pot w = some (r, pot')) (q : ∀ v H2 G2, Rc [d] H G H2 G2 → Own X.K H2 G2 d pot' → Rep.rel X.K G2 v r → Q v H2)
    (hN : X.N[i]? = some n0 := by rfl) (hv : Vis X.env.scope n0 := by first | exact Or.inl rfl | exact Or.inr (Or.inl rfl) | exact Or.inr (Or.inr rfl)) (hd : (n0 == ("__debug__" : Str)) = false := by decide) (hcd : (n0 == ("__classdict__" : Str)) = false := by decide)
    (hg : Gl X nm := by rfl) (hdb : (nm == ("__debug__" : Str)) = false := by decide) (he : starEach (.Name n0 q0 :: es) X.env = (false, eval (.Name n0 q0) X.env) :: starEach es X.env := by rfl) (hpl : (backTo pos (starEach es X.env)).any (·.1) = false := by rfl) : wpE X (.Call (.Name nm p) (.Name n0 q0 :: es) [] pos) σ H Q := by
  refine wp_call F hG hr hm hk hb (wpA_cons (wp_var hs ?_ hN hv hd hcd) he) hg hdb he hpl
  exact ha.go g fun vs H2 G2 s2 r2 => ⟨G2, d, vs, pot, w, r, pot', rfl, s2.sub, o.step0 s2, r2, h, fun v H3 G3 s3 o3 r3 => q v H3 G3 (s2.any.trans s3) o3 r3⟩
theorem wp_callMN {fn : List α → τ → Option (List γ × List α)} {i : Nat} {d : Addr} {pot pot' : List α} {r : List γ} {n0 : Str} {q0 : Pos} {Q : VK} (F : FnG X.prog X.w X.K X.mg X.base CX0 k f fd ps (spMN fn X.K)) (hG : X.A.guards = some []) (hr : Room k X.A) (hm : X.mg nm = some (.ref f)) (hk : PySem.W.keepIn X.K (.ref f) = true) (hb : Binds X.K fd ps [])
    (hs : σ[i]? = some (some (.ref d))) (ha : EvA X es σ H G w) (g : Ex G H) (o : Own X.K H G d pot) (h : fn pot w = some (r, pot')) (q : ∀ l H2 G2, Rc [d] H G H2 G2 → H l = none → Own X.K H2 G2 d pot' → Own X.K H2 G2 l r → Q (.ref l) H2)
    (hN : X.N[i]? = some n0 := by rfl) (hv : Vis X.env.scope n0 := by first | exact Or.inl rfl | exact Or.inr (Or.inl rfl) | exact Or.inr (Or.inr rfl)) (hd : (n0 == ("__debug__" : Str)) = false := by decide) (hcd : (n0 == ("__classdict__" : Str)) = false := by decide)
    (hg : Gl X nm := by rfl) (hdb : (nm == ("__debug__" : Str)) = false := by decide) (he : starEach (.Name n0 q0 :: es) X.env = (false, eval (.Name n0 q0) X.env) :: starEach es X.env := by rfl) (hpl : (backTo pos (starEach es X.env)).any (·.1) = false := by rfl) : wpE X (.Call (.Name nm p) (.Name n0 q0 :: es) [] pos) σ H Q := by
  refine wp_call F hG hr hm hk hb (wpA_cons (wp_var hs ?_ hN hv hd hcd) he) hg hdb he hpl
  exact ha.go g fun vs H2 G2 s2 r2 => ⟨G2, d, vs, pot, w, r, pot', rfl, s2.sub, o.step0 s2, r2, h, fun l H3 G3 s3 n3 o3 r3 => q l H3 G3 (s2.any.trans s3) (none_back s2.exH n3) o3 r3⟩
/-- an operator, its parts to be run one by one -/
theorem wp_op {op : Operator} {r : R2} {Q : VK} (ho : OpR X (binaryOp op) r) (h : wpE X a σ H fun v H1 => wpE X b σ H1 fun w H2 => r v w H2 Q) : wpE X (.BinOp a op b pos) σ H Q := toE (pe_op ho pe_wp pe_wp) h
theorem wp_cmp {op : CmpOp} {r : R2} {Q : VK} (ho : OpR X (compareOp op) r) (hm : behindInMarks op b = false) (h : wpE X a σ H fun v H1 => wpE X b σ H1 fun w H2 => r v w H2 Q) : wpE X (.Compare a [op] [b] pos) σ H Q := toE (pe_cmpR ho pe_wp pe_wp hm) h
theorem wt_cmp {op : CmpOp} {r : R2} {Q : Bool → Hp → Prop} (ho : OpR X (compareOp op) r) (hm : behindInMarks op b = false) (h : wpE X a σ H fun v H1 => wpE X b σ H1 fun w H2 => r v w H2 fun z H3 => ∃ k, z = .bl k ∧ Q k H3) : wpT X (.Compare a [op] [b] pos) σ H Q := toT (pt_cmpR ho pe_wp pe_wp hm) h
theorem wt_val {Q : Bool → Hp → Prop} (h : wpE X e σ H fun v H1 => ∃ k, v = .bl k ∧ Q k H1) (he : ∀ whole, isTrue e X.env whole = (do let v ← whole; standAt e.pos; holding [v] (truthy v)) := by intro _; rfl) : wpT X e σ H Q := toT (pt_val pe_wp he) h
theorem wt_not {Q : Bool → Hp → Prop} (h : wpT X a σ H fun k H1 => Q (!k) H1) : wpT X (.UnaryOp .Not a pos) σ H Q := toT (pt_not pt_wp) h
theorem wt_w {Q : Bool → Hp → Prop} (h : wpW X e σ H Q) : wpT X e σ H Q := fun pins s I => h _ pins s I
theorem ww_and1 {Q : Bool → Hp → Prop} (h : wpT X a σ H Q) : wpW X (.BoolOp .And [a] pos) σ H Q := toW (pw_and1 pt_wp) h
theorem ww_or1 {Q : Bool → Hp → Prop} (h : wpT X a σ H Q) : wpW X (.BoolOp .Or [a] pos) σ H Q := toW (pw_or1 pt_wp) h
theorem ww_and {Q : Bool → Hp → Prop} (h : wpT X a σ H fun k H1 => if k = true then wpW X (.BoolOp .And (b :: rest) pos) σ H1 Q else Q false H1) : wpW X (.BoolOp .And (a :: b :: rest) pos) σ H Q := toW (pw_and pt_wp pw_wp) h
theorem ww_or {Q : Bool → Hp → Prop} (h : wpT X a σ H fun k H1 => if k = true then Q true H1 else wpW X (.BoolOp .Or (b :: rest) pos) σ H1 Q) : wpW X (.BoolOp .Or (a :: b :: rest) pos) σ H Q := toW (pw_or pt_wp pw_wp) h
theorem wp_if {Q : VK} (h : wpT X c σ H fun k H1 => if k = true then wpE X a σ H1 Q else wpE X b σ H1 Q) : wpE X (.IfExp c a b pos) σ H Q := toE (pe_ifExp pt_wp pe_wp pe_wp) h
theorem wp_lst {Q : VK} (h : wpA X es σ H fun vs H1 => vs.length ≤ sizeLine ∧ ∀ d, H1 d = none → Q (.ref d) (upd H1 d (.lst vs))) : wpE X (.List es pos) σ H Q := toE (pe_lst pa_wp) h
theorem wp_ix {Q : VK} (h : wpE X a σ H fun v H1 => wpE X b σ H1 fun w H2 => rIxL X.K v w H2 Q) (hs : PlainIx b := by exact fun _ _ => rfl) : wpE X (.Subscript a b pos) σ H Q := toE (pe_ix ix_list pe_wp pe_wp hs) h

/-! ### what a loop or a comprehension goes over -/
def wpI (X : Cx) (tg iter : Expr) : TI := fun σ H R => ∀ (pins : List (Addr × Obj)) (s : Shared), Inv X pins σ H s → wpAny (model X.prog X.w) X.A (eval iter X.env) (fun v s1 => wpAny (model X.prog X.w) X.A (pyIter v) (PIE X pins σ tg R) X.xe s1) X.xe s
theorem pi_wp : PI X tg iter (wpI X tg iter) := ⟨fun pins s σ H R I h => h pins s I⟩
theorem toI {wi : TI} {R : It → Hp → Prop} (h : PI X tg iter wi) (q : wi σ H R) : wpI X tg iter σ H R := fun pins s I => h.run pins s σ H R I q
/-- J goes over items; g stores one: u tells how the slots change -/
structure IsWalk {ι : Type} (g : TG) (J : It) (G : Hp) (items : List ι) (R : ι → Hp → (L2.St → L2.St) → Prop) : Prop where
  go : ∀ (i : Nat) (x : ι) (H' G' : Hp), items[i]? = some x → Ex G G' → Ex G' H' → J.go i H' ∧ ∀ v H'', J.yld i H' v H'' → ∀ (σ : L2.St) (Q : L2.St → Hp → Prop), (∀ u G'', Rc [] H' G' H'' G'' → R x G'' u → Q (u σ) H'') → g v σ H'' Q
  stop : ∀ H' G', Ex G G' → Ex G' H' → J.stop items.length H'
  len : items.length ≤ sizeLine
  mono : ∀ (x : ι) (G G' : Hp) (u : L2.St → L2.St), Ex G G' → R x G u → R x G' u
def EvI {ι : Type} (X : Cx) (tg iter : Expr) (g : TG) (σ : L2.St) (H G : Hp) (items : List ι) (R : ι → Hp → (L2.St → L2.St) → Prop) : Prop :=
  ∀ H1 G1, Rc [] H G H1 G1 → ∀ Rk : It → Hp → Prop, (∀ J H2 G2, Rc [] H1 G1 H2 G2 → IsWalk g J G2 items R → Rk J H2) → wpI X tg iter σ H1 Rk
/-- one name; two names of a pair -/
def rOne (K : PySem.W.Frag) (j : Nat) : α → Hp → (L2.St → L2.St) → Prop := fun x G u => ∃ v, Rep.rel K G v x ∧ u = fun σ => σ.set j (some v)
def rTwo (K : PySem.W.Frag) (i j : Nat) : α × β → Hp → (L2.St → L2.St) → Prop := fun x G u => ∃ v w, Rep.rel K G v x.1 ∧ Rep.rel K G w x.2 ∧ u = fun σ => (σ.set i (some v)).set j (some w)
theorem rOne_mono {K : PySem.W.Frag} {j : Nat} (x : α) (G G' : Hp) (u : L2.St → L2.St) (e : Ex G G') (h : rOne K j x G u) : rOne K j x G' u := by
  obtain ⟨v, h1, h2⟩ := h
  exact ⟨v, Rep.mono e h1, h2⟩
theorem rTwo_mono {K : PySem.W.Frag} {i j : Nat} (x : α × β) (G G' : Hp) (u : L2.St → L2.St) (e : Ex G G') (h : rTwo K i j x G u) : rTwo K i j x G' u := by
  obtain ⟨v, w, h1, h2, h3⟩ := h
  exact ⟨v, w, Rep.mono e h1, Rep.mono e h2, h3⟩
theorem ei_list {xs : List α} {j : Nat} (ha : EvX X a σ H G xs) : EvI X tg a (gName j) σ H G xs (rOne X.K j) := fun H1 G1 s Rk q =>
  toI (pi_list pe_wp) (show wpE X a σ H1 _ from wpE_post (ha H1 G1 s _ fun v H2 G2 s2 ⟨d, vs, q1, q2, q3⟩ hl => ⟨d, q1, ⟨vs, .inl (.inl (s2.sub _ _ q2))⟩, q _ H2 G2 s2 ⟨fun i x H' G' hx e1 e2 => by
    obtain ⟨v', k1, k2⟩ := Paired.get q3 hx
    have sq : SqL X.K H' d vs := .inl (.inl (e2 _ _ (e1 _ _ q2)))
    refine ⟨⟨vs, v', sq, k1⟩, fun w H'' ⟨eH, y⟩ σ' Q kk => ?_⟩
    subst eH
    have ew : w = v' := Option.some.inj ((y vs sq).symm.trans k1)
    subst ew
    exact kk (fun σ => σ.set j (some w)) G' (Rc.refl e2) ⟨w, Rep.mono e1 k2, rfl⟩, fun H' G' e1 e2 => ⟨vs, .inl (.inl (e2 _ _ (e1 _ _ q2))), by rw [Paired.len q3]; exact Nat.le_refl _⟩, by rw [← Paired.len q3]; exact hl _ _ (s2.sub _ _ q2), rOne_mono⟩⟩))
theorem ei_rng1 {n : Int} {j : Nat} {xs : List Int} (hm : X.mg "range" = none) (h : rngO 0 n = some xs) (ha : EvX X a σ H G n) (hg : Gl X "range" := by rfl) (hs : starEach [a] X.env = (false, eval a X.env) :: starEach [] X.env := by rfl) :
    EvI X tg (.Call (.Name "range" p) [a] [] pos) (gName j) σ H G xs (rOne X.K j) := fun H1 G1 s Rk q => by
  obtain ⟨⟨r1, r2, r3, r4, r5⟩, rfl⟩ := rngO_ok h
  refine toI (pi_range1 hg hm (pa_cons pe_wp pa_nil hs) hs) (show wpE X a σ H1 _ from ha H1 G1 s _ fun v H2 G2 s2 r => ⟨n, by rw [show v = V.int n from r], r3, r4, q _ H2 G2 s2 ⟨fun i x H' G' hx e1 e2 => ?_, fun H' G' e1 e2 => ?_, ?_, rOne_mono⟩⟩)
  · have hx2 := hx
    unfold rng at hx2
    rw [Int.sub_zero, List.getElem?_map] at hx2
    have hi : i < n.toNat := by
      have := (List.getElem?_eq_some_iff.mp hx).1
      unfold rng at this
      rw [List.length_map, List.length_range, Int.sub_zero] at this
      exact this
    rw [List.getElem?_range hi] at hx2
    have ex : (0 : Int) + (i : Nat) = x := Option.some.inj hx2
    refine ⟨hi, fun w H'' ⟨eH, ew⟩ σ' Q kk => ?_⟩
    subst eH
    subst ew
    exact kk (fun σ => σ.set j (some (.int (0 + (i : Nat))))) G' (Rc.refl e2) ⟨_, by rw [← ex]; rfl, rfl⟩
  · show n.toNat ≤ (rng 0 n).length
    unfold rng
    rw [List.length_map, List.length_range, Int.sub_zero]
    exact Nat.le_refl _
  · unfold rng
    rw [List.length_map, List.length_range]
    exact r5
theorem ei_rng2 {m n : Int} {j : Nat} {xs : List Int} (hm : X.mg "range" = none) (h : rngO m n = some xs) (ha : EvX X a σ H G m) (hb : EvX X b σ H G n) (hg : Gl X "range" := by rfl) (hs : starEach [a, b] X.env = (false, eval a X.env) :: starEach [b] X.env := by rfl) (hs2 : starEach [b] X.env = (false, eval b X.env) :: starEach [] X.env := by rfl)
    (hpl : (backTo pos (starEach [b] X.env)).any (·.1) = false := by rfl) :
    EvI X tg (.Call (.Name "range" p) [a, b] [] pos) (gName j) σ H G xs (rOne X.K j) := fun H1 G1 s Rk q => by
  obtain ⟨⟨r1, r2, r3, r4, r5⟩, rfl⟩ := rngO_ok h
  refine toI (pi_range2 hg hm (pa_cons pe_wp (pa_cons pe_wp pa_nil hs2) hs) (hs.trans (congrArg _ hs2)) hs2) (show wpE X a σ H1 _ from ha H1 G1 s _ fun v H2 G2 s2 r => hb H2 G2 (s.trans s2) _ fun w H3 G3 s3 r' => ⟨m, n, by rw [show v = V.int m from r, show w = V.int n from r'], ⟨r1, r2, r3, r4⟩, q _ H3 G3 (s2.trans s3) ⟨fun i x H' G' hx e1 e2 => ?_, fun H' G' e1 e2 => ?_, ?_, rOne_mono⟩⟩)
  · have hx2 := hx
    unfold rng at hx2
    rw [List.getElem?_map] at hx2
    have hi : i < (n - m).toNat := by
      have := (List.getElem?_eq_some_iff.mp hx).1
      unfold rng at this
      rw [List.length_map, List.length_range] at this
      exact this
    rw [List.getElem?_range hi] at hx2
    have ex : m + (i : Nat) = x := Option.some.inj hx2
    refine ⟨hi, fun w H'' ⟨eH, ew⟩ σ' Q kk => ?_⟩
    subst eH
    subst ew
    exact kk (fun σ => σ.set j (some (.int (m + (i : Nat))))) G' (Rc.refl e2) ⟨_, by rw [← ex]; rfl, rfl⟩
  · show (n - m).toNat ≤ (rng m n).length
    unfold rng
    rw [List.length_map, List.length_range]
    exact Nat.le_refl _
  · unfold rng
    rw [List.length_map, List.length_range]
    exact r5
/-- enumerate(xs) -/
theorem ei_enum {xs : List α} {i j : Nat} {elts : List Expr} {kk : Nat} {tpos : Pos} (hm : X.mg "enumerate" = none) (ha : EvX X a σ H G xs) (hg : Gl X "enumerate" := by rfl) (hs : starEach [a] X.env = (false, eval a X.env) :: starEach [] X.env := by rfl) :
    EvI X (.Tuple elts kk tpos) (.Call (.Name "enumerate" p) [a] [] pos) (gTup X.K 2 (gCons (gName i) (gCons (gName j) gNil))) σ H G (enumI xs) (rTwo X.K i j) := fun H1 G1 s Rk q =>
  toI (pi_enum hg hm (pa_cons pe_wp pa_nil hs) hs) (show wpE X a σ H1 _ from wpE_post (ha H1 G1 s _ fun v H2 G2 s2 ⟨d, vs, q1, q2, q3⟩ hl => ⟨d, vs, by rw [q1], .inl (.inl (s2.sub _ _ q2)), q _ H2 G2 s2 ⟨fun n x H' G' hx e1 e2 => by
    have hx2 := hx
    unfold enumI at hx2
    rw [List.getElem?_map, List.getElem?_zipIdx] at hx2
    cases hn : xs[n]? with
    | none =>
      rw [hn] at hx2
      cases hx2
    | some y =>
      rw [hn] at hx2
      have ex : (((0 + n : Nat) : Int), y) = x := Option.some.inj hx2
      obtain ⟨v', k1, k2⟩ := Paired.get q3 hn
      have sq : SqL X.K H' d vs := .inl (.inl (e2 _ _ (e1 _ _ q2)))
      refine ⟨⟨vs, v', sq, k1⟩, fun w H'' ⟨T, v'', ew, nT, eH, y'⟩ σ' Q kk => ?_⟩
      subst eH
      subst ew
      have e3 : v'' = v' := Option.some.inj ((y' vs sq).symm.trans k1)
      subst e3
      have nG : G' T = none := none_back e2 nT
      refine ⟨T, [.int (n : Nat), v''], rfl, .inl (.inl upd_same), rfl, .int (n : Nat), [v''], rfl, v'', [], rfl, rfl, ?_⟩
      exact kk (fun σ => (σ.set i (some (.int (n : Nat)))).set j (some v'')) (upd G' T (.tup [.int (n : Nat), v''])) (Rc.newG e2 nT) ⟨_, _, by rw [← ex]; show V.int _ = V.int _; rw [Nat.zero_add], by rw [← ex]; exact Rep.mono (e1.trans (Ex.new nG)) k2, rfl⟩, fun H' G' e1 e2 => ⟨vs, .inl (.inl (e2 _ _ (e1 _ _ q2))), by
        unfold enumI
        rw [Paired.len q3, List.length_map, List.length_zipIdx]
        exact Nat.le_refl _⟩, by
        unfold enumI
        rw [List.length_map, List.length_zipIdx, ← Paired.len q3]
        exact hl _ _ (s2.sub _ _ q2), rTwo_mono⟩⟩))
/-- zip(xs, ys) -/
theorem ei_zip {xs : List α} {ys : List β} {i j : Nat} {elts : List Expr} {kk : Nat} {tpos : Pos} (hm : X.mg "zip" = none) (ha : EvX X a σ H G xs) (hb : EvX X b σ H G ys) (hg : Gl X "zip" := by rfl) (hs : starEach [a, b] X.env = (false, eval a X.env) :: starEach [b] X.env := by rfl) (hs2 : starEach [b] X.env = (false, eval b X.env) :: starEach [] X.env := by rfl)
    (hpl : (backTo pos (starEach [b] X.env)).any (·.1) = false := by rfl) :
    EvI X (.Tuple elts kk tpos) (.Call (.Name "zip" p) [a, b] [] pos) (gTup X.K 2 (gCons (gName i) (gCons (gName j) gNil))) σ H G (xs.zip ys) (rTwo X.K i j) := fun H1 G1 s Rk q =>
  toI (pi_zip hg hm (pa_cons pe_wp (pa_cons pe_wp pa_nil hs2) hs) hs hpl) (show wpE X a σ H1 _ from ha H1 G1 s _ fun v H2 G2 s2 ⟨d, vs, q1, q2, q3⟩ => wpE_post (hb H2 G2 (s.trans s2) _ fun w H3 G3 s3 ⟨d', ws, w1, w2, w3⟩ hl =>
    ⟨d, d', vs, ws, by rw [q1, w1], .inl (.inl (s3.sub _ _ (s3.ex _ _ q2))), .inl (.inl (s3.sub _ _ w2)), q _ H3 G3 (s2.trans s3) ⟨fun n x H' G' hx e1 e2 => by
    have hx2 := hx
    rw [List.getElem?_zip_eq_some] at hx2
    obtain ⟨v', k1, k2⟩ := Paired.get q3 hx2.1
    obtain ⟨w', l1, l2⟩ := Paired.get w3 hx2.2
    have sq : SqL X.K H' d vs := .inl (.inl (e2 _ _ (e1 _ _ (s3.ex _ _ q2))))
    have sq2 : SqL X.K H' d' ws := .inl (.inl (e2 _ _ (e1 _ _ w2)))
    refine ⟨⟨vs, ws, v', w', sq, sq2, k1, l1⟩, fun u H'' ⟨T, x', y', eu, nT, eH, f1, f2⟩ σ' Q kk => ?_⟩
    subst eH
    subst eu
    have e3 : x' = v' := Option.some.inj ((f1 vs sq).symm.trans k1)
    have e4 : y' = w' := Option.some.inj ((f2 ws sq2).symm.trans l1)
    subst e3
    subst e4
    have nG : G' T = none := none_back e2 nT
    refine ⟨T, [x', y'], rfl, .inl (.inl upd_same), rfl, x', [y'], rfl, y', [], rfl, rfl, ?_⟩
    exact kk (fun σ => (σ.set i (some x')).set j (some y')) (upd G' T (.tup [x', y'])) (Rc.newG e2 nT) ⟨_, _, Rep.mono ((s3.ex.trans e1).trans (Ex.new nG)) k2, Rep.mono (e1.trans (Ex.new nG)) l2, rfl⟩, fun H' G' e1 e2 => ⟨vs, ws, .inl (.inl (e2 _ _ (e1 _ _ (s3.ex _ _ q2)))), .inl (.inl (e2 _ _ (e1 _ _ w2))), by
      rw [Paired.len q3, Paired.len w3, List.length_zip]
      omega⟩, by
      have l1 := hl _ _ (s3.sub _ _ w2)
      rw [Paired.len w3] at l1
      rw [List.length_zip]
      omega, rTwo_mono⟩⟩))
end
end PX

/-! PXe: comprehensions, statements, loops. -/
namespace PX
open PySem L2

/-! ### mirrors of loops -/
def lcO {ι β : Type} (c : ι → Option Bool) (f : ι → Option β) : List ι → Option (List β)
  | [] => some []
  | x :: r => (c x).bind fun b => cond b ((f x).bind fun y => (lcO c f r).bind fun ys => some (y :: ys)) (lcO c f r)
inductive Ctl (ρ S : Type) where
  | nx (s : S) | bk (s : S) | rt (r : ρ)
def forL {ι ρ S : Type} (body : ι → S → Option (Ctl ρ S)) : List ι → S → Option (Ctl ρ S)
  | [], s => some (.nx s)
  | x :: r, s => (body x s).bind fun c => match c with
    | .nx s' => forL body r s'
    | .bk s' => some (.nx s')
    | .rt y => some (.rt y)
def whl {ρ S : Type} (test : S → Option Bool) (body : S → Option (Ctl ρ S)) : Nat → S → Option (Ctl ρ S)
  | 0, _ => none
  | n + 1, s => (test s).bind fun b => cond b ((body s).bind fun c => match c with
    | .nx s' => whl test body n s'
    | .bk s' => some (.nx s')
    | .rt y => some (.rt y)) (some (.nx s))

section
variable {X : Cx} {σ : L2.St} {H G : Hp} {α β γ ι S ρ : Type} [Rep α] [Rep β] [Rep γ] {a b c e tg iter elt : Expr} {es rest ifs : List Expr} {st : Stmt} {sts sts2 : List Stmt} {pos p2 p p3 : Pos} {x : α} {y : β} {z : γ} {t u : Bool} {D D' : Ends} {g : TG} {scope : Scope} {own : List (Str × Nat)} {nm : Str} {i : Nat}
/-! ### comprehensions -/
def wpTs (X : Cx) (ifs : List Expr) : TT := fun σ H Q => ∀ (pins : List (Addr × Obj)) (s : Shared), Inv X pins σ H s →
  wpAny (model X.prog X.w) X.A (forIn ifs true fun c r => if r = true then do let ok ← isTrue c X.env (eval c X.env); pure (ForInStep.yield ok) else pure (ForInStep.yield r)) (TP X pins σ Q) X.xe s
def EvTs (X : Cx) (ifs : List Expr) (σ : L2.St) (H G : Hp) (b : Bool) : Prop := ∀ H1 G1, Rc [] H G H1 G1 → ∀ Q : Bool → Hp → Prop, (∀ H2 G2, Rc [] H1 G1 H2 G2 → Q b H2) → wpTs X ifs σ H1 Q
theorem ets_nil : EvTs X [] σ H G true := fun H1 G1 s Q k pins s0 I => pts_nil.run pins s0 σ H1 Q I (k H1 G1 (Rc.refl s.sub))
theorem ets_one (h : EvT X c σ H G t) : EvTs X [c] σ H G t := fun H1 G1 s Q k pins s0 I => (pts_one (X := X) (t := wpT X c) pt_wp).run pins s0 σ H1 Q I (h H1 G1 s Q k)
theorem lc_raw {items : List ι} {R : ι → Hp → (L2.St → L2.St) → Prop} {cf : ι → Option Bool} {f : ι → Option β} {ys : List β} {vs : List Nat} {tt : TT} {te : TE} (hi : EvI X tg iter g σ H G items R) (h : lcO cf f items = some ys)
    (hw : ∀ x G u, R x G u → wipe (u (wipe σ vs)) vs = wipe σ vs)
    (ht : ∀ x b u H1 G1, Rc [] H G H1 G1 → R x G1 u → cf x = some b → ∀ Q : Bool → Hp → Prop, (∀ H2 G2, Rc [] H1 G1 H2 G2 → Q b H2) → tt (u (wipe σ vs)) H1 Q)
    (he : ∀ x y u H1 G1, Rc [] H G H1 G1 → R x G1 u → cf x = some true → f x = some y → ∀ Q : VK, (∀ v H2 G2, Rc [] H1 G1 H2 G2 → Rep.rel X.K G2 v y → Q v H2) → te (u (wipe σ vs)) H1 Q)
    {H0 G0 : Hp} (s0 : Rc [] H G H0 G0) {Q : VK} (q : ∀ p H2 G2, Rc [] H0 G0 H2 G2 → H0 p = none → Own X.K H2 G2 p ys → Q (.ref p) H2) : tLc (wpI X tg iter) g tt te vs σ H0 Q := by
  show wpI X tg iter σ H0 _
  refine hi H0 G0 s0 _ fun J H1 G1 s1 W1 => ?_
  intro Dl nD
  have sD : Rc [] H1 G1 (upd H1 Dl (.lst [])) G1 := Rc.new s1.sub nD
  refine ⟨fun i m H' => m = items.length - i ∧ i ≤ items.length ∧ ∃ (G' : Hp) (done more : List β), Rc [] H1 G1 H' G' ∧ Own X.K H' G' Dl done ∧ done.length ≤ i ∧ lcO cf f (items.drop i) = some more ∧ ys = done ++ more,
    ⟨items.length, by omega, Nat.zero_le _, G1, [], ys, sD, Own.mk s1.sub nD .nil, Nat.zero_le _, h, rfl⟩, ?_⟩
  rintro i m H' ⟨rfl, hle, G', done, more, sr, ow, hz, hm, hy⟩
  by_cases hlt : i < items.length
  · refine .inr ?_
    have hx : items[i]? = some items[i] := List.getElem?_eq_getElem hlt
    obtain ⟨go, step⟩ := W1.go i items[i] H' G' hx sr.ex sr.sub
    rw [List.drop_eq_getElem_cons hlt] at hm
    refine ⟨go, fun H'' => ∃ (G'' : Hp) (done more : List β), Rc [] H1 G1 H'' G'' ∧ Own X.K H'' G'' Dl done ∧ done.length ≤ i + 1 ∧ lcO cf f (items.drop (i + 1)) = some more ∧ ys = done ++ more,
      fun H'' ⟨G'', done, more, k1, k2, k3, k4, k5⟩ => ⟨items.length - (i + 1), by omega, rfl, hlt, G'', done, more, k1, k2, k3, k4, k5⟩, fun v H'' y => ?_⟩
    refine step v H'' y _ _ fun uu G'' s2 r2 => ⟨hw _ _ _ r2, ?_⟩
    have s3 : Rc [] H G H'' G'' := (s0.trans (s1.trans sr)).trans s2
    obtain ⟨b, hb, hm⟩ := bind_some hm
    refine ht items[i] b uu H'' G'' s3 r2 hb _ fun H3 G3 s4 => ?_
    rcases cond_some hm with ⟨hb1, hm⟩ | ⟨hb1, hm⟩
    · subst hb1
      rw [if_pos rfl]
      obtain ⟨y0, hy0, hm⟩ := bind_some hm
      obtain ⟨more', hm', hm⟩ := bind_some hm
      refine he items[i] y0 uu H3 G3 (s3.trans s4) (W1.mono _ _ _ _ s4.ex r2) hb hy0 _ fun w H4 G4 s5 r5 => ?_
      obtain ⟨vs', h1, h2, h3⟩ := ((ow.step0 s2).step0 s4).step0 s5
      have hlen := W1.len
      refine ⟨vs', h1, by rw [Paired.len h3]; omega, G4, done ++ [y0], more', (((sr.trans s2).trans s4).trans s5).write (.inl nD) h2, ⟨_, upd_same, h2, Paired.append h3 (.cons r5 .nil)⟩, ?_, hm', ?_⟩
      · rw [List.length_append]
        show done.length + 1 ≤ i + 1
        omega
      · rw [hy, ← Option.some.inj hm, List.append_assoc]
        rfl
    · subst hb1
      rw [if_neg Bool.false_ne_true]
      exact ⟨G3, done, more, (sr.trans s2).trans s4, (ow.step0 s2).step0 s4, Nat.le_succ_of_le hz, hm, hy⟩
  · have ei : i = items.length := by omega
    subst ei
    refine .inl ⟨W1.stop H' G' sr.ex sr.sub, ?_⟩
    rw [List.drop_length] at hm
    have em : [] = more := Option.some.inj hm
    subst em
    rw [List.append_nil] at hy
    subst hy
    exact q Dl H' G' (s1.trans sr) (none_back s1.exH nD) ow

variable {items : List ι} {R : ι → Hp → (L2.St → L2.St) → Prop} {cf : ι → Option Bool} {f : ι → Option β} {ys : List β}
/-- a comprehension as a value -/
theorem ev_lc (hc : X.calm = true) (hN : X.N.Nodup) (ok : BlkOk X.N X.env.scope scope own) (hi : EvI X tg iter g σ H G items R)
    (hg : ∀ (s : Shared) (H : Hp) (C : Addr) (cl : List (Str × Addr)) (fp : List Addr), PG (X.blk s H scope (compEnvC scope cl C X.env) fp) tg g) (h : lcO cf f items = some ys)
    (hw : ∀ x G u, R x G u → wipe (u (wipe σ (own.map (·.2)))) (own.map (·.2)) = wipe σ (own.map (·.2)))
    (ht : ∀ (s : Shared) (H0 : Hp) (C : Addr) (cl : List (Str × Addr)) (fp : List Addr) x b u H1 G1, Rc [] H G H1 G1 → R x G1 u → cf x = some b → EvTs (X.blk s H0 scope (compEnvC scope cl C X.env) fp) ifs (u (wipe σ (own.map (·.2)))) H1 G1 b)
    (he : ∀ (s : Shared) (H0 : Hp) (C : Addr) (cl : List (Str × Addr)) (fp : List Addr) x y u H1 G1, Rc [] H G H1 G1 → R x G1 u → cf x = some true → f x = some y → EvX (X.blk s H0 scope (compEnvC scope cl C X.env) fp) elt (u (wipe σ (own.map (·.2)))) H1 G1 y)
    (hs : ∀ x, foldedSetIterable iter X.env x = pure x := by intro _; rfl) : EvN X (.ListComp elt [⟨tg, iter, ifs, 0⟩] scope pos) σ H G ys := fun H1 G1 s Q k =>
  toE (pe_lc (tt := fun σ H Q => ∀ (s : Shared) (H0 : Hp) (C : Addr) (cl : List (Str × Addr)) (fp : List Addr), wpTs (X.blk s H0 scope (compEnvC scope cl C X.env) fp) ifs σ H Q)
      (te := fun σ H Q => ∀ (s : Shared) (H0 : Hp) (C : Addr) (cl : List (Str × Addr)) (fp : List Addr), wpE (X.blk s H0 scope (compEnvC scope cl C X.env) fp) elt σ H Q) hc hN pi_wp ok hg
      (fun s H0 C cl fp => ⟨fun pins s1 σ1 H1 Q I q => q s H0 C cl fp pins s1 I⟩) (fun s H0 C cl fp => ⟨fun pins s1 σ1 H1 Q I q => q s H0 C cl fp pins s1 I⟩) hs)
    (lc_raw hi h hw (fun x b u H2 G2 s2 r hb Q' q s0 H0 C cl fp => ht s0 H0 C cl fp x b u H2 G2 s2 r hb H2 G2 (Rc.refl s2.sub) Q' q)
      (fun x y u H2 G2 s2 r hb hy Q' q s0 H0 C cl fp => he s0 H0 C cl fp x y u H2 G2 s2 r hb hy H2 G2 (Rc.refl s2.sub) Q' q) s k)
/-! ### statements -/
theorem SP.imp {pins : List (Addr × Obj)} {fl : Flow} {s : Shared} (h1 : ∀ σ H, D.nx σ H → D'.nx σ H) (h2 : ∀ v H, D.rt v H → D'.rt v H) (h3 : ∀ σ H, D.bk σ H → D'.bk σ H) (h4 : ∀ σ H, D.ct σ H → D'.ct σ H) (h : SP X pins D fl s) : SP X pins D' fl s := by
  cases fl with
  | next =>
    obtain ⟨σ', H', q1, q2⟩ := h
    exact ⟨σ', H', q1, h1 _ _ q2⟩
  | brk =>
    obtain ⟨σ', H', q1, q2⟩ := h
    exact ⟨σ', H', q1, h3 _ _ q2⟩
  | cont =>
    obtain ⟨σ', H', q1, q2⟩ := h
    exact ⟨σ', H', q1, h4 _ _ q2⟩
  | ret u =>
    obtain ⟨v, σ', H', q1, q2, q3⟩ := h
    exact ⟨v, σ', H', q1, q2, h2 _ _ q3⟩
theorem wpB_imp (h : wpB X sts D σ H) (h1 : ∀ σ H, D.nx σ H → D'.nx σ H) (h2 : ∀ v H, D.rt v H → D'.rt v H) (h3 : ∀ σ H, D.bk σ H → D'.bk σ H) (h4 : ∀ σ H, D.ct σ H → D'.ct σ H) : wpB X sts D' σ H := fun pins s I => thn (h pins s I) fun _ _ q => SP.imp h1 h2 h3 h4 q
theorem wb_nil (h : D.nx σ H) : wpB X [] D σ H := toB pss_nil h
theorem wb_cons (h : wpS X st { D with nx := fun σ' H' => wpB X sts D σ' H' } σ H) : wpB X (st :: sts) D σ H := toB (pss_cons ps_wp pss_wp) h
/-- the last statement -/
theorem wb_one (h : wpS X st D σ H) : wpB X [st] D σ H := toB (pss_one ps_wp) h
/-- a statement, then the rest, with a word between -/
theorem wb_cut (M : L2.St → Hp → Prop) (h : wpS X st { D with nx := M } σ H) (k : ∀ σ' H', M σ' H' → wpB X sts D σ' H') : wpB X (st :: sts) D σ H := wb_cons fun pins s I => thn (h pins s I) fun _ _ q => SP.imp (D := { D with nx := M }) k (fun _ _ z => z) (fun _ _ z => z) (fun _ _ z => z) q
theorem ws_set (hN : X.N.Nodup) (h : wpE X e σ H fun v H1 => D.nx (σ.set i (some v)) H1) (hi : X.N[i]? = some nm := by rfl) (hx : Loc X.env.scope nm := by first | exact Or.inl rfl | exact Or.inr rfl) (hs : swapsWith e (some (.Name nm p)) pos.line X.env = pure false := by rfl)
    (hf : X.fn nm = true ∨ X.env.scope.names.lookup nm = some .local := by first | exact .inl rfl | exact .inr rfl) : wpS X (.Assign [.Name nm p] e pos) D σ H := toS (ps_set (i := i) hN hi hx pe_wp hs hf) h
/-- name = [..] -/
theorem ws_setLc (hc : X.calm = true) (hN : X.N.Nodup) (ok : BlkOk X.N X.env.scope scope own) (hi : EvI X tg iter g σ H G items R) (e0 : Ex G H)
    (hg : ∀ (s : Shared) (H : Hp) (C : Addr) (cl : List (Str × Addr)) (fp : List Addr), PG (X.blk s H scope (compEnvC scope cl C X.env) fp) tg g) (h : lcO cf f items = some ys)
    (hw : ∀ x G u, R x G u → wipe (u (wipe σ (own.map (·.2)))) (own.map (·.2)) = wipe σ (own.map (·.2)))
    (ht : ∀ (s : Shared) (H0 : Hp) (C : Addr) (cl : List (Str × Addr)) (fp : List Addr) x b u H1 G1, Rc [] H G H1 G1 → R x G1 u → cf x = some b → EvTs (X.blk s H0 scope (compEnvC scope cl C X.env) fp) ifs (u (wipe σ (own.map (·.2)))) H1 G1 b)
    (he : ∀ (s : Shared) (H0 : Hp) (C : Addr) (cl : List (Str × Addr)) (fp : List Addr) x y u H1 G1, Rc [] H G H1 G1 → R x G1 u → cf x = some true → f x = some y → EvX (X.blk s H0 scope (compEnvC scope cl C X.env) fp) elt (u (wipe σ (own.map (·.2)))) H1 G1 y)
    (k : ∀ p H2 G2, Rc [] H G H2 G2 → H p = none → Own X.K H2 G2 p ys → D.nx (σ.set i (some (.ref p))) H2)
    (hj : X.N[i]? = some nm := by rfl) (hyl : X.env.scope.names.lookup nm = some .local := by rfl) (hsw : swapsWith (.ListComp elt [⟨tg, iter, ifs, 0⟩] scope pos) (some (.Name nm p)) p2.line X.env = pure true := by exact sw_true rfl rfl rfl (by decide +kernel))
    (hs : ∀ x, foldedSetIterable iter X.env x = pure x := by intro _; rfl) : wpS X (.Assign [.Name nm p] (.ListComp elt [⟨tg, iter, ifs, 0⟩] scope pos) p2) D σ H :=
  toS (ps_setLc (i := i) (tt := fun σ H Q => ∀ (s : Shared) (H0 : Hp) (C : Addr) (cl : List (Str × Addr)) (fp : List Addr), wpTs (X.blk s H0 scope (compEnvC scope cl C X.env) fp) ifs σ H Q)
      (te := fun σ H Q => ∀ (s : Shared) (H0 : Hp) (C : Addr) (cl : List (Str × Addr)) (fp : List Addr), wpE (X.blk s H0 scope (compEnvC scope cl C X.env) fp) elt σ H Q) hc hN hj hyl hsw pi_wp ok hg
      (fun s H0 C cl fp => ⟨fun pins s1 σ1 H1 Q I q => q s H0 C cl fp pins s1 I⟩) (fun s H0 C cl fp => ⟨fun pins s1 σ1 H1 Q I q => q s H0 C cl fp pins s1 I⟩) hs)
    (lc_raw hi h hw (fun x b u H2 G2 s2 r hb Q' q s0 H0 C cl fp => ht s0 H0 C cl fp x b u H2 G2 s2 r hb H2 G2 (Rc.refl s2.sub) Q' q)
      (fun x y u H2 G2 s2 r hb hy Q' q s0 H0 C cl fp => he s0 H0 C cl fp x y u H2 G2 s2 r hb hy H2 G2 (Rc.refl s2.sub) Q' q) (Rc.refl e0) k)
theorem ws_expr (h : wpE X e σ H fun _ H1 => D.nx σ H1) (hs : swapsWith e none pos.line X.env = pure false := by rfl) : wpS X (.Expr e pos) D σ H := toS (ps_expr pe_wp hs) h
theorem ws_ret (h : wpE X e σ H D.rt) : wpS X (.Return (some e) pos) D σ H := toS (ps_ret pe_wp) h
theorem ws_retN (h : D.rt .non H) : wpS X (.Return none pos) D σ H := toS ps_retN h
theorem ws_if (h : wpT X c σ H fun b H1 => if b = true then wpB X sts D σ H1 else wpB X sts2 D σ H1) : wpS X (.If c sts sts2 pos) D σ H := toS (ps_if pt_wp pss_wp pss_wp) h
theorem ws_if1 (h : wpT X c σ H fun b H1 => b = true ∧ wpB X sts D σ H1) : wpS X (.If c sts sts2 pos) D σ H := ws_if (wpT_mono (fun b H1 ⟨e, q⟩ => by rw [e, if_pos rfl]; exact q) h)
theorem ws_if0 (h : wpT X c σ H fun b H1 => b = false ∧ wpB X sts2 D σ H1) : wpS X (.If c sts sts2 pos) D σ H := ws_if (wpT_mono (fun b H1 ⟨e, q⟩ => by rw [e, if_neg Bool.false_ne_true]; exact q) h)
theorem ws_pass (h : D.nx σ H) : wpS X (.Pass pos) D σ H := toS ps_pass h
theorem ws_break (h : D.bk σ H) : wpS X (.Break pos) D σ H := toS ps_break h
theorem ws_cont (h : D.ct σ H) : wpS X (.Continue pos) D σ H := toS ps_continue h
end
end PX

/-! PXf: lists changed, several names stored, loops. -/
namespace PX
open PySem L2
section
variable {X : Cx} {σ : L2.St} {H G : Hp} {α β γ ι S ρ : Type} [Rep α] [Rep β] [Rep γ] {a b c e tg iter elt : Expr} {es rest ifs : List Expr} {st : Stmt} {sts sts2 : List Stmt} {pos p2 p p3 apos : Pos} {x : α} {y : β} {z : γ} {t u : Bool} {D D' : Ends} {g : TG} {nm : Str} {i j : Nat}
/-- xs.append(e) -/
theorem wp_append {l : Addr} {Q : VK} (hs : σ[i]? = some (some (.ref l))) (hl : ∃ vs, H l = some (.lst vs)) (h : wpE X e σ H fun v H1 => ∃ vs, H1 l = some (.lst vs) ∧ vs.length < sizeLine ∧ Q .non (upd H1 l (.lst (vs ++ [v]))))
    (hN : X.N[i]? = some nm := by rfl) (hv : Vis X.env.scope nm := by first | exact Or.inl rfl | exact Or.inr (Or.inl rfl) | exact Or.inr (Or.inr rfl)) (hd : (nm == ("__debug__" : Str)) = false := by decide) (hcd : (nm == ("__classdict__" : Str)) = false := by decide)
    (hbase : attributeBase (.Name nm p) "append" X.env (eval (.Name nm p) X.env) = eval (.Name nm p) X.env := by rfl)
    (hfew : ((backTo pos (starEach [e] X.env)).all (fun x => !x.1) && (backToKw pos (keywordEach [] X.env)).all (fun x => x.1.isSome) && decide ([e].length + ([] : List Keyword).length + (if ([] : List Keyword).isEmpty then 0 else 1) < 30)) = true := by rfl)
    (hline : (apos.endLine == pos.line) = true := by rfl) (hst : starEach [e] X.env = (false, eval e X.env) :: starEach [] X.env := by rfl) (hpl : (backTo pos (starEach [] X.env)).any (·.1) = false := by rfl) :
    wpE X (.Call (.Attribute (.Name nm p) "append" apos) [e] [] pos) σ H Q := by
  obtain ⟨vs0, hl⟩ := hl
  refine toE (pe_bm PySem.F.plainAttrs_list PySem.F.slot_list_append PySem.F.type_list_append mt_append (pv i hN hv hd hcd) (pa_cons pe_wp pa_nil hst) hbase hfew hline hst hpl) ⟨.ref l, hs, .inl ⟨rfl, _, .inl (.inl hl)⟩, ?_⟩
  exact wpE_mono (fun v H1 ⟨vs, h1, h2, h3⟩ => ⟨l, vs, v, rfl, rfl, h1, h2, h3⟩) h
theorem ws_app {l : Addr} {xs zs : List α} (hs : σ[i]? = some (some (.ref l))) (g0 : Ex G H) (ow : Own X.K H G l xs) (hz : appO xs x = some zs) (h : EvX X e σ H G x) (k : ∀ H2 G2, (∀ m H0 G0, Rc m H0 G0 H G → (H0 l = none ∨ l ∈ m) → Rc m H0 G0 H2 G2) → Rc [l] H G H2 G2 → Own X.K H2 G2 l zs → D.nx σ H2)
    (hN : X.N[i]? = some nm := by rfl) (hv : Vis X.env.scope nm := by first | exact Or.inl rfl | exact Or.inr (Or.inl rfl) | exact Or.inr (Or.inr rfl)) (hd : (nm == ("__debug__" : Str)) = false := by decide) (hcd : (nm == ("__classdict__" : Str)) = false := by decide)
    (hbase : attributeBase (.Name nm p) "append" X.env (eval (.Name nm p) X.env) = eval (.Name nm p) X.env := by rfl)
    (hfew : ((backTo pos (starEach [e] X.env)).all (fun x => !x.1) && (backToKw pos (keywordEach [] X.env)).all (fun x => x.1.isSome) && decide ([e].length + ([] : List Keyword).length + (if ([] : List Keyword).isEmpty then 0 else 1) < 30)) = true := by rfl)
    (hline : (apos.endLine == pos.line) = true := by rfl) (hst : starEach [e] X.env = (false, eval e X.env) :: starEach [] X.env := by rfl) (hpl : (backTo pos (starEach [] X.env)).any (·.1) = false := by rfl)
    (hsw : swapsWith (.Call (.Attribute (.Name nm p) "append" apos) [e] [] pos) none p2.line X.env = pure false := by rfl) :
    wpS X (.Expr (.Call (.Attribute (.Name nm p) "append" apos) [e] [] pos) p2) D σ H := by
  obtain ⟨h1, h2⟩ := dite_some hz
  subst h2
  refine ws_expr (wp_append hs ⟨_, ow.choose_spec.1⟩ (h.go g0 fun v H2 G2 s2 r2 => ?_) hN hv hd hcd hbase hfew hline hst hpl) hsw
  obtain ⟨vs, q1, q2, q3⟩ := ow.step0 s2
  refine ⟨vs, q1, by rw [Paired.len q3]; exact line_lt h1, k _ G2 (fun m H0 G0 r n => (r.then s2).write n q2) (s2.any.write (.inr List.mem_cons_self) q2) ⟨_, upd_same, q2, Paired.append q3 (.cons r2 .nil)⟩⟩
/-- xs.append(e), xs not looked at again -/
theorem ws_appDead {l : Addr} {xs : List α} (hs : σ[i]? = some (some (.ref l))) (g0 : Ex G H) (ow : Own X.K H G l xs) (hz : xs.length < line) (h : EvX X e σ H G y) (k : ∀ H2 G2, (∀ m H0 G0, Rc m H0 G0 H G → (H0 l = none ∨ l ∈ m) → Rc m H0 G0 H2 G2) → Rc [l] H G H2 G2 → D.nx σ H2)
    (hN : X.N[i]? = some nm := by rfl) (hv : Vis X.env.scope nm := by first | exact Or.inl rfl | exact Or.inr (Or.inl rfl) | exact Or.inr (Or.inr rfl)) (hd : (nm == ("__debug__" : Str)) = false := by decide) (hcd : (nm == ("__classdict__" : Str)) = false := by decide)
    (hbase : attributeBase (.Name nm p) "append" X.env (eval (.Name nm p) X.env) = eval (.Name nm p) X.env := by rfl)
    (hfew : ((backTo pos (starEach [e] X.env)).all (fun x => !x.1) && (backToKw pos (keywordEach [] X.env)).all (fun x => x.1.isSome) && decide ([e].length + ([] : List Keyword).length + (if ([] : List Keyword).isEmpty then 0 else 1) < 30)) = true := by rfl)
    (hline : (apos.endLine == pos.line) = true := by rfl) (hst : starEach [e] X.env = (false, eval e X.env) :: starEach [] X.env := by rfl) (hpl : (backTo pos (starEach [] X.env)).any (·.1) = false := by rfl)
    (hsw : swapsWith (.Call (.Attribute (.Name nm p) "append" apos) [e] [] pos) none p2.line X.env = pure false := by rfl) :
    wpS X (.Expr (.Call (.Attribute (.Name nm p) "append" apos) [e] [] pos) p2) D σ H := by
  refine ws_expr (wp_append hs ⟨_, ow.choose_spec.1⟩ (h.go g0 fun v H2 G2 s2 r2 => ?_) hN hv hd hcd hbase hfew hline hst hpl) hsw
  obtain ⟨vs, q1, q2, q3⟩ := ow.step0 s2
  refine ⟨vs, q1, by rw [Paired.len q3]; exact line_lt hz, k _ G2 (fun m H0 G0 r n => (r.then s2).write n q2) (s2.any.write (.inr List.mem_cons_self) q2)⟩
/-- xs.extend(ys), ys a new list -/
theorem ws_ext {l : Addr} {xs ys zs : List α} (hs : σ[i]? = some (some (.ref l))) (g0 : Ex G H) (ow : Own X.K H G l xs) (hz : extO xs ys = some zs) (h : EvX X e σ H G ys) (k : ∀ H2 G2, (∀ m H0 G0, Rc m H0 G0 H G → (H0 l = none ∨ l ∈ m) → Rc m H0 G0 H2 G2) → Rc [l] H G H2 G2 → Own X.K H2 G2 l zs → D.nx σ H2)
    (hN : X.N[i]? = some nm := by rfl) (hv : Vis X.env.scope nm := by first | exact Or.inl rfl | exact Or.inr (Or.inl rfl) | exact Or.inr (Or.inr rfl)) (hd : (nm == ("__debug__" : Str)) = false := by decide) (hcd : (nm == ("__classdict__" : Str)) = false := by decide)
    (hbase : attributeBase (.Name nm p) "extend" X.env (eval (.Name nm p) X.env) = eval (.Name nm p) X.env := by rfl)
    (hfew : ((backTo pos (starEach [e] X.env)).all (fun x => !x.1) && (backToKw pos (keywordEach [] X.env)).all (fun x => x.1.isSome) && decide ([e].length + ([] : List Keyword).length + (if ([] : List Keyword).isEmpty then 0 else 1) < 30)) = true := by rfl)
    (hline : (apos.endLine == pos.line) = true := by rfl) (hst : starEach [e] X.env = (false, eval e X.env) :: starEach [] X.env := by rfl) (hpl : (backTo pos (starEach [] X.env)).any (·.1) = false := by rfl)
    (hsw : swapsWith (.Call (.Attribute (.Name nm p) "extend" apos) [e] [] pos) none p2.line X.env = pure false := by rfl) :
    wpS X (.Expr (.Call (.Attribute (.Name nm p) "extend" apos) [e] [] pos) p2) D σ H := by
  obtain ⟨h1, h2⟩ := dite_some hz
  subst h2
  refine ws_expr (toE (pe_bm PySem.F.plainAttrs_list PySem.F.slot_list_extend PySem.F.type_list_extend mt_extend (pv i hN hv hd hcd) (pa_cons pe_wp pa_nil hst) hbase hfew hline hst hpl) ⟨.ref l, hs, .inl ⟨rfl, _, .inl (.inl ow.choose_spec.1)⟩, ?_⟩) hsw
  refine h.go g0 fun v H2 G2 s2 ⟨d, ws, w1, w2, w3⟩ => ?_
  obtain ⟨vs, q1, q2, q3⟩ := ow.step0 s2
  refine ⟨l, d, vs, ws, rfl, by rw [w1], q1, s2.sub _ _ w2, by rw [Paired.len q3, Paired.len w3]; exact line_le h1, k _ G2 (fun m H0 G0 r n => (r.then s2).write n q2) (s2.any.write (.inr List.mem_cons_self) q2) ⟨_, upd_same, q2, Paired.append q3 w3⟩⟩
/-- xs.reverse() -/
theorem ws_reverse {l : Addr} {xs : List α} (hs : σ[i]? = some (some (.ref l))) (g0 : Ex G H) (ow : Own X.K H G l xs) (k : ∀ H2 G2, (∀ m H0 G0, Rc m H0 G0 H G → (H0 l = none ∨ l ∈ m) → Rc m H0 G0 H2 G2) → Rc [l] H G H2 G2 → Own X.K H2 G2 l xs.reverse → D.nx σ H2)
    (hN : X.N[i]? = some nm := by rfl) (hv : Vis X.env.scope nm := by first | exact Or.inl rfl | exact Or.inr (Or.inl rfl) | exact Or.inr (Or.inr rfl)) (hd : (nm == ("__debug__" : Str)) = false := by decide) (hcd : (nm == ("__classdict__" : Str)) = false := by decide)
    (hbase : attributeBase (.Name nm p) "reverse" X.env (eval (.Name nm p) X.env) = eval (.Name nm p) X.env := by rfl) (hline : (apos.endLine == pos.line) = true := by rfl)
    (hsw : swapsWith (.Call (.Attribute (.Name nm p) "reverse" apos) [] [] pos) none p2.line X.env = pure false := by rfl) :
    wpS X (.Expr (.Call (.Attribute (.Name nm p) "reverse" apos) [] [] pos) p2) D σ H := by
  obtain ⟨vs, q1, q2, q3⟩ := ow
  refine ws_expr (toE (pe_bm0 PySem.F.plainAttrs_list PySem.F.slot_list_reverse PySem.F.type_list_reverse mt_reverse (pv i hN hv hd hcd) hbase hline) ⟨.ref l, hs, .inl ⟨rfl, _, .inl (.inl q1)⟩, ?_⟩) hsw
  exact ⟨l, vs, rfl, rfl, q1, k _ G (fun m H0 G0 r n => r.write n q2) ((Rc.refl g0).write (.inr List.mem_cons_self) q2) ⟨_, upd_same, q2, Paired.reverse q3⟩⟩
/-- xs[k] = e -/
theorem ws_setix {l : Addr} {xs zs : List α} {n : Int} (hs : σ[i]? = some (some (.ref l))) (g0 : Ex G H) (ow : Own X.K H G l xs) (hz : setO xs n x = some zs) (h : EvX X e σ H G x) (hb : EvX X b σ H G n) (k : ∀ H2 G2, (∀ m H0 G0, Rc m H0 G0 H G → (H0 l = none ∨ l ∈ m) → Rc m H0 G0 H2 G2) → Rc [l] H G H2 G2 → Own X.K H2 G2 l zs → D.nx σ H2)
    (hN : X.N[i]? = some nm := by rfl) (hv : Vis X.env.scope nm := by first | exact Or.inl rfl | exact Or.inr (Or.inl rfl) | exact Or.inr (Or.inr rfl)) (hd : (nm == ("__debug__" : Str)) = false := by decide) (hcd : (nm == ("__classdict__" : Str)) = false := by decide)
    (ha : ∀ v, assign (.Subscript (.Name nm p) b p3) X.env v = (do
      let ov ← holding [v] (eval (.Name nm p) X.env)
      let iv ← holding [v, ov] (eval b X.env)
      standAt p3
      holding [v, ov, iv] (setItem ov iv v)
      release [v, ov, iv] []) := by intro _; rfl)
    (hsw : swapsWithSole [.Subscript (.Name nm p) b p3] e pos.line X.env = pure false := by rfl) (hw : swappedStores [.Subscript (.Name nm p) b p3] e X.env = pure none := by rfl)
    (h1 : (assignEach [.Subscript (.Name nm p) b p3] X.env).map (·.2) = [assign (.Subscript (.Name nm p) b p3) X.env] := by rfl) : wpS X (.Assign [.Subscript (.Name nm p) b p3] e pos) D σ H := by
  unfold setO at hz
  cases hi : ixN xs.length n with
  | none =>
    rw [hi] at hz
    cases hz
  | some j =>
    rw [hi] at hz
    have e1 : xs.set j x = zs := Option.some.inj hz
    subst e1
    refine toS (ps_asg pe_wp (pg_sub (pv i hN hv hd hcd) pe_wp set_list ha) hsw hw h1) (show wpE X e σ H _ from h.go g0 fun v H2 G2 s2 r2 => ⟨.ref l, hs, hb H2 G2 s2 _ fun w H3 G3 s3 r3 => ?_⟩)
    obtain ⟨vs, q1, q2, q3⟩ := (ow.step0 s2).step0 s3
    exact ⟨l, vs, n, j, rfl, r3, q1, by rw [Paired.len q3]; exact hi, k _ G3 (fun m H0 G0 r n => ((r.then s2).then s3).write n q2) ((s2.any.then s3).write (.inr List.mem_cons_self) q2) ⟨_, upd_same, q2, Paired.set (Rep.mono s3.ex r2) j q3⟩⟩
/-! ### several names at once -/
theorem ws_par {px py pt : Pos} {kt k2 pt2} {nx ny : Str} (hc : X.calm = true) (hN : X.N.Nodup) (h : wpA X [a, b] σ H fun vs H1 => ∃ v w, vs = [v, w] ∧ D.nx ((σ.set i (some v)).set j (some w)) H1) (hij : i ≠ j := by decide) (hi : X.N[i]? = some nx := by rfl) (hj : X.N[j]? = some ny := by rfl)
    (hx : X.env.scope.names.lookup nx = some .local := by rfl) (hy : X.env.scope.names.lookup ny = some .local := by rfl) (hw : swappedStores [.Tuple [.Name nx px, .Name ny py] kt pt] (.Tuple [a, b] k2 pt2) X.env = pure (some [nx, ny]) := by rfl)
    (hs : swapsWithSole [.Tuple [.Name nx px, .Name ny py] kt pt] (.Tuple [a, b] k2 pt2) pos.line X.env = pure false := by rfl) : wpS X (.Assign [.Tuple [.Name nx px, .Name ny py] kt pt] (.Tuple [a, b] k2 pt2) pos) D σ H :=
  toS (ps_par hc hN hi hj hij hx hy pa_wp hw hs) h
theorem ws_par3 {l : Nat} {px py pz pt : Pos} {kt k2 pt2} {nx ny nz : Str} (hc : X.calm = true) (hN : X.N.Nodup) (h : wpA X [a, b, c] σ H fun vs H1 => ∃ u v w, vs = [u, v, w] ∧ D.nx (((σ.set i (some u)).set j (some v)).set l (some w)) H1) (hij : i ≠ j := by decide) (hil : i ≠ l := by decide) (hjl : j ≠ l := by decide)
    (hi : X.N[i]? = some nx := by rfl) (hj : X.N[j]? = some ny := by rfl) (hl : X.N[l]? = some nz := by rfl) (hx : X.env.scope.names.lookup nx = some .local := by rfl) (hy : X.env.scope.names.lookup ny = some .local := by rfl) (hz : X.env.scope.names.lookup nz = some .local := by rfl)
    (hw : swappedStores [.Tuple [.Name nx px, .Name ny py, .Name nz pz] kt pt] (.Tuple [a, b, c] k2 pt2) X.env = pure (some [nx, ny, nz]) := by rfl)
    (hs : swapsWithSole [.Tuple [.Name nx px, .Name ny py, .Name nz pz] kt pt] (.Tuple [a, b, c] k2 pt2) pos.line X.env = pure false := by rfl) : wpS X (.Assign [.Tuple [.Name nx px, .Name ny py, .Name nz pz] kt pt] (.Tuple [a, b, c] k2 pt2) pos) D σ H :=
  toS (ps_par3 hc hN hi hj hl hij hil hjl hx hy hz pa_wp hw hs) h
/-- the general way: a tuple is made and taken apart -/
theorem ws_tup2 {px py pt : Pos} {kt k2 pt2} {nx ny : Str} (hc : X.calm = true) (hN : X.N.Nodup) (h : wpA X [a, b] σ H fun vs H1 => ∃ v w, vs = [v, w] ∧ ∀ d, H1 d = none → D.nx ((σ.set i (some v)).set j (some w)) (upd H1 d (.tup [v, w]))) (hi : X.N[i]? = some nx := by rfl) (hj : X.N[j]? = some ny := by rfl)
    (hx : Loc X.env.scope nx := by first | exact Or.inl rfl | exact Or.inr rfl) (hy : Loc X.env.scope ny := by first | exact Or.inl rfl | exact Or.inr rfl)
    (hf : X.fn nx = true ∨ X.env.scope.names.lookup nx = some .local := by first | exact .inl rfl | exact .inr rfl) (hf2 : X.fn ny = true ∨ X.env.scope.names.lookup ny = some .local := by first | exact .inl rfl | exact .inr rfl)
    (hg1 : (assignEach [.Name nx px, .Name ny py] X.env).map (·.2) = assign (.Name nx px) X.env :: (assignEach [.Name ny py] X.env).map (·.2) := by rfl) (hg2 : (assignEach [.Name ny py] X.env).map (·.2) = assign (.Name ny py) X.env :: (assignEach [] X.env).map (·.2) := by rfl)
    (hn : (assignEach [.Name nx px, .Name ny py] X.env).length = 2 := by rfl) (hst : (assignEach [.Name nx px, .Name ny py] X.env).findIdx? (·.1) = none := by rfl)
    (hw : swappedStores [.Tuple [.Name nx px, .Name ny py] kt pt] (.Tuple [a, b] k2 pt2) X.env = pure none := by rfl)
    (hs : swapsWithSole [.Tuple [.Name nx px, .Name ny py] kt pt] (.Tuple [a, b] k2 pt2) pos.line X.env = pure false := by rfl)
    (h1 : (assignEach [.Tuple [.Name nx px, .Name ny py] kt pt] X.env).map (·.2) = [assign (.Tuple [.Name nx px, .Name ny py] kt pt) X.env] := by rfl) : wpS X (.Assign [.Tuple [.Name nx px, .Name ny py] kt pt] (.Tuple [a, b] k2 pt2) pos) D σ H :=
  toS (ps_asg (pe_tup pa_wp) (pg_tup hc (pgs_cons (pg_name (i := i) hN hi hx hf) (pgs_cons (pg_name (i := j) hN hj hy hf2) pgs_nil hg2) hg1) hn hst) hs hw h1) (show wpA X [a, b] σ H _ from fun ps pins s I =>
    thn (h ps pins s I) fun us s1 ⟨vs, H1, I1, r1, v, w, e1, q⟩ => ⟨vs, H1, I1, r1, by rw [e1]; show 2 ≤ sizeLine; decide, fun d nd => ⟨d, vs, rfl, .inl (.inl upd_same), by rw [e1]; rfl, v, [w], e1, w, [], rfl, rfl, by rw [e1]; exact q d nd⟩⟩)
/-! ### loops -/
theorem ws_for {items : List ι} {R : ι → Hp → (L2.St → L2.St) → Prop} {body : ι → S → Option (Ctl ρ S)} {s0 : S} {cc : Ctl ρ S} (hp : PassesOwn (model X.prog X.w) X.A X.env X.xe) (hc : X.calm = true) (hi : EvI X tg iter g σ H G items R) (g0 : Ex G H) (hg : PG X tg g) (h : forL body items s0 = some cc)
    (I : Hp → S → L2.St → Hp → Hp → Prop) (RT : ρ → V → Hp → Prop)
    (h0 : ∀ H2 G2, Rc [] H G H2 G2 → I G2 s0 σ H2 G2) (hx : ∀ Gs s σ H G, I Gs s σ H G → Ex Gs G ∧ Ex G H)
    (hb : ∀ Gs s σ1 H1 G1 x c' u H2 G2, body x s = some c' → I Gs s σ1 H1 G1 → Rc [] H1 G1 H2 G2 → R x G2 u →
      wpB X sts { nx := fun σ H => ∃ s' G, c' = .nx s' ∧ I Gs s' σ H G, rt := fun v H => ∃ r, c' = .rt r ∧ RT r v H, bk := fun σ H => ∃ s' G, c' = .bk s' ∧ I Gs s' σ H G, ct := fun σ H => ∃ s' G, c' = .nx s' ∧ I Gs s' σ H G } (u σ1) H2)
    (hd : ∀ Gs s σ1 H1 G1, cc = .nx s → I Gs s σ1 H1 G1 → D.nx σ1 H1) (hr : ∀ r v H1, cc = .rt r → RT r v H1 → D.rt v H1) (hs : ∀ x, foldedSetIterable iter X.env x = pure x := by intro _; rfl) : wpS X (.For tg iter sts [] pos) D σ H := by
  refine toS (ps_for hp hc pi_wp hg pss_wp hs) (show wpI X tg iter σ H _ from hi H G (Rc.refl g0) _ fun J H2 G2 s2 W => ?_)
  refine ⟨fun i m σ' H' => m = items.length - i ∧ i ≤ items.length ∧ ∃ s G', I G2 s σ' H' G' ∧ forL body (items.drop i) s = some cc, ⟨items.length, by omega, Nat.zero_le _, s0, G2, h0 H2 G2 s2, h⟩, ?_⟩
  rintro i m σ' H' ⟨rfl, hle, s, G', hI, hf⟩
  obtain ⟨e1, e2⟩ := hx _ _ _ _ _ hI
  by_cases hlt : i < items.length
  · refine .inr ?_
    have hxi : items[i]? = some items[i] := List.getElem?_eq_getElem hlt
    obtain ⟨go, step⟩ := W.go i items[i] H' G' hxi e1 e2
    rw [List.drop_eq_getElem_cons hlt] at hf
    obtain ⟨c', hc', hf⟩ := bind_some hf
    refine ⟨go, fun σ'' H'' => ∃ s G', I G2 s σ'' H'' G' ∧ forL body (items.drop (i + 1)) s = some cc, fun σ'' H'' ⟨s, G', k1, k2⟩ => ⟨items.length - (i + 1), by omega, rfl, hlt, s, G', k1, k2⟩, fun v H'' y => ?_⟩
    refine step v H'' y _ _ fun uu G'' s3 r3 => ?_
    refine wpB_imp (hb G2 s σ' H' G' items[i] c' uu H'' G'' hc' hI s3 r3) ?_ ?_ ?_ ?_
    · rintro σ1 H1 ⟨s', G1, ec, k⟩
      subst ec
      exact ⟨s', G1, k, hf⟩
    · rintro v H1 ⟨r, ec, k⟩
      subst ec
      exact hr r v H1 (Option.some.inj hf).symm k
    · rintro σ1 H1 ⟨s', G1, ec, k⟩
      subst ec
      exact hd G2 s' σ1 H1 G1 (Option.some.inj hf).symm k
    · rintro σ1 H1 ⟨s', G1, ec, k⟩
      subst ec
      exact ⟨s', G1, k, hf⟩
  · have ei : i = items.length := by omega
    subst ei
    rw [List.drop_length] at hf
    exact .inl ⟨W.stop H' G' e1 e2, hd G2 s σ' H' G' (Option.some.inj hf).symm hI⟩
theorem ws_while {test : S → Option Bool} {body : S → Option (Ctl ρ S)} {n : Nat} {s0 : S} {cc : Ctl ρ S} (hp : PassesOwn (model X.prog X.w) X.A X.env X.xe) (h : whl test body n s0 = some cc) (I : S → L2.St → Hp → Hp → Prop) (RT : ρ → V → Hp → Prop) (h0 : I s0 σ H G)
    (ht : ∀ s σ1 H1 G1 b, test s = some b → I s σ1 H1 G1 → wpT X c σ1 H1 fun b' H2 => b' = b ∧ ∃ G2, Rc [] H1 G1 H2 G2)
    (hm : ∀ s σ1 H1 G1 H2 G2, I s σ1 H1 G1 → Rc [] H1 G1 H2 G2 → I s σ1 H2 G2)
    (hb : ∀ s σ1 H1 G1 c', test s = some true → body s = some c' → I s σ1 H1 G1 →
      wpB X sts { nx := fun σ H => ∃ s' G, c' = .nx s' ∧ I s' σ H G, rt := fun v H => ∃ r, c' = .rt r ∧ RT r v H, bk := fun σ H => ∃ s' G, c' = .bk s' ∧ I s' σ H G, ct := fun σ H => ∃ s' G, c' = .nx s' ∧ I s' σ H G } σ1 H1)
    (hd : ∀ s σ1 H1 G1, cc = .nx s → I s σ1 H1 G1 → D.nx σ1 H1) (hr : ∀ r v H1, cc = .rt r → RT r v H1 → D.rt v H1) : wpS X (.While c sts [] pos) D σ H := by
  refine toS (ps_while hp pt_wp pss_wp) ⟨fun m σ' H' => ∃ s G', I s σ' H' G' ∧ whl test body m s = some cc, ⟨n, s0, G, h0, h⟩, ?_⟩
  rintro m σ' H' ⟨s, G', hI, hf⟩
  cases m with
  | zero => cases hf
  | succ m =>
    obtain ⟨b, hb1, hf⟩ := bind_some hf
    refine wpT_mono ?_ (ht s σ' H' G' b hb1 hI)
    rintro b' H2 ⟨rfl, G2, s2⟩
    have hI2 := hm _ _ _ _ _ _ hI s2
    rcases cond_some hf with ⟨eb, hf⟩ | ⟨eb, hf⟩
    · subst eb
      rw [if_pos rfl]
      obtain ⟨c', hc', hf⟩ := bind_some hf
      refine ⟨fun σ1 H1 => ∃ s G', I s σ1 H1 G' ∧ whl test body m s = some cc, fun σ1 H1 k => ⟨m, Nat.lt_succ_self m, k⟩, ?_⟩
      refine wpB_imp (hb s σ' H2 G2 c' hb1 hc' hI2) ?_ ?_ ?_ ?_
      · rintro σ1 H1 ⟨s', G1, ec, k⟩
        subst ec
        exact ⟨s', G1, k, hf⟩
      · rintro v H1 ⟨r, ec, k⟩
        subst ec
        exact hr r v H1 (Option.some.inj hf).symm k
      · rintro σ1 H1 ⟨s', G1, ec, k⟩
        subst ec
        exact hd s' σ1 H1 G1 (Option.some.inj hf).symm k
      · rintro σ1 H1 ⟨s', G1, ec, k⟩
        subst ec
        exact ⟨s', G1, k, hf⟩
    · subst eb
      rw [if_neg Bool.false_ne_true]
      exact hd s σ' H2 G2 (Option.some.inj hf).symm hI2
end
end PX

/-! PXh: isinstance, max and min with a default, truth of lists, pop. -/
namespace PX
open PySem L2
/-- what isinstance sees -/
class HasTy (α : Type) extends Rep α where
  tn : String
  ty : ∀ {K : PySem.W.Frag} {G : Hp} {v : V} {x : α}, Rep.rel K G v x → TyX K G v (.type tn)
instance : HasTy Int where
  tn := "int"
  ty := fun h => by
    cases h
    exact .base (.int _)
instance : HasTy Bool where
  tn := "bool"
  ty := fun h => by
    cases h
    exact .base (.bl _)
instance {α : Type} [Rep α] : HasTy (List α) where
  tn := "list"
  ty := fun ⟨a, vs, h1, h2, h3⟩ => by
    subst h1
    exact .base (.lst h2)
section
variable {X : Cx} {σ : L2.St} {H G : Hp} {α β γ ι S ρ : Type} [Rep α] [Rep β] [Rep γ] {a b c d e : Expr} {es rest : List Expr} {pos p2 p p3 apos kp : Pos} {x : α} {D : Ends} {nm : Str} {i j : Nat}
theorem ev_isi {α : Type} [HasTy α] {x : α} {T : Str} {N : String} {r : Bool} {pT : Pos} (hm : X.mg "isinstance" = none) (hmT : X.mg T = none) (hvT : bootBuiltins T = some (.type N)) (hr : kitB (HasTy.tn α) N = some r) (ha : EvX X a σ H G x)
    (hg : Gl X "isinstance" := by rfl) (hgT : Gl X T := by rfl) (hn : T ≠ "__name__" := by decide) (hd : (T == ("__debug__" : Str)) = false := by decide) (he : starEach [a, .Name T pT] X.env = (false, eval a X.env) :: starEach [.Name T pT] X.env := by rfl)
    (he2 : starEach [.Name T pT] X.env = (false, eval (.Name T pT) X.env) :: starEach [] X.env := by rfl) (hpl : (backTo pos (starEach [.Name T pT] X.env)).any (·.1) = false := by rfl) : EvX X (.Call (.Name "isinstance" p) [a, .Name T pT] [] pos) σ H G r := fun H1 G1 s Q k =>
  toE (pe_callB call_isi hg hm (by decide +kernel) (pa_cons pe_wp (pa_cons (pe_bltn (v := .ty N) hgT hmT hvT rfl hn hd) pa_nil he2) he) (by decide) (by decide) he hpl) (show wpE X a σ H1 _ from ha H1 G1 s _ fun v H2 G2 s2 r2 =>
    ⟨v, .ty N, _, _, r, rfl, .ty N, HasTy.ty (Rep.mono s2.sub r2), kit_ty hr, k _ H2 G2 s2 rfl⟩)
/-! ### max(xs, default=d), min(xs, default=d) -/
def maxD (d : Int) : List Int → Int
  | [] => d
  | x :: r => r.foldl max x
def minD (d : Int) : List Int → Int
  | [] => d
  | x :: r => r.foldl min x
theorem maxOf_foldl (x : Int) (r : List Int) : PySem.W.maxOf x r = r.foldl max x := by
  unfold PySem.W.maxOf
  congr 1
  funext a y
  show (if decide (a < y) = true then y else a) = max a y
  rw [Int.max_def]
  by_cases h : a < y
  · rw [if_pos (decide_eq_true h), if_pos (by omega)]
  · rw [if_neg (by simpa using h)]
    split <;> omega
theorem minOf_foldl (x : Int) (r : List Int) : PySem.W.minOf x r = r.foldl min x := by
  unfold PySem.W.minOf
  congr 1
  funext a y
  show (if decide (y < a) = true then y else a) = min a y
  rw [Int.min_def]
  by_cases h : y < a
  · rw [if_pos (decide_eq_true h)]
    split <;> omega
  · rw [if_neg (by simpa using h)]
    split <;> omega
theorem holds_int {h : Heap} {v : Value} {i : Int} (q : PySem.W.Holds h v i) : ∃ t, v = .int i t := by
  obtain ⟨as, r⟩ := q
  cases r with
  | int i t => exact ⟨t, rfl⟩
theorem reads_ints {pins : List (Addr × Obj)} {s : Shared} (I : Inv X pins σ H s) {its : List Value} {ns : List Int} (r : L2.Vals (ns.map V.int) its) : PySem.W.HoldAll s.heap its ns := by
  obtain ⟨as, q⟩ := Dp.readsAll I (ns.map PyData.int) (ns.map V.int) its (dp_all (rels_of_int (K := X.K) (G := H) ns)) r
  exact ⟨as, q⟩
theorem wp_maxD {Q : VK} (hc : X.calm = true) (hu : X.A.units + 64 < cLine) (hm : X.mg "max" = none) (h : wpE X e σ H fun x H1 => wpE X d σ H1 fun y H2 => ∃ a ns i, x = .ref a ∧ SqL X.K H2 a (ns.map V.int) ∧ y = .int i ∧ Q (.int (maxD i ns)) H2) (hg : Gl X "max" := by rfl)
    (he : starEach [e] X.env = (false, eval e X.env) :: starEach [] X.env := by rfl) (he2 : backTo pos (starEach [e] X.env) = (false, eval e X.env) :: backTo pos (starEach [] X.env) := by rfl) (hpl : (backTo pos (starEach [e] X.env)).any (·.1) = false := by rfl)
    (hall : (backToKw pos (keywordEach [⟨some "default", d, kp⟩] X.env)).all (·.1.isSome) = true := by rfl) (hkw : (backToKw pos (keywordEach [⟨some "default", d, kp⟩] X.env)).any (·.1.isNone) = false := by rfl) :
    wpE X (.Call (.Name "max" p) [e] [⟨some "default", d, kp⟩] pos) σ H Q := by
  intro pins s I
  refine wpAny_Call_Name_kw (ld_blt I hg hm (u := .builtin "max") (by decide +kernel) ?_)
  refine PyProof.Rows.callWith_kw ?_ he2 hpl hall hkw
  refine thn ((pa_cons pe_wp pa_nil he).run pos pins s σ H (fun vs H1 => ∃ x, vs = [x] ∧ wpE X d σ H1 fun y H2 => ∃ a ns i, x = .ref a ∧ SqL X.K H2 a (ns.map V.int) ∧ y = .int i ∧ Q (.int (maxD i ns)) H2) I (show wpE X e σ H _ from wpE_mono (fun x H1 q => ⟨x, rfl, q⟩) h))
    fun us s1 ⟨vs, H1, I1, r1, x, e1, q1⟩ => ?_
  subst e1
  obtain ⟨u, rfl, ru⟩ := r1.one
  refine PyProof.Rows.kws_cons (thn (q1 pins s1 I1) fun v s2 ⟨y, H2, I2, r2, a, ns, i, ex, hs, ey, q⟩ => PyProof.Rows.kws_nil ?_)
  subst ex ey
  cases ru
  obtain ⟨its, rv, hl, _⟩ := I2.list hs
  have hh := reads_ints I2 rv
  refine PySem.W.max_list_datum_default (xs := ns) (I2.ok.hd hc) hl.isList hh (by show X.A.units + 1 + 0 < cLine; omega) (fun en h' tk hk => ?_) fun z zs j w h' tk en hj hw hk => ?_
  · subst en
    exact ⟨.int i, H2, I2.kept hk, r2, q⟩
  · subst en
    obtain ⟨t, rfl⟩ := holds_int hw
    exact ⟨.int _, H2, I2.kept hk, ⟨t, rfl⟩, by rw [maxOf_foldl]; exact q⟩
theorem ev_maxD {xs : List Int} {i : Int} (hc : X.calm = true) (hu : X.A.units + 64 < cLine) (hm : X.mg "max" = none) (ha : EvX X e σ H G xs) (hb : EvX X d σ H G i) (hg : Gl X "max" := by rfl)
    (he : starEach [e] X.env = (false, eval e X.env) :: starEach [] X.env := by rfl) (he2 : backTo pos (starEach [e] X.env) = (false, eval e X.env) :: backTo pos (starEach [] X.env) := by rfl) (hpl : (backTo pos (starEach [e] X.env)).any (·.1) = false := by rfl)
    (hall : (backToKw pos (keywordEach [⟨some "default", d, kp⟩] X.env)).all (·.1.isSome) = true := by rfl) (hkw : (backToKw pos (keywordEach [⟨some "default", d, kp⟩] X.env)).any (·.1.isNone) = false := by rfl) :
    EvX X (.Call (.Name "max" p) [e] [⟨some "default", d, kp⟩] pos) σ H G (maxD i xs) := fun H1 G1 s Q k =>
  wp_maxD hc hu hm (ha H1 G1 s _ fun v H2 G2 s2 r2 => hb H2 G2 (s.trans s2) _ fun w H3 G3 s3 r3 => by
    obtain ⟨l, vs, q1, q2, q3⟩ := Rep.mono s3.ex r2
    rw [rels_int q3] at q2
    exact ⟨l, xs, i, q1, .inl (.inl (s3.sub _ _ q2)), r3, k _ H3 G3 (s2.trans s3) rfl⟩) hg he he2 hpl hall hkw
theorem wp_minD {Q : VK} (hc : X.calm = true) (hu : X.A.units + 64 < cLine) (hm : X.mg "min" = none) (h : wpE X e σ H fun x H1 => wpE X d σ H1 fun y H2 => ∃ a ns i, x = .ref a ∧ SqL X.K H2 a (ns.map V.int) ∧ y = .int i ∧ Q (.int (minD i ns)) H2) (hg : Gl X "min" := by rfl)
    (he : starEach [e] X.env = (false, eval e X.env) :: starEach [] X.env := by rfl) (he2 : backTo pos (starEach [e] X.env) = (false, eval e X.env) :: backTo pos (starEach [] X.env) := by rfl) (hpl : (backTo pos (starEach [e] X.env)).any (·.1) = false := by rfl)
    (hall : (backToKw pos (keywordEach [⟨some "default", d, kp⟩] X.env)).all (·.1.isSome) = true := by rfl) (hkw : (backToKw pos (keywordEach [⟨some "default", d, kp⟩] X.env)).any (·.1.isNone) = false := by rfl) :
    wpE X (.Call (.Name "min" p) [e] [⟨some "default", d, kp⟩] pos) σ H Q := by
  intro pins s I
  refine wpAny_Call_Name_kw (ld_blt I hg hm (u := .builtin "min") (by decide +kernel) ?_)
  refine PyProof.Rows.callWith_kw ?_ he2 hpl hall hkw
  refine thn ((pa_cons pe_wp pa_nil he).run pos pins s σ H (fun vs H1 => ∃ x, vs = [x] ∧ wpE X d σ H1 fun y H2 => ∃ a ns i, x = .ref a ∧ SqL X.K H2 a (ns.map V.int) ∧ y = .int i ∧ Q (.int (minD i ns)) H2) I (show wpE X e σ H _ from wpE_mono (fun x H1 q => ⟨x, rfl, q⟩) h))
    fun us s1 ⟨vs, H1, I1, r1, x, e1, q1⟩ => ?_
  subst e1
  obtain ⟨u, rfl, ru⟩ := r1.one
  refine PyProof.Rows.kws_cons (thn (q1 pins s1 I1) fun v s2 ⟨y, H2, I2, r2, a, ns, i, ex, hs, ey, q⟩ => PyProof.Rows.kws_nil ?_)
  subst ex ey
  cases ru
  obtain ⟨its, rv, hl, _⟩ := I2.list hs
  have hh := reads_ints I2 rv
  refine PySem.W.min_list_datum_default (xs := ns) (I2.ok.hd hc) hl.isList hh (by show X.A.units + 1 + 0 < cLine; omega) (fun en h' tk hk => ?_) fun z zs j w h' tk en hj hw hk => ?_
  · subst en
    exact ⟨.int i, H2, I2.kept hk, r2, q⟩
  · subst en
    obtain ⟨t, rfl⟩ := holds_int hw
    exact ⟨.int _, H2, I2.kept hk, ⟨t, rfl⟩, by rw [minOf_foldl]; exact q⟩
theorem ev_minD {xs : List Int} {i : Int} (hc : X.calm = true) (hu : X.A.units + 64 < cLine) (hm : X.mg "min" = none) (ha : EvX X e σ H G xs) (hb : EvX X d σ H G i) (hg : Gl X "min" := by rfl)
    (he : starEach [e] X.env = (false, eval e X.env) :: starEach [] X.env := by rfl) (he2 : backTo pos (starEach [e] X.env) = (false, eval e X.env) :: backTo pos (starEach [] X.env) := by rfl) (hpl : (backTo pos (starEach [e] X.env)).any (·.1) = false := by rfl)
    (hall : (backToKw pos (keywordEach [⟨some "default", d, kp⟩] X.env)).all (·.1.isSome) = true := by rfl) (hkw : (backToKw pos (keywordEach [⟨some "default", d, kp⟩] X.env)).any (·.1.isNone) = false := by rfl) :
    EvX X (.Call (.Name "min" p) [e] [⟨some "default", d, kp⟩] pos) σ H G (minD i xs) := fun H1 G1 s Q k =>
  wp_minD hc hu hm (ha H1 G1 s _ fun v H2 G2 s2 r2 => hb H2 G2 (s.trans s2) _ fun w H3 G3 s3 r3 => by
    obtain ⟨l, vs, q1, q2, q3⟩ := Rep.mono s3.ex r2
    rw [rels_int q3] at q2
    exact ⟨l, xs, i, q1, .inl (.inl (s3.sub _ _ q2)), r3, k _ H3 G3 (s2.trans s3) rfl⟩) hg he he2 hpl hall hkw

/-! ### truth of a list; pop -/
theorem et_list {xs : List α} (h : EvX X e σ H G xs) (he : ∀ whole, isTrue e X.env whole = (do let v ← whole; standAt e.pos; holding [v] (truthy v)) := by intro _; rfl) : EvT X e σ H G (!xs.isEmpty) := fun H1 G1 s Q k =>
  toT (pt_truth pe_wp he) (show wpE X e σ H1 _ from h H1 G1 s _ fun v H2 G2 s2 ⟨a, vs, q1, q2, q3⟩ => ⟨!xs.isEmpty, by
    subst q1
    exact .inl ⟨vs, .inl (.inl (s2.sub _ _ q2)), by cases q3 <;> rfl⟩, k H2 G2 s2⟩)
def popO {α : Type} (xs : List α) : Option (α × List α) := match xs.getLast? with
  | none => none
  | some x => some (x, xs.dropLast)
theorem paired_dropLast {F : V → α → Prop} : ∀ {vs : List V} {xs : List α}, Paired F vs xs → Paired F vs.dropLast xs.dropLast
  | _, _, .nil => .nil
  | _, _, .cons _ .nil => .nil
  | _, _, .cons h (.cons h' t) => .cons h (paired_dropLast (.cons h' t))
theorem ws_setpop {l : Addr} {xs zs : List α} {z : α} (hN : X.N.Nodup) (hs : σ[i]? = some (some (.ref l))) (g0 : Ex G H) (ow : Own X.K H G l xs) (hz : popO xs = some (z, zs)) (k : ∀ v H2 G2, (∀ m H0 G0, Rc m H0 G0 H G → (H0 l = none ∨ l ∈ m) → Rc m H0 G0 H2 G2) → Rc [l] H G H2 G2 → Own X.K H2 G2 l zs → Rep.rel X.K G2 v z → D.nx (σ.set j (some v)) H2)
    {n2 : Str} (hi : X.N[i]? = some nm := by rfl) (hj : X.N[j]? = some n2 := by rfl) (hv : Vis X.env.scope nm := by first | exact Or.inl rfl | exact Or.inr (Or.inl rfl) | exact Or.inr (Or.inr rfl)) (hd : (nm == ("__debug__" : Str)) = false := by decide) (hcd : (nm == ("__classdict__" : Str)) = false := by decide)
    (hx : Loc X.env.scope n2 := by first | exact Or.inl rfl | exact Or.inr rfl)
    (hbase : attributeBase (.Name nm p) "pop" X.env (eval (.Name nm p) X.env) = eval (.Name nm p) X.env := by rfl) (hline : (apos.endLine == p2.line) = true := by rfl)
    (hsw : swapsWith (.Call (.Attribute (.Name nm p) "pop" apos) [] [] p2) (some (.Name n2 kp)) pos.line X.env = pure false := by rfl)
    (hf : X.fn n2 = true ∨ X.env.scope.names.lookup n2 = some .local := by first | exact .inl rfl | exact .inr rfl) : wpS X (.Assign [.Name n2 kp] (.Call (.Attribute (.Name nm p) "pop" apos) [] [] p2) pos) D σ H := by
  obtain ⟨vs, q1, q2, q3⟩ := ow
  unfold popO at hz
  cases hl : xs.getLast? with
  | none =>
    rw [hl] at hz
    cases hz
  | some z' =>
    rw [hl] at hz
    cases hz
    rw [List.getLast?_eq_getElem?] at hl
    obtain ⟨v, e1, e2⟩ := Paired.get q3 hl
    refine ws_set (i := j) hN (toE (pe_bm0 PySem.F.plainAttrs_list PySem.F.slot_list_pop PySem.F.type_list_pop mt_pop (pv i hi hv hd hcd) hbase hline) ⟨.ref l, hs, .inl ⟨rfl, _, .inl (.inl q1)⟩, ?_⟩) hj hx hsw hf
    exact ⟨l, vs, v, rfl, rfl, q1, by rw [Paired.len q3]; exact e1, k v _ G (fun m H0 G0 r n => r.write n q2) ((Rc.refl g0).write (.inr List.mem_cons_self) q2) ⟨_, upd_same, q2, paired_dropLast q3⟩ e2⟩
end
end PX
namespace PX
open PySem L2
/-! ### what the printed texts use -/
theorem Rc.back {m : List Addr} {H G H1 G1 : Hp} {p : Addr} (r : Rc m H G H1 G1) (n : H1 p = none) : H p = none := by
  cases e : H p with
  | none => rfl
  | some u =>
    obtain ⟨u', e'⟩ := r.dom p u e
    rw [n] at e'
    cases e'
theorem if_t {b : Bool} {A B : Prop} (h : b = true) (q : A) : if b = true then A else B := by
  rw [if_pos h]
  exact q
theorem if_f {b : Bool} {A B : Prop} (h : b = false) (q : B) : if b = true then A else B := by
  rw [if_neg (by rw [h]; exact Bool.false_ne_true)]
  exact q
theorem cond_t {α : Type} {b : Bool} {x y : Option α} {z : α} (hb : b = true) (h : cond b x y = some z) : x = some z := by
  subst hb
  exact h
theorem cond_f {α : Type} {b : Bool} {x y : Option α} {z : α} (hb : b = false) (h : cond b x y = some z) : y = some z := by
  subst hb
  exact h
def eqs {α : Type} [Eqs α] (x y : α) : Bool := decide (x = y)
theorem eqs_true {α : Type} [Eqs α] {x y : α} : eqs x y = true ↔ x = y := by unfold eqs; exact decide_eq_true_iff
theorem eqs_self {α : Type} [Eqs α] {x : α} : eqs x x = true := eqs_true.mpr rfl
theorem eqs_false {α : Type} [Eqs α] {x y : α} : eqs x y = false ↔ x ≠ y := by unfold eqs; exact decide_eq_false_iff_not
section
variable {X : Cx} {σ : L2.St} {H G : Hp} {α β γ : Type} [Rep α] [Rep β] [Rep γ] {a b c e : Expr} {es rest : List Expr} {pos : Pos} {x y : α} {t u : Bool}
theorem ew_andP (h : EvT X a σ H G t) (h2 : EvW X (.BoolOp .And (b :: rest) pos) σ H G u) : EvW X (.BoolOp .And (a :: b :: rest) pos) σ H G (t && u) := by
  cases t with
  | true => exact ew_and h (fun _ => h2) fun z => nomatch z
  | false => exact ew_and h (fun z => nomatch z) fun _ => rfl
theorem ew_orP (h : EvT X a σ H G t) (h2 : EvW X (.BoolOp .Or (b :: rest) pos) σ H G u) : EvW X (.BoolOp .Or (a :: b :: rest) pos) σ H G (t || u) := by
  cases t with
  | false => exact ew_or h (fun _ => h2) fun z => nomatch z
  | true => exact ew_or h (fun z => nomatch z) fun _ => rfl
theorem ev_andP (h : EvX X a σ H G t) (h2 : EvX X (.BoolOp .And (b :: rest) pos) σ H G u) : EvX X (.BoolOp .And (a :: b :: rest) pos) σ H G (t && u) := by
  cases t with
  | true => exact ev_and h (fun _ => h2) fun z => nomatch z
  | false => exact ev_and h (fun z => nomatch z) fun _ => rfl
theorem ev_orP (h : EvX X a σ H G t) (h2 : EvX X (.BoolOp .Or (b :: rest) pos) σ H G u) : EvX X (.BoolOp .Or (a :: b :: rest) pos) σ H G (t || u) := by
  cases t with
  | false => exact ev_or h (fun _ => h2) fun z => nomatch z
  | true => exact ev_or h (fun z => nomatch z) fun _ => rfl
theorem ev_ifP (h : EvT X c σ H G t) (h1 : EvX X a σ H G x) (h2 : EvX X b σ H G y) : EvX X (.IfExp c a b pos) σ H G (cond t x y) := by
  cases t with
  | true => exact ev_if h (fun _ => h1) fun z => nomatch z
  | false => exact ev_if h (fun z => nomatch z) fun _ => h2
theorem ev_eq' {α : Type} [Eqs α] {x y : α} (hu : X.A.units + 64 < cLine) (ha : EvX X a σ H G x) (hb : EvX X b σ H G y) : EvX X (.Compare a [.Eq] [b] pos) σ H G (eqs x y) := ev_eq hu ha hb
theorem ev_ne' {α : Type} [Eqs α] {x y : α} (hu : X.A.units + 64 < cLine) (ha : EvX X a σ H G x) (hb : EvX X b σ H G y) : EvX X (.Compare a [.NotEq] [b] pos) σ H G (!eqs x y) := ev_ne hu ha hb
theorem et_eq' {α : Type} [Eqs α] {x y : α} (hu : X.A.units + 64 < cLine) (ha : EvX X a σ H G x) (hb : EvX X b σ H G y) : EvT X (.Compare a [.Eq] [b] pos) σ H G (eqs x y) := et_eq hu ha hb
theorem et_ne' {α : Type} [Eqs α] {x y : α} (hu : X.A.units + 64 < cLine) (ha : EvX X a σ H G x) (hb : EvX X b σ H G y) : EvT X (.Compare a [.NotEq] [b] pos) σ H G (!eqs x y) := et_ne hu ha hb
end
/-! ### a def that may be called -/
structure Cal (P : Program) (w : World) (K : PySem.W.Frag) (mg : Str → Option Value) (base : Heap) (nm : Str) (k : Nat) (ps : List Str) (sp : Sp) : Prop where
  ex : ∃ (f : Addr) (fd : FuncData), FnG P w K mg base CX0 k f fd ps sp ∧ mg nm = some (.ref f) ∧ PySem.W.keepIn K (.ref f) = true ∧ Binds K fd ps []
section
variable {X : Cx} {σ : L2.St} {H G : Hp} {α γ τ : Type} [Rep α] [Rep γ] [ArgsR τ] {e : Expr} {es : List Expr} {pos p : Pos} {w : τ} {k j : Nat} {ps : List Str} {nm : Str}
theorem ec_V {fn : τ → Option γ} {r : γ} (C : Cal X.prog X.w X.K X.mg X.base nm k ps (spV fn X.K)) (hG : X.A.guards = some []) (hr : Room j X.A) (hk : k ≤ j) (h : fn w = some r) (ha : EvA X (e :: es) σ H G w)
    (hg : Gl X nm := by rfl) (hdb : (nm == ("__debug__" : Str)) = false := by decide) (he : starEach (e :: es) X.env = (false, eval e X.env) :: starEach es X.env := by rfl) (hpl : (backTo pos (starEach es X.env)).any (·.1) = false := by rfl) : EvX X (.Call (.Name nm p) (e :: es) [] pos) σ H G r := by
  obtain ⟨f, fd, F, c1, c2, c3⟩ := C.ex
  exact ev_call F hG (hr.mono hk) c1 c2 c3 h ha hg hdb he hpl
theorem ec_N {fn : τ → Option (List γ)} {r : List γ} (C : Cal X.prog X.w X.K X.mg X.base nm k ps (spN fn X.K)) (hG : X.A.guards = some []) (hr : Room j X.A) (hk : k ≤ j) (h : fn w = some r) (ha : EvA X (e :: es) σ H G w)
    (hg : Gl X nm := by rfl) (hdb : (nm == ("__debug__" : Str)) = false := by decide) (he : starEach (e :: es) X.env = (false, eval e X.env) :: starEach es X.env := by rfl) (hpl : (backTo pos (starEach es X.env)).any (·.1) = false := by rfl) : EvN X (.Call (.Name nm p) (e :: es) [] pos) σ H G r := by
  obtain ⟨f, fd, F, c1, c2, c3⟩ := C.ex
  exact ev_callN F hG (hr.mono hk) c1 c2 c3 h ha hg hdb he hpl
theorem wc {sp : Sp} {Q : VK} (C : Cal X.prog X.w X.K X.mg X.base nm k ps sp) (hG : X.A.guards = some []) (hr : Room j X.A) (hk : k ≤ j) (h : wpA X (e :: es) σ H fun vs H1 => sp vs H1 Q E0)
    (hg : Gl X nm := by rfl) (hdb : (nm == ("__debug__" : Str)) = false := by decide) (he : starEach (e :: es) X.env = (false, eval e X.env) :: starEach es X.env := by rfl) (hpl : (backTo pos (starEach es X.env)).any (·.1) = false := by rfl) : wpE X (.Call (.Name nm p) (e :: es) [] pos) σ H Q := by
  obtain ⟨f, fd, F, c1, c2, c3⟩ := C.ex
  exact wp_call F hG (hr.mono hk) c1 c2 c3 h hg hdb he hpl
end
/-! ### what a def hands back, by its kind -/
def RTV {γ : Type} [Rep γ] (K : PySem.W.Frag) (m : List Addr) (H0 G0 : Hp) (r : γ) (v : V) (H : Hp) : Prop := ∃ G, Rc m H0 G0 H G ∧ Rep.rel K G v r
def RTN {γ : Type} [Rep γ] (K : PySem.W.Frag) (m : List Addr) (H0 G0 : Hp) (r : List γ) (v : V) (H : Hp) : Prop := ∃ p G, v = .ref p ∧ Rc m H0 G0 H G ∧ H0 p = none ∧ Own K H G p r
def RTM {α γ : Type} [Rep α] [Rep γ] (K : PySem.W.Frag) (a : Addr) (H0 G0 : Hp) (r : γ × List α) (v : V) (H : Hp) : Prop := ∃ G, Rc [a] H0 G0 H G ∧ Own K H G a r.2 ∧ Rep.rel K G v r.1
def RTMN {α γ : Type} [Rep α] [Rep γ] (K : PySem.W.Frag) (a : Addr) (H0 G0 : Hp) (r : List γ × List α) (v : V) (H : Hp) : Prop := ∃ p G, v = .ref p ∧ Rc [a] H0 G0 H G ∧ H0 p = none ∧ Own K H G a r.2 ∧ Own K H G p r.1
end PX
namespace PX
open PySem L2
def aft {ρ S T : Type} (c : Ctl ρ S) (k : S → Option T) (r : ρ → Option T) : Option T := match c with
  | .nx s => k s
  | .bk _ => none
  | .rt y => r y
theorem aft_nx {ρ S T : Type} {c : Ctl ρ S} {k : S → Option T} {r : ρ → Option T} {s : S} {z : T} (e : c = .nx s) (h : aft c k r = some z) : k s = some z := by
  subst e
  exact h
theorem aft_rt {ρ S T : Type} {c : Ctl ρ S} {k : S → Option T} {r : ρ → Option T} {y : ρ} {z : T} (e : c = .rt y) (h : aft c k r = some z) : r y = some z := by
  subst e
  exact h
theorem lend1 {α : Type} [Rep α] {K : PySem.W.Frag} {G : Hp} {xs : List α} {p : Addr} {vs : List V} (h2 : G p = none) (h3 : Rels K G vs xs) : Rep.rel K (upd G p (.lst vs)) (.ref p) xs := ⟨p, vs, rfl, upd_same, Rels.mono (Ex.new h2) h3⟩
theorem tYes_of {σ : L2.St} {H : Hp} {P R : Hp → Prop} (h : P H) : tYes σ H fun b H3 => if b = true then P H3 else R H3 := by
  show (if true = true then P H else R H)
  rw [if_pos rfl]
  exact h
/-- a comprehension whose items change a list of ours -/
def lcM {ι β S : Type} (f : ι → S → Option (β × S)) : List ι → S → Option (List β × S)
  | [], s => some ([], s)
  | x :: r, s => (f x s).bind fun y => (lcM f r y.2).bind fun ys => some (y.1 :: ys.1, ys.2)
section
variable {X : Cx} {σ : L2.St} {H G : Hp} {α β ι : Type} [Rep α] [Rep β] {tg iter elt : Expr} {pos : Pos} {g : TG} {scope : Scope} {own : List (Str × Nat)} {items : List ι} {R : ι → Hp → (L2.St → L2.St) → Prop} {f : ι → List α → Option (β × List α)} {a : Addr} {pot : List α} {res : List β × List α}
theorem wp_lcM (hc : X.calm = true) (hN : X.N.Nodup) (ok : BlkOk X.N X.env.scope scope own) (hi : EvI X tg iter g σ H G items R) (g0 : Ex G H) (ow : Own X.K H G a pot)
    (hg : ∀ (s : Shared) (H : Hp) (C : Addr) (cl : List (Str × Addr)) (fp : List Addr), PG (X.blk s H scope (compEnvC scope cl C X.env) fp) tg g) (h : lcM f items pot = some res)
    (hw : ∀ x G u, R x G u → wipe (u (wipe σ (own.map (·.2)))) (own.map (·.2)) = wipe σ (own.map (·.2)))
    (he : ∀ (s : Shared) (H0 : Hp) (C : Addr) (cl : List (Str × Addr)) (fp : List Addr) x pt y u H1 G1, Rc [a] H G H1 G1 → R x G1 u → f x pt = some y → Own X.K H1 G1 a pt →
      wpE (X.blk s H0 scope (compEnvC scope cl C X.env) fp) elt (u (wipe σ (own.map (·.2)))) H1 fun v H2 => ∃ G2, Rc [a] H1 G1 H2 G2 ∧ Own X.K H2 G2 a y.2 ∧ Rep.rel X.K G2 v y.1)
    {Q : VK} (k : ∀ p H2 G2, Rc [a] H G H2 G2 → H p = none → Own X.K H2 G2 a res.2 → Own X.K H2 G2 p res.1 → Q (.ref p) H2)
    (hs : ∀ x, foldedSetIterable iter X.env x = pure x := by intro _; rfl) : wpE X (.ListComp elt [⟨tg, iter, [], 0⟩] scope pos) σ H Q := by
  refine toE (pe_lc (tt := tYes) (te := fun σ H Q => ∀ (s : Shared) (H0 : Hp) (C : Addr) (cl : List (Str × Addr)) (fp : List Addr), wpE (X.blk s H0 scope (compEnvC scope cl C X.env) fp) elt σ H Q) hc hN pi_wp ok hg
      (fun s H0 C cl fp => pts_nil) (fun s H0 C cl fp => ⟨fun pins s1 σ1 H1 Q I q => q s H0 C cl fp pins s1 I⟩) hs) (show wpI X tg iter σ H _ from ?_)
  refine hi H G (Rc.refl g0) _ fun J H1 G1 s1 W1 => ?_
  intro Dl nD
  have ow1 := ow.step0 s1
  have hne : a ≠ Dl := ow1.ne nD
  have sD : Rc [a] H1 G1 (upd H1 Dl (.lst [])) G1 := Rc.new s1.sub nD
  have owD : Own X.K (upd H1 Dl (.lst [])) G1 a pot := by
    obtain ⟨vs, q1, q2, q3⟩ := ow1
    exact ⟨vs, by rw [upd_ne hne]; exact q1, q2, q3⟩
  refine ⟨fun i m H' => m = items.length - i ∧ i ≤ items.length ∧ ∃ (G' : Hp) (done : List β) (pt : List α) (more : List β × List α), Rc [a] H1 G1 H' G' ∧ Own X.K H' G' Dl done ∧ Own X.K H' G' a pt ∧ done.length ≤ i ∧ lcM f (items.drop i) pt = some more ∧ res = (done ++ more.1, more.2),
    ⟨items.length, by omega, Nat.zero_le _, G1, [], pot, res, sD, Own.mk s1.sub nD .nil, owD, Nat.zero_le _, h, rfl⟩, ?_⟩
  rintro i m H' ⟨rfl, hle, G', done, pt, more, sr, ow', owa, hz, hm, hy⟩
  by_cases hlt : i < items.length
  · refine .inr ?_
    have hx : items[i]? = some items[i] := List.getElem?_eq_getElem hlt
    obtain ⟨go, step⟩ := W1.go i items[i] H' G' hx sr.ex sr.sub
    rw [List.drop_eq_getElem_cons hlt] at hm
    refine ⟨go, fun H'' => ∃ (G'' : Hp) (done : List β) (pt : List α) (more : List β × List α), Rc [a] H1 G1 H'' G'' ∧ Own X.K H'' G'' Dl done ∧ Own X.K H'' G'' a pt ∧ done.length ≤ i + 1 ∧ lcM f (items.drop (i + 1)) pt = some more ∧ res = (done ++ more.1, more.2),
      fun H'' ⟨G'', done, pt, more, k1, k2, k3, k4, k5, k6⟩ => ⟨items.length - (i + 1), by omega, rfl, hlt, G'', done, pt, more, k1, k2, k3, k4, k5, k6⟩, fun v H'' y => ?_⟩
    refine step v H'' y _ _ fun uu G'' s2 r2 => ⟨hw _ _ _ r2, ?_⟩
    have s3 : Rc [a] H G H'' G'' := (s1.any.trans sr).then s2
    obtain ⟨y0, hy0, hm⟩ := bind_some hm
    obtain ⟨more', hm', hm⟩ := bind_some hm
    refine tYes_of ?_
    intro sh H0 C cl fp
    refine wpE_mono ?_ (he sh H0 C cl fp items[i] pt y0 uu H'' G'' s3 r2 hy0 (owa.step0 s2))
    rintro w H4 ⟨G4, s5, o5, r5⟩
    have ndl : Dl ∉ [a] := fun z => hne (List.mem_singleton.mp z).symm
    obtain ⟨vs', h1, h2, h3⟩ := (ow'.step0 s2).step s5 ndl
    have hlen := W1.len
    have o6 : Own X.K (upd H4 Dl (.lst (vs' ++ [w]))) G4 a y0.2 := by
      obtain ⟨vs, q1, q2, q3⟩ := o5
      exact ⟨vs, by rw [upd_ne hne]; exact q1, q2, q3⟩
    have hz' : vs'.length < sizeLine := by rw [Paired.len h3]; omega
    refine ⟨vs', h1, hz', G4, done ++ [y0.1], y0.2, more', ((sr.then s2).trans s5).write (.inl nD) h2, ⟨_, upd_same, h2, Paired.append h3 (.cons r5 .nil)⟩, o6, ?_, hm', ?_⟩
    · rw [List.length_append]
      show done.length + 1 ≤ i + 1
      omega
    · rw [hy, ← Option.some.inj hm]
      show (done ++ (y0.1 :: more'.1), more'.2) = _
      rw [List.append_assoc]
      rfl
  · have ei : i = items.length := by omega
    subst ei
    refine .inl ⟨W1.stop H' G' sr.ex sr.sub, ?_⟩
    rw [List.drop_length] at hm
    have em : ([], pt) = more := Option.some.inj hm
    subst em
    subst hy
    have k' := k Dl H' G' (s1.any.trans sr) (none_back s1.exH nD)
    refine k' owa ?_
    show Own X.K H' G' Dl (done ++ [])
    rw [List.append_nil]
    exact ow'
end
end PX
namespace PX
open PySem L2
theorem Own.frz {α : Type} [Rep α] {K : PySem.W.Frag} {H G : Hp} {p q : Addr} {o : HO} {xs : List α} (h : Own K H G q xs) (n : G p = none) (ne : q ≠ p) : Own K H (upd G p o) q xs := by
  obtain ⟨vs, h1, h2, h3⟩ := h
  exact ⟨vs, h1, by rw [upd_ne ne]; exact h2, Rels.mono (Ex.new n) h3⟩
theorem ne_sing {a p : Addr} (h : p ≠ a) : p ∉ [a] := fun z => h (List.mem_singleton.mp z)
theorem fdivO_c {i j : Int} (h : 0 < j ∧ j.natAbs.log2 < 9000) : fdivO i j = some (i / j) := if_pos h
theorem modO_c {i j : Int} (h : 0 < j) : modO i j = some (i % j) := if_pos h
theorem of_guard {b : Bool} {u : Unit} (h : guardO b = some u) : b = true := by
  cases b with
  | true => rfl
  | false => cases h
theorem inV_int {i : Int} : ∀ {xs : List Int}, inV (.int i) (xs.map .int) = decide (i ∈ xs)
  | [] => by simp [inV]
  | x :: r => by
    have ih := inV_int (i := i) (xs := r)
    unfold inV at ih ⊢
    rw [List.map_cons, List.any_cons, ih]
    have e : eqV (.int x) (.int i) = decide (x = i) := by
      show (x == i) = decide (x = i)
      rw [Bool.eq_iff_iff, beq_iff_eq, decide_eq_true_iff]
    rw [e, Bool.eq_iff_iff, Bool.or_eq_true, decide_eq_true_iff, decide_eq_true_iff, decide_eq_true_iff, List.mem_cons]
    constructor
    · rintro (h | h)
      · exact .inl h.symm
      · exact .inr h
    · rintro (h | h)
      · exact .inl h.symm
      · exact .inr h
theorem flat_int : ∀ {xs : List Int}, (xs.map V.int).all flatV = true
  | [] => rfl
  | x :: r => by
    rw [List.map_cons, List.all_cons, flat_int (xs := r)]
    rfl
section
variable {X : Cx} {σ : L2.St} {H G : Hp} {a b : Expr} {pos : Pos} {i : Int} {xs : List Int}
theorem opIn {neg : Bool} {f : Bool} (hf : f = if neg then !decide (i ∈ xs) else decide (i ∈ xs)) : Opv X.K (rIn X.K neg) H G i xs f := fun v w H1 G1 s hv hw Q k => by
  obtain ⟨p, ws, w1, w2, w3⟩ := hw
  rw [rels_int w3] at w2
  subst hf
  refine ⟨p, _, w1, .inl (.inl (.inl (s.sub _ _ w2))), by rw [show v = V.int i from hv]; rfl, flat_int, k _ H1 G1 (Rc.refl s.sub) ?_⟩
  rw [show v = V.int i from hv, inV_int]
  cases neg <;> rfl
theorem et_in (ha : EvX X a σ H G i) (hb : EvX X b σ H G xs) (hm : behindInMarks .In b = false := by rfl) : EvT X (.Compare a [.In] [b] pos) σ H G (decide (i ∈ xs)) := et_cmp op_in_seq hm ha hb (opIn rfl)
theorem et_nin (ha : EvX X a σ H G i) (hb : EvX X b σ H G xs) (hm : behindInMarks .NotIn b = false := by rfl) : EvT X (.Compare a [.NotIn] [b] pos) σ H G (!decide (i ∈ xs)) := et_cmp op_notIn_seq hm ha hb (opIn rfl)
theorem ev_in (ha : EvX X a σ H G i) (hb : EvX X b σ H G xs) (hm : behindInMarks .In b = false := by rfl) : EvX X (.Compare a [.In] [b] pos) σ H G (decide (i ∈ xs)) := ev_cmp op_in_seq hm ha hb (opIn rfl)
end
end PX
namespace PX
open PySem L2
section
variable {X : Cx} {σ : L2.St} {H G : Hp} {a b : Expr} {pos p : Pos}
theorem wp_intB {Q : VK} (hm : X.mg "int" = none) (h : wpE X a σ H fun v H1 => ∃ t, v = .bl t ∧ Q (.int (if t then 1 else 0)) H1) (hg : Gl X "int" := by rfl) (he : starEach [a] X.env = (false, eval a X.env) :: starEach [] X.env := by rfl) : wpE X (.Call (.Name "int" p) [a] [] pos) σ H Q :=
  toE (pe_callTy call_int1 hg hm (by decide +kernel) pa_wp (by decide) (by decide) he) (wpA_cons (wpE_mono (fun v H1 ⟨t, e, q⟩ => wpA_nil (.inr ⟨t, by rw [e], q⟩)) h) he)
end
end PX
namespace PX
open PySem L2
section
variable {X : Cx} {σ : L2.St} {H G : Hp} {e : Expr} {pos : Pos} {D : Ends} {i j : Nat}
/-- a, b = e, e a pair -/
theorem ws_untup2 {px py pt : Pos} {kt} {nx ny : Str} (hc : X.calm = true) (hN : X.N.Nodup) (h : wpE X e σ H fun z H1 => ∃ d v w, z = .ref d ∧ H1 d = some (.tup [v, w]) ∧ D.nx ((σ.set i (some v)).set j (some w)) H1) (hi : X.N[i]? = some nx := by rfl) (hj : X.N[j]? = some ny := by rfl)
    (hx : Loc X.env.scope nx := by first | exact Or.inl rfl | exact Or.inr rfl) (hy : Loc X.env.scope ny := by first | exact Or.inl rfl | exact Or.inr rfl)
    (hf : X.fn nx = true ∨ X.env.scope.names.lookup nx = some .local := by first | exact .inl rfl | exact .inr rfl) (hf2 : X.fn ny = true ∨ X.env.scope.names.lookup ny = some .local := by first | exact .inl rfl | exact .inr rfl)
    (hg1 : (assignEach [.Name nx px, .Name ny py] X.env).map (·.2) = assign (.Name nx px) X.env :: (assignEach [.Name ny py] X.env).map (·.2) := by rfl) (hg2 : (assignEach [.Name ny py] X.env).map (·.2) = assign (.Name ny py) X.env :: (assignEach [] X.env).map (·.2) := by rfl)
    (hn : (assignEach [.Name nx px, .Name ny py] X.env).length = 2 := by rfl) (hst : (assignEach [.Name nx px, .Name ny py] X.env).findIdx? (·.1) = none := by rfl)
    (hs : swapsWithSole [.Tuple [.Name nx px, .Name ny py] kt pt] e pos.line X.env = pure false := by rfl) (hw : swappedStores [.Tuple [.Name nx px, .Name ny py] kt pt] e X.env = pure none := by rfl)
    (h1 : (assignEach [.Tuple [.Name nx px, .Name ny py] kt pt] X.env).map (·.2) = [assign (.Tuple [.Name nx px, .Name ny py] kt pt) X.env] := by rfl) : wpS X (.Assign [.Tuple [.Name nx px, .Name ny py] kt pt] e pos) D σ H :=
  toS (ps_asg pe_wp (pg_tup hc (pgs_cons (pg_name (i := i) hN hi hx hf) (pgs_cons (pg_name (i := j) hN hj hy hf2) pgs_nil hg2) hg1) hn hst) hs hw h1) (show wpE X e σ H _ from
    wpE_mono (fun z H1 ⟨d, v, w, e1, e2, q⟩ => ⟨d, [v, w], e1, .inl (.inl e2), rfl, v, [w], rfl, w, [], rfl, rfl, q⟩) h)
end
end PX
namespace PX
open PySem L2
/-- behind a step that changes a list of ours -/
theorem Rc.ownS {m : List Addr} {H G H1 G1 H2 G2 : Hp} {p : Addr} (a : Rc m H G H1 G1) (b : Rc [p] H1 G1 H2 G2) (n : H p = none) : Rc m H G H2 G2 where
  ex := a.ex.trans b.ex
  sub := b.sub
  keep := fun x u hx e => b.keep x u (ne_sing (ne_of_none e n)) (a.keep x u hx e)
  dom := fun x u e => by
    obtain ⟨u1, e1⟩ := a.dom x u e
    exact b.dom x u1 e1
  fr := fun x u e t q => by
    obtain ⟨u1, e1⟩ := a.dom x u e
    exact b.fr x u1 e1 (a.tp x u e t u1 e1) (a.fr x u e t q)
  tp := fun x u e t u' e' => by
    obtain ⟨u1, e1⟩ := a.dom x u e
    exact b.tp x u1 e1 (a.tp x u e t u1 e1) u' e'
end PX

/-! PXi: strings as data, tuples of three, membership in a tuple of strings, an item of a list of ours. -/
namespace PX
open PySem L2
instance : HasTy Str where
  tn := "str"
  ty := fun h => by
    cases h
    exact .base (.str _)
/-- a tuple of three -/
structure Tri (α β γ : Type) where
  a : α
  b : β
  c : γ
instance {α β γ : Type} [Rep α] [Rep β] [Rep γ] : Rep (Tri α β γ) where
  rel := fun K G v x => ∃ d p q r, v = .ref d ∧ G d = some (.tup [p, q, r]) ∧ Rep.rel K G p x.a ∧ Rep.rel K G q x.b ∧ Rep.rel K G r x.c
  mono := fun e ⟨d, p, q, r, h1, h2, h3, h4, h5⟩ => ⟨d, p, q, r, h1, e d _ h2, Rep.mono e h3, Rep.mono e h4, Rep.mono e h5⟩
theorem tri_ext {α β γ : Type} {x y : Tri α β γ} : x = y ↔ x.a = y.a ∧ x.b = y.b ∧ x.c = y.c := by
  obtain ⟨_, _, _⟩ := x
  obtain ⟨_, _, _⟩ := y
  simp
/-- xs != [] -/
def neNilO (xs : List (Tri Int Int Str)) : Option Bool := if xs.all (fun t => PyData.strOk t.c) then some (!xs.isEmpty) else none
def triPy (x : Tri Int Int Str) : PyData := .tuple [.int x.a, .int x.b, .str x.c]
theorem tri_dp {K : PySem.W.Frag} {G : Hp} : ∀ {vs : List V} {xs : List (Tri Int Int Str)}, Rels K G vs xs → DpAll K G vs (xs.map triPy)
  | _, _, .nil => .nil
  | _, _, .cons ⟨_, _, _, _, h1, h2, h3, h4, h5⟩ t => by
    subst h1
    cases h3
    cases h4
    cases h5
    exact .cons (.tup (.inl (.inl h2)) (.cons (.int _) (.cons (.int _) (.cons (.str _) .nil)))) (tri_dp t)
theorem tri_dep : ∀ xs : List (Tri Int Int Str), PyData.depthAll (xs.map triPy) ≤ 1
  | [] => by simp [PyData.depthAll]
  | x :: t => by
    have h2 := tri_dep t
    simp only [List.map_cons, PyData.depthAll, triPy, PyData.depth]
    omega
theorem tri_lay : ∀ xs : List (Tri Int Int Str), xs.all (fun t => PyData.strOk t.c) = true → PyData.canLayAll0 (xs.map triPy) = true
  | [], _ => by simp [PyData.canLayAll0]
  | x :: t, h => by
    rw [List.all_cons, Bool.and_eq_true] at h
    simp [PyData.canLayAll0, triPy, PyData.canLay0, h.1, tri_lay t h.2]
theorem op_neNil {X : Cx} {H G : Hp} {xs : List (Tri Int Int Str)} {t : Bool} (h : neNilO xs = some t) : Opv X.K (fun v w H Q => rNe v w H Q ∨ rNeD X.K v w H Q) H G xs ([] : List Int) t := fun v w H1 G1 s ⟨d, vs, e1, e2, e3⟩ ⟨d2, ws, f1, f2, f3⟩ Q k => by
  obtain ⟨h1, h2⟩ := dite_some h
  subst e1
  subst f1
  cases f3
  refine .inr ⟨.list (xs.map triPy), .list [], .lst (.inl (.inl (s.sub _ _ e2))) (tri_dp (Rels.mono s.sub e3)), .lst (.inl (.inl (s.sub _ _ f2))) .nil, ?_, by decide, k _ H1 G1 (Rc.refl s.sub) ?_⟩
  · unfold SeqAt.shaped
    have hd := tri_dep xs
    rw [show (PyData.list (xs.map triPy)).canLay0 = true by simp only [PyData.canLay0]; exact tri_lay xs h1, Bool.true_and, decide_eq_true_iff]
    simp only [PyData.depth]
    omega
  · subst h2
    refine congrArg V.bl ?_
    cases xs with
    | nil => simp [PyData.eqv, PyData.eqvAll]
    | cons x r => simp [PyData.eqv, PyData.eqvAll]
/-- a tuple of things of one kind -/
structure Tup (α : Type) where
  l : List α
instance {α : Type} [Rep α] : Rep (Tup α) where
  rel := fun K G v x => ∃ d vs, v = .ref d ∧ G d = some (.tup vs) ∧ Rels K G vs x.l
  mono := fun e ⟨d, vs, h1, h2, h3⟩ => ⟨d, vs, h1, e d _ h2, Rels.mono e h3⟩
def rThree {α β γ : Type} [Rep α] [Rep β] [Rep γ] (K : PySem.W.Frag) (i j l : Nat) : Tri α β γ → Hp → (L2.St → L2.St) → Prop := fun x G u => ∃ p q r, Rep.rel K G p x.a ∧ Rep.rel K G q x.b ∧ Rep.rel K G r x.c ∧ u = fun σ => ((σ.set i (some p)).set j (some q)).set l (some r)
section
variable {X : Cx} {σ : L2.St} {H G : Hp} {α β γ : Type} [Rep α] [Rep β] [Rep γ] {a b c d e tg iter : Expr} {es rest : List Expr} {pos p2 p p3 : Pos} {x : α} {y : β} {z : γ} {D : Ends} {i j l : Nat}
theorem rThree_mono {K : PySem.W.Frag} (x : Tri α β γ) (G G' : Hp) (u : L2.St → L2.St) (e : Ex G G') (h : rThree K i j l x G u) : rThree K i j l x G' u := by
  obtain ⟨p, q, r, h1, h2, h3, h4⟩ := h
  exact ⟨p, q, r, Rep.mono e h1, Rep.mono e h2, Rep.mono e h3, h4⟩
theorem ev_tri {k1} (ha : EvX X a σ H G x) (hb : EvX X b σ H G y) (hc : EvX X c σ H G z) (hs : starEach [a, b, c] X.env = (false, eval a X.env) :: starEach [b, c] X.env := by rfl) (hs2 : starEach [b, c] X.env = (false, eval b X.env) :: starEach [c] X.env := by rfl) (hs3 : starEach [c] X.env = (false, eval c X.env) :: starEach [] X.env := by rfl) :
    EvX X (.Tuple [a, b, c] k1 pos) σ H G (⟨x, y, z⟩ : Tri α β γ) := fun H1 G1 s Q k =>
  toE (pe_tup (pa_cons pe_wp (pa_cons pe_wp (pa_cons pe_wp pa_nil hs3) hs2) hs)) (show wpE X a σ H1 _ from ha H1 G1 s _ fun v H2 G2 s2 r2 => hb H2 G2 (s.trans s2) _ fun w H3 G3 s3 r3 => hc H3 G3 ((s.trans s2).trans s3) _ fun t H4 G4 s4 r4 => ⟨(by show 3 ≤ sizeLine; decide), fun p np =>
    k _ _ (upd G4 p (.tup [v, w, t])) (((s2.trans s3).trans s4).trans (Rc.newG s4.sub np)) ⟨p, v, w, t, rfl, upd_same, Rep.mono ((s3.ex.trans s4.ex).trans (Ex.new (none_back s4.sub np))) r2, Rep.mono (s4.ex.trans (Ex.new (none_back s4.sub np))) r3, Rep.mono (Ex.new (none_back s4.sub np)) r4⟩⟩)
theorem ev_tupL {xs : List α} {k1} (h : EvL X es σ H G xs) (hz : xs.length ≤ 100000 := by decide) : EvX X (.Tuple es k1 pos) σ H G (⟨xs⟩ : Tup α) := fun H1 G1 s Q k =>
  toE (pe_tup pa_wp) (show wpA X es σ H1 _ from h H1 G1 s _ fun vs H2 G2 s2 r2 => ⟨by rw [Paired.len r2]; exact Nat.le_trans hz (by decide), fun p np =>
    k _ _ (upd G2 p (.tup vs)) (s2.trans (Rc.newG s2.sub np)) ⟨p, vs, rfl, upd_same, Rels.mono (Ex.new (none_back s2.sub np)) r2⟩⟩)
theorem ev_intI {n : Int} {p : Pos} (hm : X.mg "int" = none) (ha : EvX X a σ H G n) (hg : Gl X "int" := by rfl) (he : starEach [a] X.env = (false, eval a X.env) :: starEach [] X.env := by rfl) : EvX X (.Call (.Name "int" p) [a] [] pos) σ H G n := fun H1 G1 s Q k =>
  toE (pe_callTy call_int1 hg hm (by decide +kernel) pa_wp (by decide) (by decide) he) (wpA_cons (ha H1 G1 s _ fun v H2 G2 s2 r2 => wpA_nil (.inl ⟨n, by rw [show v = V.int n from r2], k _ H2 G2 s2 rfl⟩)) he)
/-- over a list of tuples of three -/
theorem ei_list3 {xs : List (Tri α β γ)} {elts : List Expr} {kk : Nat} {tpos : Pos} (ha : EvX X a σ H G xs) : EvI X (.Tuple elts kk tpos) a (gTup X.K 3 (gCons (gName i) (gCons (gName j) (gCons (gName l) gNil)))) σ H G xs (rThree X.K i j l) := fun H1 G1 s Rk q =>
  toI (pi_list pe_wp) (show wpE X a σ H1 _ from wpE_post (ha H1 G1 s _ fun v H2 G2 s2 ⟨d, vs, q1, q2, q3⟩ hl => ⟨d, q1, ⟨vs, .inl (.inl (s2.sub _ _ q2))⟩, q _ H2 G2 s2 ⟨fun n x H' G' hx e1 e2 => by
    obtain ⟨v', k1, k2⟩ := Paired.get q3 hx
    have sq : SqL X.K H' d vs := .inl (.inl (e2 _ _ (e1 _ _ q2)))
    refine ⟨⟨vs, v', sq, k1⟩, fun w H'' ⟨eH, y⟩ σ' Q kk => ?_⟩
    subst eH
    have ew : w = v' := Option.some.inj ((y vs sq).symm.trans k1)
    subst ew
    obtain ⟨t, p, q, r, rfl, t2, t3, t4, t5⟩ := Rep.mono e1 k2
    exact ⟨t, [p, q, r], rfl, .inl (.inl (e2 _ _ t2)), rfl, p, [q, r], rfl, q, [r], rfl, r, [], rfl, rfl, kk (fun σ => ((σ.set i (some p)).set j (some q)).set l (some r)) G' (Rc.refl e2) ⟨p, q, r, t3, t4, t5, rfl⟩⟩, fun H' G' e1 e2 => ⟨vs, .inl (.inl (e2 _ _ (e1 _ _ q2))), by rw [Paired.len q3]; exact Nat.le_refl _⟩, by rw [← Paired.len q3]; exact hl _ _ (s2.sub _ _ q2), rThree_mono⟩⟩))
/-- a, b, c = e, e a tuple of three -/
theorem ws_untup3 {px py pz pt : Pos} {kt} {nx ny nz : Str} (hc : X.calm = true) (hN : X.N.Nodup) (h : wpE X e σ H fun z H1 => ∃ d u v w, z = .ref d ∧ H1 d = some (.tup [u, v, w]) ∧ D.nx (((σ.set i (some u)).set j (some v)).set l (some w)) H1) (hi : X.N[i]? = some nx := by rfl) (hj : X.N[j]? = some ny := by rfl) (hl : X.N[l]? = some nz := by rfl)
    (hx : Loc X.env.scope nx := by first | exact Or.inl rfl | exact Or.inr rfl) (hy : Loc X.env.scope ny := by first | exact Or.inl rfl | exact Or.inr rfl) (hz : Loc X.env.scope nz := by first | exact Or.inl rfl | exact Or.inr rfl)
    (hf : X.fn nx = true ∨ X.env.scope.names.lookup nx = some .local := by first | exact .inl rfl | exact .inr rfl) (hf2 : X.fn ny = true ∨ X.env.scope.names.lookup ny = some .local := by first | exact .inl rfl | exact .inr rfl) (hf3 : X.fn nz = true ∨ X.env.scope.names.lookup nz = some .local := by first | exact .inl rfl | exact .inr rfl)
    (hg1 : (assignEach [.Name nx px, .Name ny py, .Name nz pz] X.env).map (·.2) = assign (.Name nx px) X.env :: (assignEach [.Name ny py, .Name nz pz] X.env).map (·.2) := by rfl) (hg2 : (assignEach [.Name ny py, .Name nz pz] X.env).map (·.2) = assign (.Name ny py) X.env :: (assignEach [.Name nz pz] X.env).map (·.2) := by rfl) (hg3 : (assignEach [.Name nz pz] X.env).map (·.2) = assign (.Name nz pz) X.env :: (assignEach [] X.env).map (·.2) := by rfl)
    (hn : (assignEach [.Name nx px, .Name ny py, .Name nz pz] X.env).length = 3 := by rfl) (hst : (assignEach [.Name nx px, .Name ny py, .Name nz pz] X.env).findIdx? (·.1) = none := by rfl)
    (hs : swapsWithSole [.Tuple [.Name nx px, .Name ny py, .Name nz pz] kt pt] e pos.line X.env = pure false := by rfl) (hw : swappedStores [.Tuple [.Name nx px, .Name ny py, .Name nz pz] kt pt] e X.env = pure none := by rfl)
    (h1 : (assignEach [.Tuple [.Name nx px, .Name ny py, .Name nz pz] kt pt] X.env).map (·.2) = [assign (.Tuple [.Name nx px, .Name ny py, .Name nz pz] kt pt) X.env] := by rfl) : wpS X (.Assign [.Tuple [.Name nx px, .Name ny py, .Name nz pz] kt pt] e pos) D σ H :=
  toS (ps_asg pe_wp (pg_tup hc (pgs_cons (pg_name (i := i) hN hi hx hf) (pgs_cons (pg_name (i := j) hN hj hy hf2) (pgs_cons (pg_name (i := l) hN hl hz hf3) pgs_nil hg3) hg2) hg1) hn hst) hs hw h1) (show wpE X e σ H _ from
    wpE_mono (fun z H1 ⟨d, u, v, w, e1, e2, q⟩ => ⟨d, [u, v, w], e1, .inl (.inl e2), rfl, u, [v, w], rfl, v, [w], rfl, w, [], rfl, rfl, q⟩) h)
end
section
variable {X : Cx} {σ : L2.St} {H G : Hp} {a b : Expr} {pos : Pos} {xs : List (Tri Int Int Str)} {t : Bool}
theorem ev_neNil (hu : X.A.units + 64 < cLine) (h : neNilO xs = some t) (ha : EvX X a σ H G xs) (hb : EvX X b σ H G ([] : List Int)) (hm : behindInMarks .NotEq b = false := by rfl) : EvX X (.Compare a [.NotEq] [b] pos) σ H G t := ev_cmp (op_neS hu) hm ha hb (op_neNil h)
end
section
variable {X : Cx} {σ : L2.St} {H G : Hp} {α β γ ι S ρ : Type} [Rep α] [Rep β] [Rep γ] {a b c e tg iter elt : Expr} {es rest ifs : List Expr} {st : Stmt} {sts sts2 : List Stmt} {pos p2 p p3 apos : Pos} {D D' : Ends} {i j : Nat}
/-- over range(e), e changes one list of ours -/
theorem wi_rng1 {Rk : It → Hp → Prop} (hm : X.mg "range" = none) (ha : wpE X a σ H fun v H1 => ∃ n xs G1, v = .int n ∧ rngO 0 n = some xs ∧ Ex G1 H1 ∧ ∀ J, IsWalk (gName j) J G1 xs (rOne X.K j) → Rk J H1) (hg : Gl X "range" := by rfl) (hs : starEach [a] X.env = (false, eval a X.env) :: starEach [] X.env := by rfl) : wpI X tg (.Call (.Name "range" p) [a] [] pos) σ H Rk := by
  refine toI (pi_range1 hg hm (pa_cons pe_wp pa_nil hs) hs) (show wpE X a σ H _ from wpE_mono (fun v H1 ⟨n, xs, G1, e, h, g1, k⟩ => ?_) ha)
  obtain ⟨⟨r1, r2, r3, r4, r5⟩, rfl⟩ := rngO_ok h
  refine ⟨n, by rw [e], r3, r4, k _ ⟨fun i x H' G' hx e1 e2 => ?_, fun H' G' e1 e2 => ?_, ?_, rOne_mono⟩⟩
  · have hx2 := hx
    unfold rng at hx2
    rw [Int.sub_zero, List.getElem?_map] at hx2
    have hi : i < n.toNat := by
      have := (List.getElem?_eq_some_iff.mp hx).1
      unfold rng at this
      rw [List.length_map, List.length_range, Int.sub_zero] at this
      exact this
    rw [List.getElem?_range hi] at hx2
    have ex : (0 : Int) + (i : Nat) = x := Option.some.inj hx2
    refine ⟨hi, fun w H'' ⟨eH, ew⟩ σ' Q kk => ?_⟩
    subst eH
    subst ew
    exact kk (fun σ => σ.set j (some (.int (0 + (i : Nat))))) G' (Rc.refl e2) ⟨_, by rw [← ex]; rfl, rfl⟩
  · show n.toNat ≤ (rng 0 n).length
    unfold rng
    rw [List.length_map, List.length_range, Int.sub_zero]
    exact Nat.le_refl _
  · unfold rng
    rw [List.length_map, List.length_range]
    exact r5
theorem ws_forR (S ρ : Type) (hp : PassesOwn (model X.prog X.w) X.A X.env X.xe) (hc : X.calm = true) (hm : X.mg "range" = none) (hg : PG X tg (gName j))
    (h : wpE X a σ H fun v H1 => ∃ (n : Int) (items : List Int) (body : Int → S → Option (Ctl ρ S)) (s0 : S) (cc : Ctl ρ S) (G : Hp) (I : Hp → S → L2.St → Hp → Hp → Prop) (RT : ρ → V → Hp → Prop), v = .int n ∧ rngO 0 n = some items ∧ Ex G H1 ∧ forL body items s0 = some cc ∧
      (∀ H2 G2, Rc [] H1 G H2 G2 → I G2 s0 σ H2 G2) ∧ (∀ Gs s σ H G, I Gs s σ H G → Ex Gs G ∧ Ex G H) ∧
      (∀ Gs s σ1 H1 G1 x c' u H2 G2, body x s = some c' → I Gs s σ1 H1 G1 → Rc [] H1 G1 H2 G2 → rOne X.K j x G2 u →
        wpB X sts { nx := fun σ H => ∃ s' G, c' = .nx s' ∧ I Gs s' σ H G, rt := fun v H => ∃ r, c' = .rt r ∧ RT r v H, bk := fun σ H => ∃ s' G, c' = .bk s' ∧ I Gs s' σ H G, ct := fun σ H => ∃ s' G, c' = .nx s' ∧ I Gs s' σ H G } (u σ1) H2) ∧
      (∀ Gs s σ1 H1 G1, cc = .nx s → I Gs s σ1 H1 G1 → D.nx σ1 H1) ∧ (∀ r v H1, cc = .rt r → RT r v H1 → D.rt v H1))
    (hgl : Gl X "range" := by rfl) (hse : starEach [a] X.env = (false, eval a X.env) :: starEach [] X.env := by rfl) (hs : ∀ x, foldedSetIterable (.Call (.Name "range" p) [a] [] apos) X.env x = pure x := by intro _; rfl) : wpS X (.For tg (.Call (.Name "range" p) [a] [] apos) sts [] pos) D σ H := by
  refine toS (ps_for hp hc pi_wp hg pss_wp hs) (wi_rng1 (j := j) hm (wpE_mono (fun v H1 ⟨n, items, body, s0, cc, G, I, RT, e, hr0, g0, h, h0, hx, hb, hd, hr⟩ => ⟨n, items, G, e, hr0, g0, fun J W => ?_⟩) h) hgl hse)
  refine ⟨fun i m σ' H' => m = items.length - i ∧ i ≤ items.length ∧ ∃ s G', I G s σ' H' G' ∧ forL body (items.drop i) s = some cc, ⟨items.length, by omega, Nat.zero_le _, s0, G, h0 H1 G (Rc.refl g0), h⟩, ?_⟩
  rintro i m σ' H' ⟨rfl, hle, s, G', hI, hf⟩
  obtain ⟨e1, e2⟩ := hx _ _ _ _ _ hI
  by_cases hlt : i < items.length
  · refine .inr ?_
    have hxi : items[i]? = some items[i] := List.getElem?_eq_getElem hlt
    obtain ⟨go, step⟩ := W.go i items[i] H' G' hxi e1 e2
    rw [List.drop_eq_getElem_cons hlt] at hf
    obtain ⟨c', hc', hf⟩ := bind_some hf
    refine ⟨go, fun σ'' H'' => ∃ s G', I G s σ'' H'' G' ∧ forL body (items.drop (i + 1)) s = some cc, fun σ'' H'' ⟨s, G', k1, k2⟩ => ⟨items.length - (i + 1), by omega, rfl, hlt, s, G', k1, k2⟩, fun v H'' y => ?_⟩
    refine step v H'' y _ _ fun uu G'' s3 r3 => ?_
    refine wpB_imp (hb G s σ' H' G' items[i] c' uu H'' G'' hc' hI s3 r3) ?_ ?_ ?_ ?_
    · rintro σ1 H1 ⟨s', G1, ec, k⟩
      subst ec
      exact ⟨s', G1, k, hf⟩
    · rintro v H1 ⟨r, ec, k⟩
      subst ec
      exact hr r v H1 (Option.some.inj hf).symm k
    · rintro σ1 H1 ⟨s', G1, ec, k⟩
      subst ec
      exact hd G s' σ1 H1 G1 (Option.some.inj hf).symm k
    · rintro σ1 H1 ⟨s', G1, ec, k⟩
      subst ec
      exact ⟨s', G1, k, hf⟩
  · have ei : i = items.length := by omega
    subst ei
    rw [List.drop_length] at hf
    exact .inl ⟨W.stop H' G' e1 e2, hd G s σ' H' G' (Option.some.inj hf).symm hI⟩
/-- xs.append(e), e changes another list of ours -/
theorem ws_appR (α : Type) [Rep α] {nm : Str} {l : Addr} (hs : σ[i]? = some (some (.ref l))) (hl : ∃ vs, H l = some (.lst vs)) (h : wpE X e σ H fun v H1 => ∃ (xs zs : List α) (x : α) (G1 : Hp), Own X.K H1 G1 l xs ∧ appO xs x = some zs ∧ Rep.rel X.K G1 v x ∧ Ex G1 H1 ∧
      ∀ H2 G2, (∀ m H0 G0, Rc m H0 G0 H1 G1 → (H0 l = none ∨ l ∈ m) → Rc m H0 G0 H2 G2) → Rc [l] H1 G1 H2 G2 → Own X.K H2 G2 l zs → D.nx σ H2)
    (hN : X.N[i]? = some nm := by rfl) (hv : Vis X.env.scope nm := by first | exact Or.inl rfl | exact Or.inr (Or.inl rfl) | exact Or.inr (Or.inr rfl)) (hd : (nm == ("__debug__" : Str)) = false := by decide) (hcd : (nm == ("__classdict__" : Str)) = false := by decide)
    (hbase : attributeBase (.Name nm p) "append" X.env (eval (.Name nm p) X.env) = eval (.Name nm p) X.env := by rfl)
    (hfew : ((backTo pos (starEach [e] X.env)).all (fun x => !x.1) && (backToKw pos (keywordEach [] X.env)).all (fun x => x.1.isSome) && decide ([e].length + ([] : List Keyword).length + (if ([] : List Keyword).isEmpty then 0 else 1) < 30)) = true := by rfl)
    (hline : (apos.endLine == pos.line) = true := by rfl) (hst : starEach [e] X.env = (false, eval e X.env) :: starEach [] X.env := by rfl) (hpl : (backTo pos (starEach [] X.env)).any (·.1) = false := by rfl)
    (hsw : swapsWith (.Call (.Attribute (.Name nm p) "append" apos) [e] [] pos) none p2.line X.env = pure false := by rfl) :
    wpS X (.Expr (.Call (.Attribute (.Name nm p) "append" apos) [e] [] pos) p2) D σ H := by
  refine ws_expr (wp_append hs hl (wpE_mono (fun v H1 ⟨xs, zs, x, G1, ow, hz, r2, g1, k⟩ => ?_) h) hN hv hd hcd hbase hfew hline hst hpl) hsw
  obtain ⟨h1, h2⟩ := dite_some hz
  subst h2
  obtain ⟨vs, q1, q2, q3⟩ := ow
  exact ⟨vs, q1, by rw [Paired.len q3]; exact line_lt h1, k _ G1 (fun m H0 G0 r n => r.write n q2) ((Rc.refl (m := [l]) g1).write (.inr List.mem_cons_self) q2) ⟨_, upd_same, q2, Paired.append q3 (.cons r2 .nil)⟩⟩
end
theorem inV_str {i : Str} : ∀ {xs : List Str}, inV (.str i) (xs.map .str) = decide (i ∈ xs)
  | [] => by simp [inV]
  | x :: r => by
    have ih := inV_str (i := i) (xs := r)
    unfold inV at ih ⊢
    rw [List.map_cons, List.any_cons, ih]
    have e : eqV (.str x) (.str i) = decide (x = i) := by
      show (x == i) = decide (x = i)
      rw [Bool.eq_iff_iff, beq_iff_eq, decide_eq_true_iff]
    rw [e, Bool.eq_iff_iff, Bool.or_eq_true, decide_eq_true_iff, decide_eq_true_iff, decide_eq_true_iff, List.mem_cons]
    constructor
    · rintro (h | h)
      · exact .inl h.symm
      · exact .inr h
    · rintro (h | h)
      · exact .inl h.symm
      · exact .inr h
theorem flat_str : ∀ {xs : List Str}, (xs.map V.str).all flatV = true
  | [] => rfl
  | x :: r => by
    rw [List.map_cons, List.all_cons, flat_str (xs := r)]
    rfl
theorem rels_str {K : PySem.W.Frag} {G : Hp} : ∀ {vs : List V} {xs : List Str}, Rels K G vs xs → vs = xs.map .str
  | _, _, .nil => rfl
  | _, _, .cons h t => by
    rw [List.map_cons, rels_str t, show _ = V.str _ from h]
section
variable {X : Cx} {σ : L2.St} {H G : Hp} {a b : Expr} {pos : Pos} {i : Str} {xs : List Str}
theorem opInS {neg : Bool} {f : Bool} (hf : f = if neg then !decide (i ∈ xs) else decide (i ∈ xs)) : Opv X.K (rIn X.K neg) H G i (⟨xs⟩ : Tup Str) f := fun v w H1 G1 s hv hw Q k => by
  obtain ⟨p, ws, w1, w2, w3⟩ := hw
  rw [rels_str w3] at w2
  subst hf
  refine ⟨p, _, w1, .inr (.inl (.inl (s.sub _ _ w2))), by rw [show v = V.str i from hv]; rfl, flat_str, k _ H1 G1 (Rc.refl s.sub) ?_⟩
  rw [show v = V.str i from hv, inV_str]
  cases neg <;> rfl
theorem et_inS (ha : EvX X a σ H G i) (hb : EvX X b σ H G (⟨xs⟩ : Tup Str)) (hm : behindInMarks .In b = false := by rfl) : EvT X (.Compare a [.In] [b] pos) σ H G (decide (i ∈ xs)) := et_cmp op_in_seq hm ha hb (opInS rfl)
theorem et_ninS (ha : EvX X a σ H G i) (hb : EvX X b σ H G (⟨xs⟩ : Tup Str)) (hm : behindInMarks .NotIn b = false := by rfl) : EvT X (.Compare a [.NotIn] [b] pos) σ H G (!decide (i ∈ xs)) := et_cmp op_notIn_seq hm ha hb (opInS rfl)
end
end PX

/-! PXj: repr of lists and tuples of ints. -/
namespace PX
open PySem L2
/-- data that stand as an object -/
class PyO (α : Type) extends PyD α where
  isref : ∀ {K : PySem.W.Frag} {G : Hp} {v : V} {x : α}, Rep.rel K G v x → ∃ a, v = .ref a
instance {α : Type} [PyD α] : PyO (List α) where
  isref := fun ⟨a, _, h, _⟩ => ⟨a, h⟩
instance {α β : Type} [PyD α] [PyD β] : PyO (α × β) where
  isref := fun ⟨a, _, _, h, _⟩ => ⟨a, h⟩
def reprO {α : Type} [PyD α] (x : α) : Option Str := if (PyD.py x).showable = true ∧ (PyD.py x).shown.length ≤ line then some (PyD.py x).shown else none
theorem call_reprD {X : Cx} (hG : X.A.guards = some []) (hu : X.A.units + 64 < cLine) : CallR X (.builtin "repr") (fun xs H Q => ∃ a d, xs = [.ref a] ∧ Dp X.K H (.ref a) d ∧ d.showable = true ∧ d.canLay0 = true ∧ d.depth ≤ 60 ∧ d.shown.length ≤ sizeLine ∧ Q (.str d.shown) H) := by
  intro pins s σ H xs us Q I r h
  obtain ⟨a, d, rfl, hd, hs, hl, hdp, hsz, q⟩ := h
  obtain ⟨u, rfl, rx⟩ := vals1 r
  obtain ⟨as, rd⟩ := Dp.reads I d (.ref a) u hd rx
  cases rx
  exact PySem.repr_of_reads' rd hs (PyData.noDict_hsm (PyData.hasDict_of_canLay d hl)) hG (by omega) (fun _ _ e => e) (fun h' u tk hk => ⟨.str d.shown, H, I.kept hk, ⟨_, rfl⟩, q⟩) hsz
section
variable {X : Cx} {σ : L2.St} {H G : Hp} {a : Expr} {pos p : Pos}
theorem ev_repr {α : Type} [PyO α] {x : α} {t : Str} (hG : X.A.guards = some []) (hu : X.A.units + 64 < cLine) (hm : X.mg "repr" = none) (h : reprO x = some t) (hd : PyD.dep α ≤ 60) (ha : EvX X a σ H G x) (hg : Gl X "repr" := by rfl) (he : starEach [a] X.env = (false, eval a X.env) :: starEach [] X.env := by rfl) :
    EvX X (.Call (.Name "repr" p) [a] [] pos) σ H G t := by
  obtain ⟨⟨h1, h2⟩, h3⟩ := dite_some h
  subst h3
  exact ev_bi (call_reprD hG hu) hm (by decide +kernel) (ea_cons ha ea_nil he) (fun vs H1 G1 s r Q k => by
    obtain ⟨v, rfl, hv⟩ := args1 r
    obtain ⟨b, rfl⟩ := PyO.isref hv
    exact ⟨b, _, rfl, PyD.dp (Rep.mono s.sub hv), h1, PyD.lay x, Nat.le_trans (PyD.depOk x) hd, line_le h2, k _ H1 G1 (Rc.refl s.sub) rfl⟩) hg (by decide) (by decide) he
end
end PX

/-! PXk: sets of ints made of a list, how many they hold. -/
namespace PX
open PySem L2
/-- the different ones of a list, in their sequence -/
def dif (ns : List Int) : List Int := PyProof.Rows.firstMet (fun i => ns.getD i 0) ns.length
structure DSet where
  l : List Int
instance : Rep DSet where
  rel := fun K G v x => ∃ a, v = .ref a ∧ G a = some (.set (fun k => x.l.any (· == k)) x.l.length)
  mono := fun e ⟨a, h1, h2⟩ => ⟨a, h1, e a _ h2⟩
theorem call_set_ints {X : Cx} (hc : X.calm = true) : CallR X (.type "set") (fun xs H Q => ∃ p ns, xs = [.ref p] ∧ SqL X.K H p (ns.map .int) ∧ ns.length + 1 < scanBound ∧ ∀ l, H l = none → Q (.ref l) (upd H l (.set (fun k => (dif ns).any (· == k)) (dif ns).length))) := by
  intro pins s σ H xs us Q I r h
  obtain ⟨p, ns, rfl, hq, hb, q⟩ := h
  obtain ⟨u, rfl, rx⟩ := vals1 r
  cases rx
  obtain ⟨its, r', pl, hz⟩ := I.list hq
  have hlen : its.length = ns.length := by rw [← r'.length, List.length_map]
  have hs : its.toArray.size = ns.length := by rw [List.size_toArray, hlen]
  refine PySem.call_set_list (I.ok.hd hc) pl.isList (ns := ns) (by simpa using L2.intsAre_of r') (by rw [hs]; exact hb) fun h' tk hS hk => ?_
  rw [hs] at hS
  have kp : ∀ b o', s.heap.get? b = some o' → h'.get? b = some o' := fun b o' e => hk b o' (Heap.lt_size e) e
  exact ⟨.ref s.heap.objs.size, _, I.laid (t' := tk) kp (Nat.le_refl _) (show ObjOk X.prog X.w _ h' _ (.set (fun k => (dif ns).any (· == k)) (dif ns).length) from hS), rfl, q _ (I.hok.fresh (Nat.le_refl _))⟩
theorem call_len_dset {X : Cx} : CallR X (.builtin "len") (fun xs H Q => ∃ p S n, xs = [.ref p] ∧ H p = some (.set S n) ∧ Q (.int (n : Nat)) H) := by
  intro pins s σ H xs us Q I r h
  obtain ⟨p, S, n, rfl, hq, q⟩ := h
  obtain ⟨u, rfl, rx⟩ := vals1 r
  cases rx
  obtain ⟨o, es, ep, t, ho, hx, hd, _, _, hb, hf, hn⟩ := (I.hok p _ hq)
  subst hn
  exact PySem.call_len_set ho hx hd hf (by unfold scanBound at hb; omega) ⟨.int es.size, H, I.tok _, ⟨_, rfl⟩, q⟩
def difO (ns : List Int) : Option DSet := if ns.length < 4000 then some ⟨dif ns⟩ else none
section
variable {X : Cx} {σ : L2.St} {H G : Hp} {a : Expr} {pos p : Pos}
theorem ev_set {xs : List Int} {d : DSet} (hc : X.calm = true) (hm : X.mg "set" = none) (h : difO xs = some d) (ha : EvX X a σ H G xs) (hg : Gl X "set" := by rfl) (he : starEach [a] X.env = (false, eval a X.env) :: starEach [] X.env := by rfl) : EvX X (.Call (.Name "set" p) [a] [] pos) σ H G d := by
  obtain ⟨h1, h2⟩ := dite_some h
  subst h2
  exact ev_ty (call_set_ints hc) hm (by decide +kernel) (ea_cons ha ea_nil he) (fun vs H1 G1 s r Q k => by
    obtain ⟨v, rfl, b, ws, rfl, q2, q3⟩ := args1 r
    rw [rels_int q3] at q2
    exact ⟨b, xs, rfl, .inl (.inl (s.sub _ _ q2)), by unfold scanBound; omega, fun l np => k _ _ (upd G1 l (.set (fun k => (dif xs).any (· == k)) (dif xs).length)) (Rc.newG s.sub np) ⟨l, rfl, upd_same⟩⟩) hg (by decide) (by decide) he
theorem ev_lenSet {d : DSet} (hm : X.mg "len" = none) (ha : EvX X a σ H G d) (hg : Gl X "len" := by rfl) (he : starEach [a] X.env = (false, eval a X.env) :: starEach [] X.env := by rfl) : EvX X (.Call (.Name "len" p) [a] [] pos) σ H G (d.l.length : Int) :=
  ev_bi call_len_dset hm PySem.boot_len (ea_cons ha ea_nil he) (fun vs H1 G1 s r Q k => by
    obtain ⟨v, rfl, b, rfl, q2⟩ := args1 r
    exact ⟨b, _, _, rfl, s.sub _ _ q2, k _ H1 G1 (Rc.refl s.sub) rfl⟩) hg (by decide) (by decide) he
end
section
variable {X : Cx} {σ : L2.St} {H G : Hp} {α β : Type} [Rep α] [Rep β] {tg iter elt e : Expr} {pos p apos : Pos} {scope : Scope} {own : List (Str × Nat)} {a : Addr} {j : Nat}
/-- a comprehension over range(e) whose items change a list of ours, as e does -/
theorem lcmR_raw {α β : Type} [Rep α] [Rep β] (hm : X.mg "range" = none)
    (hw : ∀ (x : Int) G u, rOne X.K j x G u → wipe (u (wipe σ (own.map (·.2)))) (own.map (·.2)) = wipe σ (own.map (·.2)))
    {Q : VK} (h : wpE X e σ H fun v H1 => ∃ (n : Int) (items : List Int) (G : Hp) (pot : List α) (res : List β × List α) (f : Int → List α → Option (β × List α)), v = .int n ∧ rngO 0 n = some items ∧ Ex G H1 ∧ Own X.K H1 G a pot ∧ lcM f items pot = some res ∧
      (∀ (s : Shared) (H0 : Hp) (C : Addr) (cl : List (Str × Addr)) (fp : List Addr) x pt y u H2 G2, Rc [a] H1 G H2 G2 → rOne X.K j x G2 u → f x pt = some y → Own X.K H2 G2 a pt →
        wpE (X.blk s H0 scope (compEnvC scope cl C X.env) fp) elt (u (wipe σ (own.map (·.2)))) H2 fun v H3 => ∃ G3, Rc [a] H2 G2 H3 G3 ∧ Own X.K H3 G3 a y.2 ∧ Rep.rel X.K G3 v y.1) ∧
      ∀ p H2 G2, Rc [a] H1 G H2 G2 → H1 p = none → Own X.K H2 G2 a res.2 → Own X.K H2 G2 p res.1 → Q (.ref p) H2)
    (hgl : Gl X "range" := by rfl) (hse : starEach [e] X.env = (false, eval e X.env) :: starEach [] X.env := by rfl) : tLc (wpI X tg (.Call (.Name "range" p) [e] [] apos)) (gName j) tYes (fun σ H Q => ∀ (s : Shared) (H0 : Hp) (C : Addr) (cl : List (Str × Addr)) (fp : List Addr), wpE (X.blk s H0 scope (compEnvC scope cl C X.env) fp) elt σ H Q) (own.map (·.2)) σ H Q := by
  refine (wi_rng1 (j := j) hm (wpE_mono (fun v H1 ⟨n, items, G1, pot, res, f, e1, hr0, g1, ow1, h, he, k⟩ => ⟨n, items, G1, e1, hr0, g1, fun J W1 => ?_⟩) h) hgl hse)
  intro Dl nD
  have hne : a ≠ Dl := ow1.ne nD
  have sD : Rc [a] H1 G1 (upd H1 Dl (.lst [])) G1 := Rc.new g1 nD
  have owD : Own X.K (upd H1 Dl (.lst [])) G1 a pot := by
    obtain ⟨vs, q1, q2, q3⟩ := ow1
    exact ⟨vs, by rw [upd_ne hne]; exact q1, q2, q3⟩
  refine ⟨fun i m H' => m = items.length - i ∧ i ≤ items.length ∧ ∃ (G' : Hp) (done : List β) (pt : List α) (more : List β × List α), Rc [a] H1 G1 H' G' ∧ Own X.K H' G' Dl done ∧ Own X.K H' G' a pt ∧ done.length ≤ i ∧ lcM f (items.drop i) pt = some more ∧ res = (done ++ more.1, more.2),
    ⟨items.length, by omega, Nat.zero_le _, G1, [], pot, res, sD, Own.mk g1 nD .nil, owD, Nat.zero_le _, h, rfl⟩, ?_⟩
  rintro i m H' ⟨rfl, hle, G', done, pt, more, sr, ow', owa, hz, hm, hy⟩
  by_cases hlt : i < items.length
  · refine .inr ?_
    have hx : items[i]? = some items[i] := List.getElem?_eq_getElem hlt
    obtain ⟨go, step⟩ := W1.go i items[i] H' G' hx sr.ex sr.sub
    rw [List.drop_eq_getElem_cons hlt] at hm
    refine ⟨go, fun H'' => ∃ (G'' : Hp) (done : List β) (pt : List α) (more : List β × List α), Rc [a] H1 G1 H'' G'' ∧ Own X.K H'' G'' Dl done ∧ Own X.K H'' G'' a pt ∧ done.length ≤ i + 1 ∧ lcM f (items.drop (i + 1)) pt = some more ∧ res = (done ++ more.1, more.2),
      fun H'' ⟨G'', done, pt, more, k1, k2, k3, k4, k5, k6⟩ => ⟨items.length - (i + 1), by omega, rfl, hlt, G'', done, pt, more, k1, k2, k3, k4, k5, k6⟩, fun v H'' y => ?_⟩
    refine step v H'' y _ _ fun uu G'' s2 r2 => ⟨hw _ _ _ r2, ?_⟩
    have s3 : Rc [a] H1 G1 H'' G'' := sr.then s2
    obtain ⟨y0, hy0, hm⟩ := bind_some hm
    obtain ⟨more', hm', hm⟩ := bind_some hm
    refine tYes_of ?_
    intro sh H0 C cl fp
    refine wpE_mono ?_ (he sh H0 C cl fp items[i] pt y0 uu H'' G'' s3 r2 hy0 (owa.step0 s2))
    rintro w H4 ⟨G4, s5, o5, r5⟩
    have ndl : Dl ∉ [a] := fun z => hne (List.mem_singleton.mp z).symm
    obtain ⟨vs', h1, h2, h3⟩ := (ow'.step0 s2).step s5 ndl
    have hlen := W1.len
    have o6 : Own X.K (upd H4 Dl (.lst (vs' ++ [w]))) G4 a y0.2 := by
      obtain ⟨vs, q1, q2, q3⟩ := o5
      exact ⟨vs, by rw [upd_ne hne]; exact q1, q2, q3⟩
    have hz' : vs'.length < sizeLine := by rw [Paired.len h3]; omega
    refine ⟨vs', h1, hz', G4, done ++ [y0.1], y0.2, more', ((sr.then s2).trans s5).write (.inl nD) h2, ⟨_, upd_same, h2, Paired.append h3 (.cons r5 .nil)⟩, o6, ?_, hm', ?_⟩
    · rw [List.length_append]
      show done.length + 1 ≤ i + 1
      omega
    · rw [hy, ← Option.some.inj hm]
      show (done ++ (y0.1 :: more'.1), more'.2) = _
      rw [List.append_assoc]
      rfl
  · have ei : i = items.length := by omega
    subst ei
    refine .inl ⟨W1.stop H' G' sr.ex sr.sub, ?_⟩
    rw [List.drop_length] at hm
    have em : ([], pt) = more := Option.some.inj hm
    subst em
    subst hy
    have k' := k Dl H' G' sr nD
    refine k' owa ?_
    show Own X.K H' G' Dl (done ++ [])
    rw [List.append_nil]
    exact ow'
/-- a comprehension over range(e) whose items change a list of ours, as e does -/
theorem wp_lcMR (α β : Type) [Rep α] [Rep β] (hc : X.calm = true) (hN : X.N.Nodup) (ok : BlkOk X.N X.env.scope scope own) (hm : X.mg "range" = none)
    (hg : ∀ (s : Shared) (H : Hp) (C : Addr) (cl : List (Str × Addr)) (fp : List Addr), PG (X.blk s H scope (compEnvC scope cl C X.env) fp) tg (gName j))
    (hw : ∀ (x : Int) G u, rOne X.K j x G u → wipe (u (wipe σ (own.map (·.2)))) (own.map (·.2)) = wipe σ (own.map (·.2)))
    {Q : VK} (h : wpE X e σ H fun v H1 => ∃ (n : Int) (items : List Int) (G : Hp) (pot : List α) (res : List β × List α) (f : Int → List α → Option (β × List α)), v = .int n ∧ rngO 0 n = some items ∧ Ex G H1 ∧ Own X.K H1 G a pot ∧ lcM f items pot = some res ∧
      (∀ (s : Shared) (H0 : Hp) (C : Addr) (cl : List (Str × Addr)) (fp : List Addr) x pt y u H2 G2, Rc [a] H1 G H2 G2 → rOne X.K j x G2 u → f x pt = some y → Own X.K H2 G2 a pt →
        wpE (X.blk s H0 scope (compEnvC scope cl C X.env) fp) elt (u (wipe σ (own.map (·.2)))) H2 fun v H3 => ∃ G3, Rc [a] H2 G2 H3 G3 ∧ Own X.K H3 G3 a y.2 ∧ Rep.rel X.K G3 v y.1) ∧
      ∀ p H2 G2, Rc [a] H1 G H2 G2 → H1 p = none → Own X.K H2 G2 a res.2 → Own X.K H2 G2 p res.1 → Q (.ref p) H2)
    (hgl : Gl X "range" := by rfl) (hse : starEach [e] X.env = (false, eval e X.env) :: starEach [] X.env := by rfl) (hs : ∀ x, foldedSetIterable (.Call (.Name "range" p) [e] [] apos) X.env x = pure x := by intro _; rfl) : wpE X (.ListComp elt [⟨tg, .Call (.Name "range" p) [e] [] apos, [], 0⟩] scope pos) σ H Q :=
  toE (pe_lc (tt := tYes) (te := fun σ H Q => ∀ (s : Shared) (H0 : Hp) (C : Addr) (cl : List (Str × Addr)) (fp : List Addr), wpE (X.blk s H0 scope (compEnvC scope cl C X.env) fp) elt σ H Q) hc hN pi_wp ok hg
      (fun s H0 C cl fp => pts_nil) (fun s H0 C cl fp => ⟨fun pins s1 σ1 H1 Q I q => q s H0 C cl fp pins s1 I⟩) hs) (lcmR_raw hm hw h hgl hse)
/-- the same, stored -/
theorem ws_setLcR (α β : Type) [Rep α] [Rep β] (hc : X.calm = true) (hN : X.N.Nodup) (ok : BlkOk X.N X.env.scope scope own) (hm : X.mg "range" = none)
    (hg : ∀ (s : Shared) (H : Hp) (C : Addr) (cl : List (Str × Addr)) (fp : List Addr), PG (X.blk s H scope (compEnvC scope cl C X.env) fp) tg (gName j))
    (hw : ∀ (x : Int) G u, rOne X.K j x G u → wipe (u (wipe σ (own.map (·.2)))) (own.map (·.2)) = wipe σ (own.map (·.2)))
    {D : Ends} {i : Nat} {nm : Str} {p2 p3 : Pos} (h : wpE X e σ H fun v H1 => ∃ (n : Int) (items : List Int) (G : Hp) (pot : List α) (res : List β × List α) (f : Int → List α → Option (β × List α)), v = .int n ∧ rngO 0 n = some items ∧ Ex G H1 ∧ Own X.K H1 G a pot ∧ lcM f items pot = some res ∧
      (∀ (s : Shared) (H0 : Hp) (C : Addr) (cl : List (Str × Addr)) (fp : List Addr) x pt y u H2 G2, Rc [a] H1 G H2 G2 → rOne X.K j x G2 u → f x pt = some y → Own X.K H2 G2 a pt →
        wpE (X.blk s H0 scope (compEnvC scope cl C X.env) fp) elt (u (wipe σ (own.map (·.2)))) H2 fun v H3 => ∃ G3, Rc [a] H2 G2 H3 G3 ∧ Own X.K H3 G3 a y.2 ∧ Rep.rel X.K G3 v y.1) ∧
      ∀ p H2 G2, Rc [a] H1 G H2 G2 → H1 p = none → Own X.K H2 G2 a res.2 → Own X.K H2 G2 p res.1 → D.nx (σ.set i (some (.ref p))) H2)
    (hj : X.N[i]? = some nm := by rfl) (hyl : X.env.scope.names.lookup nm = some .local := by rfl) (hsw : swapsWith (.ListComp elt [⟨tg, .Call (.Name "range" p) [e] [] apos, [], 0⟩] scope pos) (some (.Name nm p3)) p2.line X.env = pure true := by exact sw_true rfl rfl rfl (by decide +kernel))
    (hgl : Gl X "range" := by rfl) (hse : starEach [e] X.env = (false, eval e X.env) :: starEach [] X.env := by rfl) (hs : ∀ x, foldedSetIterable (.Call (.Name "range" p) [e] [] apos) X.env x = pure x := by intro _; rfl) : wpS X (.Assign [.Name nm p3] (.ListComp elt [⟨tg, .Call (.Name "range" p) [e] [] apos, [], 0⟩] scope pos) p2) D σ H :=
  toS (ps_setLc (i := i) (tt := tYes) (te := fun σ H Q => ∀ (s : Shared) (H0 : Hp) (C : Addr) (cl : List (Str × Addr)) (fp : List Addr), wpE (X.blk s H0 scope (compEnvC scope cl C X.env) fp) elt σ H Q) hc hN hj hyl hsw pi_wp ok hg
      (fun s H0 C cl fp => pts_nil) (fun s H0 C cl fp => ⟨fun pins s1 σ1 H1 Q I q => q s H0 C cl fp pins s1 I⟩) hs) (lcmR_raw (Q := fun x H1 => gName i x σ H1 D.nx) hm hw h hgl hse)
end
section
variable {X : Cx} {σ : L2.St} {H G : Hp} {b : Expr} {rest : List Expr} {pos : Pos}
theorem ww_rest {k t : Bool} {Q : Bool → Hp → Prop} (h1 : k = true → EvW X (.BoolOp .And (b :: rest) pos) σ H G t) (h2 : k = false → t = false) (g : Ex G H) (kk : ∀ H2 G2, Rc [] H G H2 G2 → Q t H2) : if k = true then wpW X (.BoolOp .And (b :: rest) pos) σ H Q else Q false H := by
  cases k with
  | true => exact h1 rfl H G (Rc.refl g) Q kk
  | false =>
    have := kk H G (Rc.refl g)
    rw [h2 rfl] at this
    exact this
end
end PX

/-! PXl: lists of two different things, whose first one changes at the end; back to what stood before. -/
namespace PX
open PySem L2
structure Mix (α β : Type) where
  a : α
  b : β
instance {α β : Type} [Rep α] [Rep β] : Rep (Mix α β) where
  rel := fun K G v x => ∃ d u w, v = .ref d ∧ G d = some (.lst [u, w]) ∧ Rep.rel K G u x.a ∧ Rep.rel K G w x.b
  mono := fun e ⟨d, u, w, h1, h2, h3, h4⟩ => ⟨d, u, w, h1, e d _ h2, Rep.mono e h3, Rep.mono e h4⟩
theorem mix_ext {α β : Type} {x y : Mix α β} : x = y ↔ x.a = y.a ∧ x.b = y.b := by
  cases x
  cases y
  simp
instance {α β : Type} [PyD α] [PyD β] : PyD (Mix α β) where
  dq := fun x y => @decidable_of_iff _ _ mix_ext.symm (@instDecidableAnd _ _ (PyD.dq x.a y.a) (PyD.dq x.b y.b))
  py := fun x => .list [PyD.py x.a, PyD.py x.b]
  dep := max (PyD.dep α) (PyD.dep β) + 1
  dp := fun ⟨_, _, _, h1, h2, h3, h4⟩ => by
    subst h1
    exact .lst (.inl (.inl h2)) (.cons (PyD.dp h3) (.cons (PyD.dp h4) .nil))
  depOk := fun x => by
    have h1 := PyD.depOk x.a
    have h2 := PyD.depOk x.b
    simp only [PyData.depth, PyData.depthAll]
    omega
  lay := fun x => by simp [PyData.canLay0, PyData.canLayAll0, PyD.lay x.a, PyD.lay x.b]
  eqv := fun x y => by
    simp only [PyData.eqv, PyData.eqvAll, PyD.eqv]
    rw [Bool.eq_iff_iff]
    simp [mix_ext]
instance {α β : Type} [PyD α] [PyD β] : PyO (Mix α β) where
  isref := fun ⟨d, _, _, h, _⟩ => ⟨d, h⟩
section
variable {X : Cx} {σ : L2.St} {H G : Hp} {α β : Type} [Rep α] [Rep β] {a b : Expr} {pos : Pos} {x : α} {y : β}
theorem ev_mix (ha : EvX X a σ H G x) (hb : EvX X b σ H G y) (hs : starEach [a, b] X.env = (false, eval a X.env) :: starEach [b] X.env := by rfl) (hs2 : starEach [b] X.env = (false, eval b X.env) :: starEach [] X.env := by rfl) : EvX X (.List [a, b] pos) σ H G (⟨x, y⟩ : Mix α β) := fun H1 G1 s Q k =>
  toE (pe_lst (pa_cons pe_wp (pa_cons pe_wp pa_nil hs2) hs)) (show wpE X a σ H1 _ from ha H1 G1 s _ fun v H2 G2 s2 r2 => hb H2 G2 (s.trans s2) _ fun w H3 G3 s3 r3 => ⟨(by show 2 ≤ sizeLine; decide), fun p np =>
    k _ _ (upd G3 p (.lst [v, w])) ((s2.trans s3).trans (Rc.newG s3.sub np)) ⟨p, v, w, rfl, upd_same, Rep.mono (s3.ex.trans (Ex.new (none_back s3.sub np))) r2, Rep.mono (Ex.new (none_back s3.sub np)) r3⟩⟩)
/-- a new list of two, whose first one is a new list at p -/
def MixAt {α β : Type} [Rep α] [Rep β] (K : PySem.W.Frag) (G : Hp) (d p : Addr) (xs : List α) (y : β) : Prop := ∃ w vs, G d = some (.lst [.ref p, w]) ∧ G p = some (.lst vs) ∧ Rels K G vs xs ∧ Rep.rel K G w y
theorem MixAt.mono {K : PySem.W.Frag} {G G' : Hp} {d p : Addr} {xs : List α} (e : Ex G G') (h : MixAt K G d p xs y) : MixAt K G' d p xs y := by
  obtain ⟨w, vs, h1, h2, h3, h4⟩ := h
  exact ⟨w, vs, e _ _ h1, e _ _ h2, Rels.mono e h3, Rep.mono e h4⟩
theorem MixAt.rel {K : PySem.W.Frag} {G : Hp} {d p : Addr} {xs : List α} (h : MixAt K G d p xs y) : Rep.rel K G (.ref d) (⟨xs, y⟩ : Mix (List α) β) := by
  obtain ⟨w, vs, h1, h2, h3, h4⟩ := h
  exact ⟨d, .ref p, w, rfl, h1, ⟨p, vs, rfl, h2, h3⟩, h4⟩
theorem wp_mix {xs : List α} {Q : VK} (ha : EvN X a σ H G xs) (hb : EvX X b σ H G y) (g : Ex G H) (k : ∀ p d H2 G2, Rc [] H G H2 G2 → H p = none → H d = none → MixAt X.K G2 d p xs y → Q (.ref d) H2)
    (hs : starEach [a, b] X.env = (false, eval a X.env) :: starEach [b] X.env := by rfl) (hs2 : starEach [b] X.env = (false, eval b X.env) :: starEach [] X.env := by rfl) : wpE X (.List [a, b] pos) σ H Q :=
  toE (pe_lst (pa_cons pe_wp (pa_cons pe_wp pa_nil hs2) hs)) (show wpE X a σ H _ from ha H G (Rc.refl g) _ fun p H2 G2 s2 n2 o2 => by
    obtain ⟨vs, h1, h2, h3⟩ := o2
    have f2 : Rc [] H G H2 (upd G2 p (.lst vs)) := s2.freeze n2 h2 h1
    refine hb H2 _ f2 _ fun w H3 G3 s3 r3 => ⟨(by show 2 ≤ sizeLine; decide), fun d nd => ?_⟩
    have ng := none_back s3.sub nd
    refine k p d _ (upd G3 d (.lst [.ref p, w])) ((f2.trans s3).trans (Rc.newG s3.sub nd)) n2 (none_back (f2.trans s3).exH nd) ⟨w, vs, upd_same, ?_, ?_, Rep.mono (Ex.new ng) r3⟩
    · exact (s3.ex.trans (Ex.new ng)) _ _ upd_same
    · exact Rels.mono ((Ex.new h2).trans (s3.ex.trans (Ex.new ng))) h3)
end
/-- back to what stood for good ahead, what is new at p has changed -/
theorem Rc.roll {m : List Addr} {H0 G0 Ht Gt H G : Hp} {p : Addr} {o : HO} (a : Rc m H0 G0 Ht Gt) (b : Rc m H0 G0 H G) (x : Ex Gt G) (n : H0 p = none) (g : Gt p = none) : Rc m H0 G0 (upd H p o) Gt where
  ex := a.ex
  sub := fun c u e => by
    rw [upd_ne (ne_of_none e g)]
    exact b.sub c u (x c u e)
  keep := fun c u nc e => by
    rw [upd_ne (ne_of_none e n)]
    exact b.keep c u nc e
  dom := fun c u e => by
    obtain ⟨u', e'⟩ := b.dom c u e
    exact ⟨u', by rw [upd_ne (ne_of_none e n)]; exact e'⟩
  fr := a.fr
  tp := fun c u e t u' e' => by
    rw [upd_ne (ne_of_none e n)] at e'
    exact b.tp c u e t u' e'
theorem Own.roll {α : Type} [Rep α] {K : PySem.W.Frag} {Ht Gt H : Hp} {p q : Addr} {o : HO} {xs : List α} (h : Own K Ht Gt q xs) (k : ∀ u, Ht q = some u → H q = some u) (ne : q ≠ p) : Own K (upd H p o) Gt q xs := by
  obtain ⟨vs, h1, h2, h3⟩ := h
  exact ⟨vs, by rw [upd_ne ne]; exact k _ h1, h2, h3⟩
section
variable {X : Cx} {σ : L2.St} {H G : Hp} {i : Nat} {nm : Str} {p0 p1 p2 pos apos : Pos} {D : Ends} {α β : Type} [Rep α] [Rep β] {xs : List α} {y : β}
/-- xs[0].append("..") -/
theorem ws_app0 {d p : Addr} {t : Str} {j0 j1} (hs : σ[i]? = some (some (.ref d))) (g0 : Ex G H) (hm : MixAt X.K G d p xs y) (hz : xs.length < line)
    (k : ∀ H2 G2 o, Rc [] H G H2 G2 → D.nx σ (upd H2 p o))
    (hN : X.N[i]? = some nm := by rfl) (hv : Vis X.env.scope nm := by first | exact Or.inl rfl | exact Or.inr (Or.inl rfl) | exact Or.inr (Or.inr rfl)) (hd : (nm == ("__debug__" : Str)) = false := by decide) (hcd : (nm == ("__classdict__" : Str)) = false := by decide)
    (hbase : attributeBase (.Subscript (.Name nm p0) (.Constant (.int 0) j0 p1) p2) "append" X.env (eval (.Subscript (.Name nm p0) (.Constant (.int 0) j0 p1) p2) X.env) = eval (.Subscript (.Name nm p0) (.Constant (.int 0) j0 p1) p2) X.env := by rfl)
    {pe pS : Pos}
    (hfew : ((backTo pos (starEach [.Constant (.str t) j1 pe] X.env)).all (fun x => !x.1) && (backToKw pos (keywordEach [] X.env)).all (fun x => x.1.isSome) && decide ([Expr.Constant (.str t) j1 pe].length + ([] : List Keyword).length + (if ([] : List Keyword).isEmpty then 0 else 1) < 30)) = true := by rfl)
    (hline : (apos.endLine == pos.line) = true := by rfl) (hst : starEach [.Constant (.str t) j1 pe] X.env = (false, eval (.Constant (.str t) j1 pe) X.env) :: starEach [] X.env := by rfl) (hpl : (backTo pos (starEach [] X.env)).any (·.1) = false := by rfl)
    (hsw : swapsWith (.Call (.Attribute (.Subscript (.Name nm p0) (.Constant (.int 0) j0 p1) p2) "append" apos) [.Constant (.str t) j1 pe] [] pos) none pS.line X.env = pure false := by rfl) :
    wpS X (.Expr (.Call (.Attribute (.Subscript (.Name nm p0) (.Constant (.int 0) j0 p1) p2) "append" apos) [.Constant (.str t) j1 pe] [] pos) pS) D σ H := by
  obtain ⟨w, vs, h1, h2, h3, h4⟩ := hm
  refine ws_expr (toE (pe_bm PySem.F.plainAttrs_list PySem.F.slot_list_append PySem.F.type_list_append mt_append pe_wp (pa_cons pe_wp pa_nil hst) hbase hfew hline hst hpl) ?_) hsw
  show wpE X (.Subscript (.Name nm p0) (.Constant (.int 0) j0 p1) p2) σ H _
  refine wp_ix (wp_var hs ?_ hN hv hd hcd)
  refine ev_int (i := 0) H G (Rc.refl g0) _ fun v H1 G1 s1 r1 => ?_
  refine ⟨d, [.ref p, w], 0, .ref p, rfl, r1, .inl (.inl (s1.sub _ _ (s1.ex _ _ h1))), rfl, ?_⟩
  refine ⟨.inl ⟨rfl, _, .inl (.inl (s1.sub _ _ (s1.ex _ _ h2)))⟩, ?_⟩
  show wpE X (.Constant (.str t) j1 pe) σ H1 _
  refine ev_str (i := t) H1 G1 (Rc.refl s1.sub) _ fun v2 H2 G2 s2 r2 => ?_
  exact ⟨p, vs, v2, rfl, rfl, s2.sub _ _ (s2.ex _ _ (s1.ex _ _ h2)), by rw [Paired.len h3]; exact line_lt hz, k H2 G2 _ (s1.trans s2)⟩
end
/-- a list that was lent is ours again -/
theorem Rc.unlend {m : List Addr} {H G H2 G2 : Hp} {p : Addr} {o : HO} (s : Rc m H (upd G p o) H2 G2) (np : G p = none) : Rc m H G H2 G where
  ex := Ex.refl G
  sub := (Ex.new np).trans (s.ex.trans s.sub)
  keep := s.keep
  dom := s.dom
  fr := fun _ _ _ _ n => n
  tp := s.tp
theorem rels_scal {α : Type} [Scal α] {K : PySem.W.Frag} {G G' : Hp} {vs : List V} {xs : List α} (h : Rels K G vs xs) : Rels K G' vs xs := Paired.imp (fun _ _ q => scal_any q) h
theorem Own.unlend {α : Type} [Scal α] {K : PySem.W.Frag} {H G G2 : Hp} {q : Addr} {xs : List α} (o : Own K H G2 q xs) (x : Ex G G2) : Own K H G q xs := by
  obtain ⟨vs, h1, h2, h3⟩ := o
  exact ⟨vs, h1, none_back x h2, rels_scal h3⟩
end PX

/-! PXm: defs that yield; what they call; list(g(..)); xs.index(x). -/
namespace PX
open PySem L2
open PySem.Spec PyProof.Rows

/-! ### defs that keep their promise wherever they run -/
structure Cal0 (P : Program) (w : World) (K : PySem.W.Frag) (mg : Str → Option Value) (base : Heap) (nm : Str) (k : Nat) (ps : List Str) (sp : Sp) : Prop where
  ex : ∃ (f : Addr) (fd : FuncData), FnOk P w K mg base CX0 k f fd ps sp ∧ mg nm = some (.ref f) ∧ PySem.W.keepIn K (.ref f) = true ∧ Binds K fd ps []
section
variable {P : Program} {w : World} {K : PySem.W.Frag} {mg : Str → Option Value} {base : Heap} {k : Nat} {f : Addr} {fd : FuncData} {ps : List Str} {sp : Sp}
theorem defF {x qual : Str} {st : Stmt} {N : List Str} (F : Fun K x qual st f fd) (S : FnScope N ps (defScope st)) (len : ∀ vs H Q E, sp vs H Q E → vs.length = ps.length)
    (hbody : ∀ (cdv : Value) (A : Around) (outer : List Env) (s : Shared) (H : Hp) (vs : List V) (Q : VK) (E : XK), Room k (A.deeper (envOfC qual (defScope st) s.heap.objs.size f cdv)) → sp vs H Q E →
      wpB (cxOf CX0 P w K mg base N qual (defScope st) f cdv A outer s H E).nox (defBody st) { nx := fun _ H' => Q .non H', rt := Q } (start N vs) H) : FnOk P w K mg base CX0 (k + 1) f fd ps sp := by
  obtain ⟨oc, od, kV, doc, pm, an, cdv, ct, osl, rfl, lk, hcd⟩ := F.ex
  exact fn_of lk hcd S len fun A outer s H vs Q E r q => ⟨_, pss_wp, nox_B (hbody cdv A outer s H vs Q E r q)⟩
end
section
variable {X : Cx} {σ : L2.St} {H G : Hp} {γ τ : Type} [Rep γ] [ArgsR τ] {e : Expr} {es : List Expr} {pos p : Pos} {w : τ} {k j : Nat} {ps : List Str} {nm : Str}
theorem ec_V0 {fn : τ → Option γ} {r : γ} (C : Cal0 X.prog X.w X.K X.mg X.base nm k ps (spV fn X.K)) (hr : Room j X.A) (hk : k ≤ j) (h : fn w = some r) (ha : EvA X (e :: es) σ H G w)
    (hg : Gl X nm := by rfl) (hdb : (nm == ("__debug__" : Str)) = false := by decide) (he : starEach (e :: es) X.env = (false, eval e X.env) :: starEach es X.env := by rfl) (hpl : (backTo pos (starEach es X.env)).any (·.1) = false := by rfl) : EvX X (.Call (.Name nm p) (e :: es) [] pos) σ H G r := by
  obtain ⟨f, fd, F, c1, c2, c3⟩ := C.ex
  intro H1 G1 s Q q
  refine toE (pe_call F (hr.mono hk) hg c1 c2 c3 .nil pass0 pa_wp hdb he hpl) ?_
  show wpA X (e :: es) σ H1 _
  refine ha H1 G1 s _ fun vs H2 G2 s2 r2 => ?_
  show spV fn X.K (vs ++ []) H2 Q E0
  rw [List.append_nil]
  exact ⟨G2, w, r, s2.sub, r2, h, fun v H3 G3 s3 r3 => q v H3 G3 (s2.trans s3) r3⟩
/-- the call as a statement's expression -/
theorem wc0 {sp : Sp} {Q : VK} (C : Cal0 X.prog X.w X.K X.mg X.base nm k ps sp) (hr : Room j X.A) (hk : k ≤ j) (h : wpA X (e :: es) σ H fun vs H1 => sp vs H1 Q E0)
    (hg : Gl X nm := by rfl) (hdb : (nm == ("__debug__" : Str)) = false := by decide) (he : starEach (e :: es) X.env = (false, eval e X.env) :: starEach es X.env := by rfl) (hpl : (backTo pos (starEach es X.env)).any (·.1) = false := by rfl) : wpE X (.Call (.Name nm p) (e :: es) [] pos) σ H Q := by
  obtain ⟨f, fd, F, c1, c2, c3⟩ := C.ex
  refine toE (pe_call F (hr.mono hk) hg c1 c2 c3 .nil pass0 pa_wp hdb he hpl) ?_
  show wpA X (e :: es) σ H fun vs H1 => sp (vs ++ []) H1 Q E0
  have q : (fun vs H1 => sp (vs ++ []) H1 Q E0) = fun vs H1 => sp vs H1 Q E0 := by
    funext vs H1
    rw [List.append_nil]
  rw [q]
  exact h
end

/-! ### a body that yields -/
def wpGs (X : Cx) (sts : List Stmt) : TGn := fun D ys σ H =>
  ∀ (A : Around) (S : Addr) (ip : List (Addr × Obj)) (R : GenEnd) (n : Nat) (s₀ : Shared) (c : Code) (fs : List Frame) (K : Flow → Sem PySem.Fin) (J : Value → Sem PySem.Fin) (gd : Bool → Bool) (lv : List Value → List Value) (s : Shared),
    GC X S ip A c fs gd → n + ys.length = sizeLine → GK X S ip A R c fs K J D → GI X S ip ys σ H s → Seg (model X.prog X.w) A R (GY X S) n s₀ c ((execs sts X.env).wrap K J gd lv) fs s
section
variable {X : Cx} {st : Stmt} {sts rest : List Stmt} {D : GEnds} {ys : List V} {σ : L2.St} {H G : Hp}
theorem gss_wp : GSs X sts (wpGs X sts) := ⟨fun A S ip R n ys s₀ c fs K J gd lv s σ H D g hn k hI h => h A S ip R n s₀ c fs K J gd lv s g hn k hI⟩
theorem toGs {t : TGn} (h : GSs X sts t) (q : t D ys σ H) : wpGs X sts D ys σ H := fun A S ip R n s₀ c fs K J gd lv s g hn k hI => h.run A S ip R n ys s₀ c fs K J gd lv s σ H D g hn k hI q
theorem wg_nil (h : D.nx ys σ H) : wpGs X [] D ys σ H := toGs gss_nil h
theorem wg_cons (h : wpS X st { nx := fun σ H => wpGs X rest D ys σ H, rt := D.rt ys, bk := D.bk ys, ct := D.ct ys } σ H) : wpGs X (st :: rest) D ys σ H := toGs (gss_cons (gs_ps ps_wp) gss_wp) h
theorem wg_yield {γ : Type} [Rep γ] {e : Expr} {yp pos : Pos} {out zs : List γ} {x : γ} (h : EvX X e σ H G x) (g : Ex G H) (ry : Rels X.K G ys out) (ha : appO out x = some zs) (k : ∀ ys' H2 G2, Rc [] H G H2 G2 → Rels X.K G2 ys' zs → wpGs X rest D ys' σ H2)
    (hco : X.env.scope.isCoroutine = false := by rfl) (hi : interactive X.env = false := by rfl) : wpGs X (.Expr (.Yield (some e) yp) pos :: rest) D ys σ H := by
  obtain ⟨h1, h2⟩ := dite_some ha
  subst h2
  refine toGs (gss_cons (gs_yield pe_wp hco hi) gss_wp) ?_
  exact ⟨by rw [Paired.len ry]; exact line_lt h1, h.go g fun v H2 G2 s2 r2 => k _ H2 G2 s2 (Paired.append (Rels.mono s2.ex ry) (.cons r2 .nil))⟩
theorem wg_while {S γ : Type} [Rep γ] {test : S → Option Bool} {body : S × List γ → Option (Ctl Unit (S × List γ))} {n : Nat} {s0 : S} {out : List γ} {cc : Ctl Unit (S × List γ)} {c : Expr} {pos : Pos} (hp : PassesOwn (model X.prog X.w) X.A X.env X.xe)
    (h : whl (fun s => test s.1) body n (s0, out) = some cc) (I : S → L2.St → Hp → Hp → Prop) (h0 : I s0 σ H G) (ry : Rels X.K G ys out)
    (ht : ∀ s σ1 H1 G1 b, test s = some b → I s σ1 H1 G1 → wpT X c σ1 H1 fun b' H2 => b' = b ∧ ∃ G2, Rc [] H1 G1 H2 G2)
    (hm : ∀ s σ1 H1 G1 H2 G2, I s σ1 H1 G1 → Rc [] H1 G1 H2 G2 → I s σ1 H2 G2)
    (hb : ∀ s o σ1 H1 G1 c' ys, test s = some true → body (s, o) = some c' → I s σ1 H1 G1 → Rels X.K G1 ys o →
      wpGs X sts { nx := fun ys σ H => ∃ s' o' G, c' = .nx (s', o') ∧ I s' σ H G ∧ Rels X.K G ys o', rt := fun _ _ _ => False } ys σ1 H1)
    (k : ∀ s o ys σ1 H1 G1, cc = .nx (s, o) → I s σ1 H1 G1 → Rels X.K G1 ys o → wpGs X rest D ys σ1 H1) : wpGs X (.While c sts [] pos :: rest) D ys σ H := by
  refine toGs (gss_cons (gs_while hp pt_wp gss_wp) gss_wp) ?_
  refine ⟨fun m ys' σ' H' => ∃ s o G', I s σ' H' G' ∧ Rels X.K G' ys' o ∧ whl (fun s => test s.1) body m (s, o) = some cc, ⟨n, s0, out, G, h0, ry, h⟩, ?_⟩
  rintro m ys' σ' H' ⟨s, o, G', hI, ry', hf⟩
  cases m with
  | zero => cases hf
  | succ m =>
    obtain ⟨b, hb1, hf⟩ := bind_some hf
    refine wpT_mono ?_ (ht s σ' H' G' b hb1 hI)
    rintro b' H2 ⟨rfl, G2, s2⟩
    have hI2 := hm _ _ _ _ _ _ hI s2
    have ry2 := Rels.mono s2.ex ry'
    rcases cond_some hf with ⟨eb, hf⟩ | ⟨eb, hf⟩
    · subst eb
      rw [if_pos rfl]
      obtain ⟨c', hc', hf⟩ := bind_some hf
      refine ⟨fun ys1 σ1 H1 => ∃ s o G', I s σ1 H1 G' ∧ Rels X.K G' ys1 o ∧ whl (fun s => test s.1) body m (s, o) = some cc, fun ys1 σ1 H1 q => ⟨m, Nat.lt_succ_self m, q⟩, ?_⟩
      have q := hb s o σ' H2 G2 c' ys' hb1 hc' hI2 ry2
      intro A S ip R n s₀ c fs K J gd lv s1 g hn gk hI1
      refine q A S ip R n s₀ c fs K J gd lv s1 g hn ⟨fun n' ys1 s₁ s2 f hn' hs => ?_, gk.exc⟩ hI1
      refine gk.ok n' ys1 s₁ s2 f hn' ?_
      cases f with
      | next =>
        obtain ⟨σ3, H3, hg, s', o', G3, ec, k1, k2⟩ := hs
        subst ec
        exact ⟨σ3, H3, hg, s', o', G3, k1, k2, hf⟩
      | brk =>
        obtain ⟨σ3, H3, hg, z⟩ := hs
        exact z.elim
      | cont =>
        obtain ⟨σ3, H3, hg, z⟩ := hs
        exact z.elim
      | ret u =>
        obtain ⟨v, σ3, H3, hg, _, z⟩ := hs
        exact z.elim
    · subst eb
      rw [if_neg Bool.false_ne_true]
      exact k s o ys' σ' H2 G2 (Option.some.inj hf).symm hI2 ry2
end
/-- what a def hands out, one by one -/
def spG {γ τ : Type} [Rep γ] [ArgsR τ] (f : τ → Option (List γ)) (K : PySem.W.Frag) : SpG := fun vs H Q _ => ∃ G w r, Ex G H ∧ ArgsR.rel K G vs w ∧ f w = some r ∧ ∀ ys H2 G2, Rc [] H G H2 G2 → Rels K G2 ys r → Q ys H2
theorem lenG {γ τ : Type} [Rep γ] [ArgsR τ] {f : τ → Option (List γ)} {K : PySem.W.Frag} {n : Nat} (h : ArgsR.n τ = n) : ∀ vs H Q E, spG f K vs H Q E → vs.length = n := fun vs H Q E ⟨_, _, _, _, q, _⟩ => by rw [ArgsR.len q, h]
section
variable {P : Program} {w : World} {K : PySem.W.Frag} {mg : Str → Option Value} {base : Heap} {k : Nat} {f : Addr} {fd : FuncData} {ps : List Str} {sp : SpG}
theorem defY {x qual : Str} {st : Stmt} {N : List Str} (F : Fun K x qual st f fd) (S : GScope N ps (defScope st)) (len : ∀ vs H Q E, sp vs H Q E → vs.length = ps.length)
    (hbody : ∀ (cdv : Value) (A : Around) (outer : List Env) (s : Shared) (H : Hp) (vs : List V) (Q : List V → Hp → Prop) (E : XK) (pn : List (Addr × Obj)), Room k (A.deeper (envOfC qual (defScope st) s.heap.objs.size f cdv)) → sp vs H Q E →
      wpGs (gcxOf P w K mg base N qual (defScope st) f cdv A outer s H E pn) (defBody st) { nx := fun ys _ H' => Q ys H', rt := fun ys v H' => v = .non ∧ Q ys H' } [] (start N vs) H) : GFn P w K mg base (k + 1) f fd ps sp := by
  obtain ⟨oc, od, kV, doc, pm, an, cdv, ct, osl, rfl, lk, hcd⟩ := F.ex
  exact gfn_of lk hcd S len fun A outer s H vs Q E pn r q => ⟨_, gss_wp, hbody cdv A outer s H vs Q E pn r q⟩
structure CalG (P : Program) (w : World) (K : PySem.W.Frag) (mg : Str → Option Value) (base : Heap) (nm : Str) (k : Nat) (ps : List Str) (sp : SpG) : Prop where
  ex : ∃ (f : Addr) (fd : FuncData), GFn P w K mg base k f fd ps sp ∧ mg nm = some (.ref f) ∧ PySem.W.keepIn K (.ref f) = true ∧ Binds K fd ps []
end
section
variable {X : Cx} {σ : L2.St} {H G : Hp} {γ τ : Type} [Rep γ] [ArgsR τ] {e : Expr} {es : List Expr} {pos p pos2 p2 : Pos} {w : τ} {k j : Nat} {ps : List Str} {nm : Str}
theorem ev_listG {fn : τ → Option (List γ)} {r : List γ} (C : CalG X.prog X.w X.K X.mg X.base nm k ps (spG fn X.K)) (hr : Room j X.A) (hk : k + 3 ≤ j) (hm : X.mg "list" = none) (h : fn w = some r) (ha : EvA X (e :: es) σ H G w)
    (hg : Gl X nm := by rfl) (hgl : Gl X "list" := by rfl) (hdb : (nm == ("__debug__" : Str)) = false := by decide) (he : starEach (e :: es) X.env = (false, eval e X.env) :: starEach es X.env := by rfl) (hpl : (backTo pos (starEach es X.env)).any (·.1) = false := by rfl)
    (he2 : starEach [.Call (.Name nm p) (e :: es) [] pos] X.env = (false, eval (.Call (.Name nm p) (e :: es) [] pos) X.env) :: starEach [] X.env := by rfl) : EvN X (.Call (.Name "list" p2) [.Call (.Name nm p) (e :: es) [] pos] [] pos2) σ H G r := by
  obtain ⟨f, fd, F, c1, c2, c3⟩ := C.ex
  intro H1 G1 s Q q
  have pg := pgen_call (E := E0) (pos' := pos) (p := p) F (hr.mono (by omega)) hg c1 c2 c3 .nil (pa_wp (es := e :: es)) hdb he hpl
  refine toE (pe_listG pg (fun _ _ _ _ _ _ _ z => ?_) (fun _ _ _ z => z.elim) (hr.mono hk) hgl hm (by decide +kernel) (by decide) (by decide) he2) ?_
  · obtain ⟨_, _, _, _, _, _, _, _, _, _, _, _, z⟩ := z
    exact z.elim
  show wpA X (e :: es) σ H1 _
  refine ha H1 G1 s _ fun vs H2 G2 s2 r2 => ?_
  show spG fn X.K (vs ++ []) H2 _ E0
  rw [List.append_nil]
  exact ⟨G2, w, r, s2.sub, r2, h, fun ys H3 G3 s3 r3 d nd => q d _ G3 ((s2.trans s3).trans (Rc.new s3.sub nd)) (none_back (s2.trans s3).exH nd) (Own.mk s3.sub nd r3)⟩
end
/-! ### xs.index(x) -/
def indO (xs : List Int) (x : Int) : Option Int := if x ∈ xs then some (xs.idxOf x : Nat) else none
theorem idx_flat {xs : List Int} {x : Int} (h : x ∈ xs) : xs[xs.idxOf x]? = some x ∧ ∀ m y, m < xs.idxOf x → xs[m]? = some y → y ≠ x := by
  refine ⟨?_, fun m y hm hy e => ?_⟩
  · have := List.idxOf_lt_length_of_mem h
    rw [List.getElem?_eq_getElem this, List.getElem_idxOf this]
  · subst e
    have := List.idxOf_lt_length_of_mem h
    have hm2 : m < xs.length := by omega
    have hz : xs[m] = y := by
      rw [List.getElem?_eq_getElem hm2] at hy
      exact Option.some.inj hy
    have := List.not_of_lt_findIdx (p := fun z => z == y) (xs := xs) (i := m) hm
    rw [hz] at this
    simp at this
section
variable {X : Cx} {σ : L2.St} {H G : Hp} {e o : Expr} {apos cpos : Pos}
theorem ev_index {xs : List Int} {x r : Int} (h : indO xs x = some r) (ho : EvX X o σ H G xs) (ha : EvX X e σ H G x)
    (hbase : attributeBase o "index" X.env (eval o X.env) = eval o X.env := by rfl)
    (hfew : ((backTo cpos (starEach [e] X.env)).all (fun x => !x.1) && (backToKw cpos (keywordEach [] X.env)).all (fun x => x.1.isSome) && decide ([e].length + ([] : List Keyword).length + (if ([] : List Keyword).isEmpty then 0 else 1) < 30)) = true := by rfl)
    (hline : (apos.endLine == cpos.line) = true := by rfl) (hst : starEach [e] X.env = (false, eval e X.env) :: starEach [] X.env := by rfl) (hpl : (backTo cpos (starEach [] X.env)).any (·.1) = false := by rfl) :
    EvX X (.Call (.Attribute o "index" apos) [e] [] cpos) σ H G r := by
  obtain ⟨h1, h2⟩ := dite_some h
  subst h2
  intro H1 G1 s Q q
  refine toE (pe_bm PySem.F.plainAttrs_list PySem.F.slot_list_index PySem.F.type_list_index mt_index pe_wp (pa_cons pe_wp pa_nil hst) hbase hfew hline hst hpl) ?_
  show wpE X o σ H1 _
  refine ho H1 G1 s _ fun v H2 G2 s2 r2 => ?_
  obtain ⟨b, vs, q1, q2, q3⟩ := r2
  subst q1
  refine ⟨.inl ⟨rfl, _, .inl (.inl (s2.sub _ _ q2))⟩, ?_⟩
  show wpE X e σ H2 _
  refine ha H2 G2 (s.trans s2) _ fun u H3 G3 s3 r3 => ?_
  obtain rfl : u = V.int x := r3
  rw [rels_int q3] at q2
  obtain ⟨i1, i2⟩ := idx_flat h1
  refine ⟨b, xs.map V.int, .int x, xs.idxOf x, .int x, rfl, rfl, .inl (.inl (s3.sub _ _ (s3.ex _ _ q2))), rfl, flat_int, by rw [List.getElem?_map, i1]; rfl, by simp [eqV], fun m z' hm hz => ?_, q _ H3 G3 (s2.trans s3) rfl⟩
  rw [List.getElem?_map] at hz
  cases hy : xs[m]? with
  | none =>
    rw [hy] at hz
    cases hz
  | some y =>
    rw [hy] at hz
    obtain rfl : V.int y = z' := Option.some.inj hz
    have := i2 m y hm hy
    simp [eqV, this]
end
end PX

/-! PM: the mathematics of rows and times, apart from any program. -/
namespace PX
open PySem L2

/-! ### loops of mirrors -/
theorem forL_inv {ι ρ S : Type} {body : ι → S → Option (Ctl ρ S)} {items : List ι} {s0 : S} (I : Nat → S → Prop) (h0 : I 0 s0)
    (step : ∀ i x s, items[i]? = some x → I i s → ∃ s', body x s = some (.nx s') ∧ I (i + 1) s') : ∃ s, forL body items s0 = some (.nx s) ∧ I items.length s := by
  suffices H : ∀ (l : List ι) (i : Nat) (s : S), items.drop i = l → I i s → ∃ s', forL body l s = some (.nx s') ∧ I (i + l.length) s' by
    obtain ⟨s, h1, h2⟩ := H items 0 s0 (List.drop_zero ..) h0
    rw [Nat.zero_add] at h2
    exact ⟨s, h1, h2⟩
  intro l
  induction l with
  | nil =>
    intro i s hd hI
    exact ⟨s, rfl, hI⟩
  | cons x r ih =>
    intro i s hd hI
    have hx : items[i]? = some x := by
      have := congrArg (fun z => z[0]?) hd
      simpa using this
    obtain ⟨s', h1, h2⟩ := step i x s hx hI
    have hd' : items.drop (i + 1) = r := by
      have := congrArg (fun z => z.drop 1) hd
      simpa [List.drop_drop, Nat.add_comm] using this
    obtain ⟨s2, h3, h4⟩ := ih (i + 1) s' hd' h2
    refine ⟨s2, ?_, ?_⟩
    · show Option.bind (body x s) _ = _
      rw [h1]
      exact h3
    · rw [List.length_cons]
      have e : i + (r.length + 1) = i + 1 + r.length := by omega
      rw [e]
      exact h4
/-- a loop that may hand back: either it goes through, or it hands back at some item -/
theorem forL_all {ι ρ S : Type} {body : ι → S → Option (Ctl ρ S)} {items : List ι} {s0 : S} (I : S → Prop) (h0 : I s0)
    (step : ∀ x s, x ∈ items → I s → ∃ s', body x s = some (.nx s') ∧ I s') : ∃ s, forL body items s0 = some (.nx s) ∧ I s := by
  induction items generalizing s0 with
  | nil => exact ⟨s0, rfl, h0⟩
  | cons x r ih =>
    obtain ⟨s', h1, h2⟩ := step x s0 List.mem_cons_self h0
    obtain ⟨s2, h3, h4⟩ := ih h2 fun y s hy => step y s (List.mem_cons_of_mem _ hy)
    refine ⟨s2, ?_, h4⟩
    show Option.bind (body x s0) _ = _
    rw [h1]
    exact h3
theorem whl_inv {ρ S : Type} {test : S → Option Bool} {body : S → Option (Ctl ρ S)} (I Q : S → Prop) (μ : S → Nat)
    (step : ∀ s, I s → ∃ b, test s = some b ∧ (b = true → ∃ s', body s = some (.nx s') ∧ I s' ∧ μ s' < μ s) ∧ (b = false → Q s)) : ∀ (n : Nat) (s0 : S), I s0 → μ s0 < n → ∃ s, whl test body n s0 = some (.nx s) ∧ I s ∧ Q s := by
  intro n
  induction n with
  | zero => intro s0 _ h; omega
  | succ n ih =>
    intro s0 h0 hn
    obtain ⟨b, hb, h1, h2⟩ := step s0 h0
    cases b with
    | true =>
      obtain ⟨s', hs, hi, hm⟩ := h1 rfl
      obtain ⟨s, h3, h4, h5⟩ := ih s' hi (by omega)
      refine ⟨s, ?_, h4, h5⟩
      show Option.bind (test s0) _ = _
      rw [hb]
      show Option.bind (body s0) _ = _
      rw [hs]
      exact h3
    | false =>
      refine ⟨s0, ?_, h0, h2 rfl⟩
      show Option.bind (test s0) _ = _
      rw [hb]
      rfl
theorem lcO_map {ι β : Type} {f : ι → Option β} {g : ι → β} : ∀ (l : List ι), (∀ x ∈ l, f x = some (g x)) → lcO (fun _ => some true) f l = some (l.map g)
  | [], _ => rfl
  | x :: r, h => by
    show Option.bind (f x) (fun y => Option.bind (lcO (fun _ => some true) f r) fun ys => some (y :: ys)) = _
    rw [h x List.mem_cons_self, lcO_map r fun y hy => h y (List.mem_cons_of_mem _ hy)]
    rfl
theorem lcO_filter {ι β : Type} {c : ι → Option Bool} {f : ι → Option β} {p : ι → Bool} {g : ι → β} : ∀ (l : List ι), (∀ x ∈ l, c x = some (p x)) → (∀ x ∈ l, p x = true → f x = some (g x)) → lcO c f l = some ((l.filter p).map g)
  | [], _, _ => rfl
  | x :: r, h, k => by
    have ih := lcO_filter (c := c) (f := f) r (fun y hy => h y (List.mem_cons_of_mem _ hy)) (fun y hy => k y (List.mem_cons_of_mem _ hy))
    show Option.bind (c x) _ = _
    rw [h x List.mem_cons_self]
    cases hp : p x with
    | true =>
      show Option.bind (f x) _ = _
      rw [k x List.mem_cons_self hp, List.filter_cons_of_pos hp, List.map_cons]
      show Option.bind (lcO c f r) _ = _
      rw [ih]
      rfl
    | false =>
      rw [List.filter_cons_of_neg (by rw [hp]; exact Bool.false_ne_true)]
      exact ih

/-! ### lists by places -/
def nth (xs : List Int) (i : Nat) : Int := xs[i]?.getD 0
theorem nth_some {xs : List Int} {i : Nat} (h : i < xs.length) : xs[i]? = some (nth xs i) := by
  unfold nth
  rw [List.getElem?_eq_getElem h]
  rfl
theorem nth_of {xs : List Int} {i : Nat} {x : Int} (h : xs[i]? = some x) : nth xs i = x := by
  unfold nth
  rw [h]
  rfl
theorem ix_nat {xs : List Int} {i : Nat} (h : i < xs.length) : ix xs (i : Int) = some (nth xs i) := atI_nat (nth_some h)
theorem ix_int {xs : List Int} {z : Int} (h0 : 0 ≤ z) (h : z < xs.length) : ix xs z = some (nth xs z.toNat) := by
  have e : z = (z.toNat : Int) := by omega
  rw [e]
  exact ix_nat (by omega)
theorem ix_last {xs : List Int} {x : Int} : ix (xs ++ [x]) (-1) = some x := atI_last xs x
theorem popO_last {xs : List Int} {x : Int} : popO (xs ++ [x]) = some (x, xs) := by
  unfold popO
  rw [List.getLast?_concat]
  show some (x, (xs ++ [x]).dropLast) = _
  rw [List.dropLast_concat]
theorem ixN_nat {n i : Nat} (h : i < n) : ixN n (i : Int) = some i := by
  unfold ixN
  rw [if_pos (by omega), if_pos (by omega)]
  simp
theorem setO_nat {α : Type} {xs : List α} {i : Nat} {x : α} (h : i < xs.length) : setO xs (i : Int) x = some (xs.set i x) := by
  unfold setO
  rw [ixN_nat h]
  rfl
theorem nth_set {xs : List Int} {i j : Nat} {x : Int} (h : i < xs.length) : nth (xs.set i x) j = if i = j then x else nth xs j := by
  unfold nth
  rw [List.getElem?_set]
  by_cases c : i = j
  · subst c
    rw [if_pos rfl, if_pos rfl, if_pos h]
    rfl
  · rw [if_neg c, if_neg c]
theorem nth_app {xs ys : List Int} {j : Nat} (h : j < xs.length) : nth (xs ++ ys) j = nth xs j := by
  unfold nth
  rw [List.getElem?_append_left h]
theorem nth_app2 {xs ys : List Int} {j : Nat} (h : xs.length ≤ j) : nth (xs ++ ys) j = nth ys (j - xs.length) := by
  unfold nth
  rw [List.getElem?_append_right h]
theorem ext_nth {xs ys : List Int} (hl : xs.length = ys.length) (h : ∀ i < xs.length, nth xs i = nth ys i) : xs = ys := by
  apply List.ext_getElem? 
  intro i
  by_cases c : i < xs.length
  · rw [nth_some c, nth_some (by omega), h i c]
  · rw [List.getElem?_eq_none (by omega), List.getElem?_eq_none (by omega)]
theorem enumI_get {α : Type} {xs : List α} {i : Nat} {x : Int × α} (h : (enumI xs)[i]? = some x) : i < xs.length ∧ x.1 = (i : Int) ∧ xs[i]? = some x.2 := by
  unfold enumI at h
  rw [List.getElem?_map, List.getElem?_zipIdx] at h
  cases e : xs[i]? with
  | none =>
    rw [e] at h
    cases h
  | some y =>
    rw [e] at h
    have ex : (((0 + i : Nat) : Int), y) = x := Option.some.inj h
    subst ex
    exact ⟨(List.getElem?_eq_some_iff.mp e).1, by rw [Nat.zero_add], rfl⟩
theorem enumI_length {α : Type} {xs : List α} : (enumI xs).length = xs.length := by
  unfold enumI
  rw [List.length_map, List.length_zipIdx]
theorem catO_ok {α : Type} {xs ys : List α} (h : xs.length + ys.length ≤ line) : catO xs ys = some (xs ++ ys) := if_pos h
theorem appO_ok {α : Type} {xs : List α} {x : α} (h : xs.length < line) : appO xs x = some (xs ++ [x]) := if_pos h
theorem rngO_ok0 {n : Nat} (h : n ≤ line) : rngO 0 (n : Int) = some ((List.range n).map fun (i : Nat) => (i : Int)) := by
  have e : (line : Int) = 16000000 := rfl
  unfold rngO
  rw [if_pos (by refine ⟨?_, ?_, ?_, ?_, ?_⟩ <;> omega)]
  unfold rng
  rw [Int.sub_zero, Int.toNat_natCast]
  congr 1
  apply List.map_congr_left
  intro i _
  omega

/-! ### what an entry sees; the times -/
def Sees (e : Nat → Int) (n j k : Nat) : Prop := k < n ∧ k ≠ j ∧ ∀ m, (j < m ∧ m ≤ k) ∨ (k ≤ m ∧ m < j) → e j < e m
def Eqn (e r : Nat → Int) (n j : Nat) : Prop := 1 ≤ r j ∧ (∀ k, Sees e n j k → r k < r j) ∧ (r j = 1 ∨ ∃ k, Sees e n j k ∧ r k + 1 = r j)
/-- ts are the times of row -/
def IsT (row ts : List Int) : Prop := ts.length = row.length ∧ ∀ j, j < row.length → Eqn (nth row) (nth ts) row.length j
theorem eqn_unique {e r r' : Nat → Int} {n : Nat} (h : ∀ j < n, Eqn e r n j) (h' : ∀ j < n, Eqn e r' n j) : ∀ j < n, r j = r' j := by
  suffices H : ∀ (m : Nat) (j : Nat), j < n → r j ≤ m → r j = r' j by
    intro j hj
    exact H (r j).toNat j hj (by omega)
  intro m
  induction m with
  | zero =>
    intro j hj hm
    have := (h j hj).1
    omega
  | succ m ih =>
    intro j hj hm
    obtain ⟨a1, a2, a3⟩ := h j hj
    obtain ⟨b1, b2, b3⟩ := h' j hj
    have up : r' j ≤ r j := by
      rcases b3 with b3 | ⟨k, hk, e1⟩
      · omega
      · have := a2 k hk
        have := ih k hk.1 (by omega)
        omega
    rcases a3 with a3 | ⟨k, hk, e1⟩
    · omega
    · have e2 := ih k hk.1 (by omega)
      have := b2 k hk
      omega
theorem IsT.unique {row ts ts' : List Int} (h : IsT row ts) (h' : IsT row ts') : ts = ts' :=
  ext_nth (h.1.trans h'.1.symm) fun i hi => eqn_unique h.2 h'.2 i (by rw [← h.1]; exact hi)
end PX

/-! PN: what a stack of waiting places keeps, while the times of a row are found. -/
namespace PX
open PySem L2

/-- kept out of omega's sight -/
structure Box (p : Prop) : Prop where
  out : p

def lo : List Nat → Nat
  | [] => 0
  | t :: _ => t + 1
def SK (e r : Nat → Int) : Nat → List Nat → Prop
  | _, [] => True
  | hi, w :: rest => w < hi ∧ lo rest ≤ w ∧ (∀ k, lo rest ≤ k → k < w → e w < e k) ∧ (∀ t, rest.head? = some t → e t ≤ e w) ∧ Eqn e r hi w ∧ SK e r w rest
def Closed (e r : Nat → Int) (N p : Nat) (ws : List Nat) : Prop := ∀ j, j < p → j ∉ ws → (∀ k, Sees e N j k → k < p ∧ k ∉ ws) ∧ Eqn e r N j
def Top (e : Nat → Int) (p : Nat) (g : Int) (r : Nat → Int) (ws : List Nat) : Prop :=
  0 ≤ g ∧ (∀ k, lo ws ≤ k → k < p → r k ≤ g ∧ e p < e k) ∧ (g = 0 ∨ ∃ k, lo ws ≤ k ∧ k < p ∧ r k = g) ∧ (∀ t, ws.head? = some t → ∀ k, t < k → k < p → e t ≤ e k)

theorem eqn_congr {e r r' : Nat → Int} {n j : Nat} (hj : r' j = r j) (h : ∀ k, Sees e n j k → r' k = r k) (q : Eqn e r n j) : Eqn e r' n j := by
  obtain ⟨a, b, c⟩ := q
  refine ⟨by omega, fun k hk => ?_, ?_⟩
  · have := h k hk
    have := b k hk
    omega
  · rcases c with c | ⟨k, hk, d⟩
    · exact Or.inl (by omega)
    · exact Or.inr ⟨k, hk, by have := h k hk; omega⟩
/-- the same things are seen -/
theorem eqn_sees {e r : Nat → Int} {n n' j : Nat} (h : ∀ k, Sees e n j k ↔ Sees e n' j k) (q : Eqn e r n j) : Eqn e r n' j := by
  obtain ⟨a, b, c⟩ := q
  refine ⟨a, fun k hk => b k ((h k).mpr hk), ?_⟩
  rcases c with c | ⟨k, hk, d⟩
  · exact Or.inl c
  · exact Or.inr ⟨k, (h k).mp hk, d⟩
theorem SK.congr {e r r' : Nat → Int} : ∀ {ws : List Nat} {hi : Nat}, (∀ k, k < hi → r' k = r k) → SK e r hi ws → SK e r' hi ws
  | [], _, _, _ => trivial
  | w :: rest, hi, h, ⟨a, b, c, d, q, s⟩ =>
    ⟨a, b, c, d, eqn_congr (h w a) (fun k hk => h k hk.1) q, SK.congr (fun k hk => h k (Nat.lt_trans hk a)) s⟩
theorem SK.mem {e r : Nat → Int} : ∀ {rest : List Nat} {w hi : Nat}, SK e r hi (w :: rest) → ∀ k, k ∈ rest → k < w ∧ e k ≤ e w
  | [], _, _, _, _, h => absurd h List.not_mem_nil
  | t :: rest, w, hi, ⟨a, b, c, d, q, s⟩, k, h => by
    have hb : t + 1 ≤ w := b
    have hd := d t rfl
    rcases List.mem_cons.mp h with rfl | h
    · exact ⟨by omega, hd⟩
    · have := SK.mem s k h
      exact ⟨by omega, by omega⟩
theorem SK.len {e r : Nat → Int} : ∀ {ws : List Nat} {hi : Nat}, SK e r hi ws → ws.length ≤ hi
  | [], _, _ => Nat.zero_le _
  | w :: rest, hi, ⟨a, b, c, d, q, s⟩ => by
    have := SK.len s
    rw [List.length_cons]
    omega

/-- what is closed by the place p -/
theorem sees_p {e : Nat → Int} {N p w k : Nat} (hw : w < p) (hp : p ≤ N) (h : p < N → e p ≤ e w) : Sees e N w k ↔ Sees e p w k := by
  constructor
  · rintro ⟨a, b, c⟩
    refine ⟨?_, b, c⟩
    by_cases hk : k < p
    · exact hk
    · have := c p (Or.inl ⟨hw, by omega⟩)
      have := h (by omega)
      omega
  · rintro ⟨a, b, c⟩
    exact ⟨by omega, b, c⟩

/-- the top ends at p -/
theorem pop_closed {e r : Nat → Int} {N p w : Nat} {rest : List Nat} (hp : p < N) (hs : SK e r p (w :: rest)) (hc : Closed e r N p (w :: rest)) (he : e p < e w) : Closed e r N p rest := by
  intro j hj hn
  by_cases c : j = w
  · subst c
    refine ⟨fun k hk => ?_, eqn_sees (fun k => (sees_p hj (by omega) fun _ => by omega).symm) hs.2.2.2.2.1⟩
    refine ⟨((sees_p hj (by omega) fun _ => by omega).mp hk).1, fun hm => ?_⟩
    have h1 := hs.mem k hm
    have h2 := hk.2.2 k (Or.inr ⟨Nat.le_refl _, h1.1⟩)
    omega
  · obtain ⟨a, b⟩ := hc j hj (fun h => (List.mem_cons.mp h).elim c hn)
    exact ⟨fun k hk => ⟨(a k hk).1, fun h => (a k hk).2 (List.mem_cons_of_mem _ h)⟩, b⟩
theorem pop_top {e r : Nat → Int} {p w : Nat} {g : Int} {rest : List Nat} (hs : SK e r p (w :: rest)) (ht : Top e p g r (w :: rest)) (he : e p < e w) : Top e p (max g (r w)) r rest := by
  obtain ⟨g0, g1, g2, g3⟩ := ht
  obtain ⟨a, b, c, d, q, s⟩ := hs
  have q1 := q.1
  have g3' := g3 w rfl
  have g1' : ∀ k, w + 1 ≤ k → k < p → r k ≤ g ∧ e p < e k := g1
  refine ⟨by omega, fun k h1 h2 => ?_, ?_, fun t h k h1 h2 => ?_⟩
  · rcases Nat.lt_trichotomy k w with h | h | h
    · have hv : Sees e p w k := ⟨h2, by omega, fun m hm => by
        rcases hm with hm | hm
        · omega
        · exact c m (by omega) hm.2⟩
      have := q.2.1 k hv
      have := c k h1 h
      exact ⟨by omega, by omega⟩
    · subst h
      exact ⟨by omega, he⟩
    · have := g1' k h h2
      exact ⟨by omega, this.2⟩
  · by_cases hm : g ≤ r w
    · exact Or.inr ⟨w, b, a, by omega⟩
    · rcases g2 with g2 | ⟨k, k1, k2, k3⟩
      · omega
      · have k1' : w + 1 ≤ k := k1
        exact Or.inr ⟨k, by omega, k2, by omega⟩
  · have hd := d t h
    have hlo : lo rest = t + 1 := by
      cases rest with
      | nil => cases h
      | cons x y =>
        have : x = t := Option.some.inj h
        subst this
        rfl
    rcases Nat.lt_trichotomy k w with h3 | h3 | h3
    · have := c k (by omega) h3
      omega
    · subst h3
      omega
    · have := g3' k h3 h2
      omega
/-- the next one waits on: it has not seen past the ended one -/
theorem pop_same {e r : Nat → Int} {p w t : Nat} {rest : List Nat} (hs : SK e r p (w :: t :: rest)) (hn : ¬ e t < e w) : SK e r p (t :: rest) := by
  obtain ⟨a, b, c, d, q, s⟩ := hs
  obtain ⟨a', b', c', d', q', s'⟩ := s
  refine ⟨by omega, b', c', d', eqn_sees (fun k => (sees_p a' (by omega) fun _ => by omega).symm) q', s'⟩
/-- the next one sees the ended one, and all behind it -/
theorem pop_more {e r r' : Nat → Int} {p w t : Nat} {g : Int} {rest : List Nat} (hs : SK e r p (w :: t :: rest)) (ht : Top e p g r (w :: t :: rest)) (he : e p < e w) (hn : e t < e w) (hr : ∀ k, k ≠ t → r' k = r k)
    (hu : r' t = max (r t) (max g (r w) + 1)) : SK e r' p (t :: rest) := by
  have hT := pop_top hs ht he
  obtain ⟨a, b, c, d, q, s⟩ := hs
  obtain ⟨a', b', c', d', q', s'⟩ := s
  have b2 : t + 1 ≤ w := b
  have c2 : ∀ k, t + 1 ≤ k → k < w → e w < e k := c
  have T1 : ∀ k, t + 1 ≤ k → k < p → r k ≤ max g (r w) ∧ e p < e k := hT.2.1
  have g3 := ht.2.2.2 w rfl
  have rw1 := q.1
  have rt1 := q'.1
  have hd := d t rfl
  have gt : ∀ k, t < k → k < p → e t < e k := by
    intro k h1 h2
    rcases Nat.lt_trichotomy k w with h | h | h
    · have := c2 k h1 h
      omega
    · subst h
      exact hn
    · have := g3 k h h2
      omega
  generalize hG : max g (r w) = G at *
  have hG1 : 1 ≤ G := by omega
  have T2 : Box _ := ⟨hT.2.2.1⟩
  have q2 := q'.2.1
  have q3 : Box _ := ⟨q'.2.2⟩
  clear hT q' q ht
  refine ⟨by omega, b', c', d', ⟨by omega, fun k hk => ?_, ?_⟩, s'.congr fun k hk => hr k (by omega)⟩
  · rw [hr k hk.2.1, hu]
    by_cases h : k < t
    · have := q2 k ⟨by omega, hk.2.1, hk.2.2⟩
      omega
    · have := (T1 k (by have := hk.2.1; omega) hk.1).1
      omega
  · by_cases hm : r t ≤ G
    · right
      rcases T2.out with T2 | ⟨k, k1, k2, k3⟩
      · omega
      · have k1' : t + 1 ≤ k := k1
        refine ⟨k, ⟨k2, by omega, fun m hm => ?_⟩, ?_⟩
        · rcases hm with hm | hm
          · exact gt m hm.1 (by omega)
          · omega
        · rw [hr k (by omega), hu]
          omega
    · rcases q3.out with q3 | ⟨k, hk, q3⟩
      · omega
      · right
        refine ⟨k, ⟨by have := hk.1; omega, hk.2.1, hk.2.2⟩, ?_⟩
        rw [hr k hk.2.1, hu]
        omega
/-- what is closed stays, if only a waiting place changes -/
theorem closed_congr {e r r' : Nat → Int} {N p : Nat} {ws : List Nat} (hc : Closed e r N p ws) (h : ∀ k, k < p → k ∉ ws → r' k = r k) : Closed e r' N p ws := by
  intro j hj hn
  obtain ⟨a, b⟩ := hc j hj hn
  exact ⟨a, eqn_congr (h j hj hn) (fun k hk => h k (a k hk).1 (a k hk).2) b⟩
theorem top_congr {e r r' : Nat → Int} {p : Nat} {g : Int} {ws : List Nat} (h : ∀ k, lo ws ≤ k → k < p → r' k = r k) (ht : Top e p g r ws) : Top e p g r' ws := by
  obtain ⟨a, b, c, d⟩ := ht
  refine ⟨a, fun k h1 h2 => by rw [h k h1 h2]; exact b k h1 h2, ?_, d⟩
  rcases c with c | ⟨k, k1, k2, k3⟩
  · exact Or.inl c
  · exact Or.inr ⟨k, k1, k2, by rw [h k k1 k2]; exact k3⟩
/-- p begins to wait -/
theorem push {e r r' : Nat → Int} {N p : Nat} {g : Int} {ws : List Nat} (hp : p < N) (hs : SK e r p ws) (hc : Closed e r N p ws) (ht : Top e p g r ws) (hx : ∀ t, ws.head? = some t → e t ≤ e p) (hr : ∀ k, k ≠ p → r' k = r k)
    (hu : r' p = g + 1) : SK e r' (p + 1) (p :: ws) ∧ Closed e r' N (p + 1) (p :: ws) := by
  have hlo : lo ws ≤ p := by
    cases ws with
    | nil => exact Nat.zero_le _
    | cons t _ => exact hs.1
  obtain ⟨T0, T1, T2, T3⟩ := ht
  have vis : ∀ k, Sees e (p + 1) p k → lo ws ≤ k ∧ k < p := by
    intro k hk
    refine ⟨?_, by have := hk.1; have := hk.2.1; omega⟩
    cases ws with
    | nil => exact Nat.zero_le _
    | cons t _ =>
      by_cases c : t + 1 ≤ k
      · exact c
      · have h1 := hx t rfl
        have h2 := hs.1
        have h3 := hk.2.2 t (Or.inr ⟨by omega, h2⟩)
        omega
  refine ⟨⟨Nat.lt_succ_self _, hlo, fun k h1 h2 => (T1 k h1 h2).2, hx, ⟨by omega, fun k hk => ?_, ?_⟩, hs.congr fun k hk => hr k (by omega)⟩, fun j hj hn => ?_⟩
  · have h := vis k hk
    rw [hr k (by omega), hu]
    have := (T1 k h.1 h.2).1
    omega
  · rcases T2 with T2 | ⟨k, k1, k2, k3⟩
    · exact Or.inl (by omega)
    · refine Or.inr ⟨k, ⟨by omega, by omega, fun m hm => ?_⟩, ?_⟩
      · rcases hm with hm | hm
        · omega
        · exact (T1 m (by omega) hm.2).2
      · rw [hr k (by omega), hu]
        omega
  · have hj' : j < p := by
      have : j ≠ p := fun h => hn (h ▸ List.mem_cons_self)
      omega
    obtain ⟨a, b⟩ := hc j hj' fun h => hn (List.mem_cons_of_mem _ h)
    refine ⟨fun k hk => ⟨by have := (a k hk).1; omega, fun h => ?_⟩, eqn_congr (hr j (by omega)) (fun k hk => hr k (by have := (a k hk).1; omega)) b⟩
    have := a k hk
    rcases List.mem_cons.mp h with rfl | h
    · omega
    · exact this.2 h
end PX

/-! PO: what a mirror comes to. -/
namespace PX
open PySem L2

def Ok {α : Type} (x : Option α) (P : α → Prop) : Prop := ∃ a, x = some a ∧ P a
theorem Ok.ret {α : Type} {a : α} {P : α → Prop} (h : P a) : Ok (some a) P := ⟨a, rfl, h⟩
theorem Ok.is {α : Type} {x : Option α} {a : α} {P : α → Prop} (h : x = some a) (p : P a) : Ok x P := ⟨a, h, p⟩
theorem Ok.bind {α β : Type} {x : Option α} {f : α → Option β} {P : α → Prop} {Q : β → Prop} (h : Ok x P) (k : ∀ a, P a → Ok (f a) Q) : Ok (Option.bind x f) Q := by
  obtain ⟨a, rfl, p⟩ := h
  exact k a p
theorem Ok.bis {α β : Type} {x : Option α} {f : α → Option β} {a : α} {Q : β → Prop} (h : x = some a) (k : Ok (f a) Q) : Ok (Option.bind x f) Q := by
  subst h
  exact k
theorem Ok.mono {α : Type} {x : Option α} {P Q : α → Prop} (h : Ok x P) (k : ∀ a, P a → Q a) : Ok x Q := ⟨h.choose, h.choose_spec.1, k _ h.choose_spec.2⟩
theorem Ok.cond {α : Type} {b : Bool} {x y : Option α} {Q : α → Prop} (h : b = true → Ok x Q) (k : b = false → Ok y Q) : Ok (cond b x y) Q := by
  cases b with
  | true => exact h rfl
  | false => exact k rfl
theorem Ok.tt {α : Type} {b : Bool} {x y : Option α} {Q : α → Prop} (e : b = true) (h : Ok x Q) : Ok (_root_.cond b x y) Q := by
  subst e
  exact h
theorem Ok.ff {α : Type} {b : Bool} {x y : Option α} {Q : α → Prop} (e : b = false) (h : Ok y Q) : Ok (_root_.cond b x y) Q := by
  subst e
  exact h
theorem Ok.eq {α : Type} {x : Option α} {a : α} (h : Ok x (· = a)) : x = some a := by
  obtain ⟨_, e, rfl⟩ := h
  exact e
theorem forL_ok {ι ρ S : Type} {body : ι → S → Option (Ctl ρ S)} {items : List ι} {s0 : S} (I : Nat → S → Prop) (h0 : I 0 s0)
    (step : ∀ i x s, items[i]? = some x → I i s → Ok (body x s) fun c => ∃ s', c = .nx s' ∧ I (i + 1) s') : Ok (forL body items s0) fun c => ∃ s, c = .nx s ∧ I items.length s := by
  obtain ⟨s, h1, h2⟩ := forL_inv I h0 fun i x s hx hI => by
    obtain ⟨_, e, s', rfl, h⟩ := step i x s hx hI
    exact ⟨s', e, h⟩
  exact ⟨_, h1, s, rfl, h2⟩
theorem whl_ok {ρ S : Type} {test : S → Option Bool} {body : S → Option (Ctl ρ S)} (I Q : S → Prop) (μ : S → Nat)
    (step : ∀ s, I s → Ok (test s) fun b => (b = true → Ok (body s) fun c => ∃ s', c = .nx s' ∧ I s' ∧ μ s' < μ s) ∧ (b = false → Q s)) {n : Nat} {s0 : S} (h0 : I s0) (hn : μ s0 < n) : Ok (whl test body n s0) fun c => ∃ s, c = .nx s ∧ I s ∧ Q s := by
  obtain ⟨s, h1, h2⟩ := whl_inv (test := test) (body := body) I Q μ (fun s hs => by
    obtain ⟨b, e, h1, h2⟩ := step s hs
    refine ⟨b, e, fun hb => ?_, h2⟩
    obtain ⟨_, e, s', rfl, h⟩ := h1 hb
    exact ⟨s', e, h⟩) n s0 h0 hn
  exact ⟨_, h1, s, rfl, h2⟩
theorem Ok.aft {ρ S T : Type} {x : Option (Ctl ρ S)} {k : S → Option T} {r : ρ → Option T} {P : S → Prop} {Q : T → Prop} (h : Ok x fun c => ∃ s, c = .nx s ∧ P s) (hk : ∀ s, P s → Ok (k s) Q) : Ok (Option.bind x fun c => aft c k r) Q := by
  obtain ⟨_, rfl, s, rfl, p⟩ := h
  exact hk s p

/-! ### cuts -/
theorem sIx_nn (n d : Nat) {v : Int} (h : 0 ≤ v) : HT.sIx n d (some v) = min v.toNat n := by
  have e : v = ((v.toNat : Nat) : Int) := by omega
  rw [e, HT.sIx_nat, Int.toNat_natCast]
theorem cut_head {α : Type} (xs : List α) {v : Int} (h : 0 ≤ v) : cut xs none (some v) = xs.take v.toNat := by
  unfold cut
  rw [sIx_nn _ _ h, HT.sIx_none, List.drop_zero, Nat.sub_zero]
  by_cases c : v.toNat ≤ xs.length
  · rw [Nat.min_eq_left c]
  · rw [Nat.min_eq_right (by omega), List.take_of_length_le (Nat.le_refl _), List.take_of_length_le (by omega)]
theorem cut_tail {α : Type} (xs : List α) {v : Int} (h : 0 ≤ v) : cut xs (some v) none = xs.drop v.toNat := by
  unfold cut
  rw [sIx_nn _ _ h, HT.sIx_none]
  by_cases c : v.toNat ≤ xs.length
  · rw [Nat.min_eq_left c, List.take_of_length_le (by rw [List.length_drop]; exact Nat.le_refl _)]
  · rw [Nat.min_eq_right (by omega), Nat.sub_self, List.take_zero, List.drop_of_length_le (by omega)]
theorem cut_mid {α : Type} (xs : List α) {v w : Int} (h : 0 ≤ v) (h2 : v ≤ w) : cut xs (some v) (some w) = (xs.drop v.toNat).take (w - v).toNat := by
  unfold cut
  rw [sIx_nn _ _ h, sIx_nn _ _ (by omega)]
  have e : (w - v).toNat = w.toNat - v.toNat := by omega
  rw [e]
  by_cases c : v.toNat ≤ xs.length
  · rw [Nat.min_eq_left c]
    by_cases c2 : w.toNat ≤ xs.length
    · rw [Nat.min_eq_left c2]
    · rw [Nat.min_eq_right (by omega), List.take_of_length_le (by rw [List.length_drop]; exact Nat.le_refl _), List.take_of_length_le (by rw [List.length_drop]; omega)]
  · have e1 : min v.toNat xs.length = xs.length := by omega
    have e2 : xs.drop v.toNat = [] := List.drop_of_length_le (by omega)
    rw [e1, List.drop_length, e2, List.take_nil, List.take_nil]
theorem cut_last {α : Type} (xs : List α) : cut xs none (some (-1)) = xs.dropLast := by
  unfold cut
  have e : HT.sIx xs.length xs.length (some (-1)) = xs.length - 1 := by
    unfold HT.sIx
    simp only
    rw [if_pos (by decide)]
    omega
  rw [e, HT.sIx_none, List.drop_zero, Nat.sub_zero, List.dropLast_eq_take]
theorem nth_take {xs : List Int} {a i : Nat} (h : i < a) : nth (xs.take a) i = nth xs i := by
  unfold nth
  rw [List.getElem?_take, if_pos h]
theorem nth_drop {xs : List Int} {a i : Nat} : nth (xs.drop a) i = nth xs (a + i) := by
  unfold nth
  rw [List.getElem?_drop]
theorem nth_map {xs : List Int} {f : Int → Int} {i : Nat} (h : i < xs.length) : nth (xs.map f) i = f (nth xs i) := by
  unfold nth
  rw [List.getElem?_map, List.getElem?_eq_getElem h]
  rfl
theorem nth_mem {xs : List Int} {i : Nat} (h : i < xs.length) : nth xs i ∈ xs := List.mem_of_getElem? (nth_some h)
theorem mem_nth {xs : List Int} {x : Int} (h : x ∈ xs) : ∃ i, i < xs.length ∧ nth xs i = x := by
  obtain ⟨i, hi, e⟩ := List.getElem_of_mem h
  refine ⟨i, hi, ?_⟩
  unfold nth
  rw [List.getElem?_eq_getElem hi, e]
  rfl
theorem minD_le {d : Int} {xs : List Int} {y : Int} (h : y ∈ xs) : minD d xs ≤ y := by
  cases xs with
  | nil => cases h
  | cons x r => exact foldl_min_le r x y (List.mem_cons.mp h)
theorem maxD_ge {d : Int} {xs : List Int} {y : Int} (h : y ∈ xs) : y ≤ maxD d xs := by
  cases xs with
  | nil => cases h
  | cons x r => exact le_foldl_max r x y (List.mem_cons.mp h)
theorem foldl_max_mem : ∀ (r : List Int) (x : Int), r.foldl max x = x ∨ r.foldl max x ∈ r
  | [], x => Or.inl rfl
  | y :: r, x => by
    show r.foldl max (max x y) = x ∨ r.foldl max (max x y) ∈ y :: r
    rcases foldl_max_mem r (max x y) with h | h
    · rw [h]
      by_cases c : x ≤ y
      · rw [Int.max_eq_right c]
        exact Or.inr List.mem_cons_self
      · rw [Int.max_eq_left (by omega)]
        exact Or.inl rfl
    · exact Or.inr (List.mem_cons_of_mem _ h)
theorem maxD_mem {d : Int} {xs : List Int} (h : xs ≠ []) : maxD d xs ∈ xs := by
  cases xs with
  | nil => exact absurd rfl h
  | cons x r =>
    rcases foldl_max_mem r x with e | e
    · show r.foldl max x ∈ x :: r
      rw [e]
      exact List.mem_cons_self
    · exact List.mem_cons_of_mem _ e
theorem maxD_eq {d m : Int} {xs : List Int} (h : ∀ y ∈ xs, y ≤ m) (k : m ∈ xs ∨ (xs = [] ∧ d = m)) : maxD d xs = m := by
  rcases k with k | ⟨rfl, rfl⟩
  · have h1 := maxD_ge (d := d) k
    have h2 := h _ (maxD_mem (d := d) (List.ne_nil_of_mem k))
    omega
  · rfl
theorem rep0 : ∀ (n : Nat), (List.replicate n [(0 : Int)]).flatten = List.replicate n 0
  | 0 => rfl
  | n + 1 => by
    rw [List.replicate_succ, List.flatten_cons, rep0 n]
    rfl
theorem repO_0 {n : Nat} (h : n ≤ line) : repO [(0 : Int)] (n : Int) = some (List.replicate n 0) := by
  have e : line = 16000000 := rfl
  unfold repO
  rw [if_pos (by refine ⟨?_, ?_, ?_⟩ <;> simp <;> omega), Int.toNat_natCast, rep0]
end PX

/-! PQ: parts of rows, rows with given times, loops that hand back, and pots that are drawn from. -/
namespace PX
open PySem L2

theorem forL_ret {ι ρ S : Type} {body : ι → S → Option (Ctl ρ S)} {items : List ι} {s0 : S} (I : Nat → S → Prop) (R : ρ → Prop) (h0 : I 0 s0)
    (step : ∀ i x s, items[i]? = some x → I i s → Ok (body x s) fun c => (∃ s', c = .nx s' ∧ I (i + 1) s') ∨ ∃ y, c = .rt y ∧ R y) :
    Ok (forL body items s0) fun c => (∃ s, c = .nx s ∧ I items.length s) ∨ ∃ y, c = .rt y ∧ R y := by
  suffices H : ∀ (l : List ι) (i : Nat) (s : S), items.drop i = l → I i s → Ok (forL body l s) fun c => (∃ s', c = .nx s' ∧ I (i + l.length) s') ∨ ∃ y, c = .rt y ∧ R y by
    have := H items 0 s0 (List.drop_zero ..) h0
    rw [Nat.zero_add] at this
    exact this
  intro l
  induction l with
  | nil =>
    intro i s hd hI
    exact Ok.ret (Or.inl ⟨s, rfl, hI⟩)
  | cons x r ih =>
    intro i s hd hI
    have hx : items[i]? = some x := by
      have := congrArg (fun z => z[0]?) hd
      simpa using this
    have hd' : items.drop (i + 1) = r := by
      have := congrArg (fun z => z.drop 1) hd
      simpa [List.drop_drop, Nat.add_comm] using this
    refine Ok.bind (step i x s hx hI) ?_
    rintro _ (⟨s', rfl, h⟩ | ⟨y, rfl, h⟩)
    · refine (ih (i + 1) s' hd' h).mono ?_
      have e : i + (x :: r).length = i + 1 + r.length := by rw [List.length_cons]; omega
      rw [e]
      exact fun _ z => z
    · exact Ok.ret (Or.inr ⟨y, rfl, h⟩)
theorem Ok.aft2 {ρ S T : Type} {x : Option (Ctl ρ S)} {k : S → Option T} {r : ρ → Option T} {P : S → Prop} {R : ρ → Prop} {Q : T → Prop} (h : Ok x fun c => (∃ s, c = .nx s ∧ P s) ∨ ∃ y, c = .rt y ∧ R y) (hk : ∀ s, P s → Ok (k s) Q)
    (hr : ∀ y, R y → Ok (r y) Q) : Ok (Option.bind x fun c => PX.aft c k r) Q := by
  obtain ⟨_, rfl, ⟨s, rfl, p⟩ | ⟨s, rfl, p⟩⟩ := h
  · exact hk s p
  · exact hr s p
theorem lcM_ok {ι β S : Type} {f : ι → S → Option (β × S)} (I : Nat → S → Prop) (Q : β → Prop) : ∀ (l : List ι) (i0 : Nat) (s : S), I i0 s →
    (∀ i x s, x ∈ l → i < i0 + l.length → I i s → Ok (f x s) fun r => Q r.1 ∧ I (i + 1) r.2) → Ok (lcM f l s) fun r => r.1.length = l.length ∧ (∀ y ∈ r.1, Q y) ∧ I (i0 + l.length) r.2
  | [], i, s, h, _ => Ok.ret ⟨rfl, fun _ z => (nomatch z), h⟩
  | x :: l, i, s, h, k => by
    have e : i + (x :: l).length = i + 1 + l.length := by rw [List.length_cons]; omega
    refine Ok.bind (k i x s List.mem_cons_self (by rw [e]; omega) h) ?_
    rintro ⟨y, s1⟩ ⟨h1, h2⟩
    refine Ok.bind (lcM_ok I Q l (i + 1) s1 h2 fun i x s m q => k i x s (List.mem_cons_of_mem _ m) (by rw [e]; exact q)) ?_
    rintro ⟨ys, s2⟩ ⟨h3, h4, h5⟩
    refine Ok.ret ⟨congrArg (· + 1) h3, fun z hz => ?_, ?_⟩
    · rcases List.mem_cons.mp hz with rfl | hz
      · exact h1
      · exact h4 z hz
    · rw [e]
      exact h5
theorem lcO_none {ι β : Type} {c : ι → Option Bool} {f : ι → Option β} (l : List ι) (h : ∀ x ∈ l, c x = some false) : lcO c f l = some [] := by
  induction l with
  | nil => rfl
  | cons x r ih =>
    show Option.bind (c x) _ = _
    rw [h x List.mem_cons_self]
    exact ih fun y hy => h y (List.mem_cons_of_mem _ hy)
theorem lcO_ok {ι β : Type} {c : ι → Option Bool} {f : ι → Option β} (Q : β → Prop) : ∀ (l : List ι), (∀ x ∈ l, Ok (c x) fun b => b = true → Ok (f x) Q) → Ok (lcO c f l) fun r => ∀ y ∈ r, Q y
  | [], _ => Ok.ret fun _ z => nomatch z
  | x :: r, h => by
    have ih := lcO_ok Q r fun y hy => h y (List.mem_cons_of_mem _ hy)
    refine Ok.bind (h x List.mem_cons_self) ?_
    rintro (_ | _) hb
    · exact ih
    · refine Ok.bind (hb rfl) fun y hy => Ok.bind ih fun ys hys => Ok.ret fun z hz => ?_
      rcases List.mem_cons.mp hz with rfl | hz
      · exact hy
      · exact hys z hz
theorem rng_ok {z : Int} (h0 : 0 ≤ z) (h : z ≤ line) : rngO 0 z = some ((List.range z.toNat).map fun (i : Nat) => (i : Int)) := by
  have e : z = ((z.toNat : Nat) : Int) := by omega
  rw [e, rngO_ok0 (by omega), Int.toNat_natCast]
theorem rng_mem {n : Nat} {x : Int} (h : x ∈ (List.range n).map fun (i : Nat) => (i : Int)) : 0 ≤ x ∧ x < n := by
  obtain ⟨i, hi, rfl⟩ := List.mem_map.mp h
  have := List.mem_range.mp hi
  omega
theorem rng_get {n i : Nat} {x : Int} (h : ((List.range n).map fun (i : Nat) => (i : Int))[i]? = some x) : i < n ∧ x = i := by
  rw [List.getElem?_map] at h
  cases e : (List.range n)[i]? with
  | none =>
    rw [e] at h
    cases h
  | some y =>
    rw [e] at h
    have h1 := List.getElem?_eq_some_iff.mp e
    obtain ⟨h2, h3⟩ := h1
    rw [List.getElem_range] at h3
    rw [List.length_range] at h2
    subst h3
    exact ⟨h2, (Option.some.inj h).symm⟩
theorem enumI_mem {α : Type} {xs : List α} {x : Int × α} (h : x ∈ enumI xs) : ∃ i, i < xs.length ∧ x.1 = (i : Int) ∧ xs[i]? = some x.2 := by
  obtain ⟨i, hi⟩ := List.getElem?_of_mem h
  obtain ⟨a, b, c⟩ := enumI_get hi
  exact ⟨i, a, b, c⟩

/-! ### parts of rows -/
/-- the part from a to b -/
def part (xs : List Int) (a b : Nat) : List Int := (xs.drop a).take (b - a)
theorem part_len {xs : List Int} {a b : Nat} (h : b ≤ xs.length) : (part xs a b).length = b - a := by
  unfold part
  rw [List.length_take, List.length_drop]
  omega
theorem nth_part {xs : List Int} {a b i : Nat} (h : i < b - a) : nth (part xs a b) i = nth xs (a + i) := by
  unfold part
  rw [nth_take h, nth_drop]
theorem IsT.sub {row ts : List Int} {a b : Nat} (h : IsT row ts) (hb : b ≤ row.length) (h1 : a = 0 ∨ ∀ j, a ≤ j → j < b → nth row (a - 1) ≤ nth row j) (h2 : b = row.length ∨ ∀ j, a ≤ j → j < b → nth row b ≤ nth row j) : IsT (part row a b) (part ts a b) := by
  have hl := h.1
  refine ⟨by rw [part_len hb, part_len (by omega)], fun j hj => ?_⟩
  rw [part_len hb] at hj ⊢
  have hs : ∀ k, Sees (nth (part row a b)) (b - a) j k ↔ (a ≤ a + k ∧ Sees (nth row) row.length (a + j) (a + k)) := by
    intro k
    constructor
    · rintro ⟨p, q, r⟩
      refine ⟨by omega, by omega, by omega, fun m hm => ?_⟩
      have := r (m - a) (by omega)
      rw [nth_part hj, nth_part (by omega)] at this
      have e : a + (m - a) = m := by omega
      rw [e] at this
      exact this
    · rintro ⟨_, p, q, r⟩
      have hk : k < b - a := by
        by_cases hk : k < b - a
        · exact hk
        · rcases h2 with h2 | h2
          · omega
          · have h3 := r b (Or.inl ⟨by omega, by omega⟩)
            have h4 := h2 (a + j) (by omega) (by omega)
            omega
      refine ⟨hk, by omega, fun m hm => ?_⟩
      rw [nth_part hj, nth_part (by omega)]
      exact r (a + m) (by omega)
  have hs2 : ∀ k, Sees (nth row) row.length (a + j) k → a ≤ k := by
    rintro k ⟨p, q, r⟩
    by_cases hk : a ≤ k
    · exact hk
    · rcases h1 with h1 | h1
      · omega
      · have h3 := r (a - 1) (Or.inr ⟨by omega, by omega⟩)
        have h4 := h1 (a + j) (by omega) (by omega)
        omega
  obtain ⟨p, q, r⟩ := h.2 (a + j) (by omega)
  refine ⟨by rw [nth_part hj]; exact p, fun k hk => ?_, ?_⟩
  · rw [nth_part hj, nth_part hk.1]
    exact q (a + k) ((hs k).mp hk).2
  · rw [nth_part hj]
    rcases r with r | ⟨k, hk, r⟩
    · exact Or.inl r
    · have ha := hs2 k hk
      have e : a + (k - a) = k := by omega
      have hk' := (hs (k - a)).mpr ⟨by omega, by rw [e]; exact hk⟩
      refine Or.inr ⟨k - a, hk', ?_⟩
      rw [nth_part hk'.1, e]
      exact r
theorem IsT.head {row ts : List Int} {b : Nat} (h : IsT row ts) (hb : b < row.length) (h2 : ∀ j, j < b → nth row b ≤ nth row j) : IsT (row.take b) (ts.take b) := by
  have := h.sub (a := 0) (b := b) (by omega) (Or.inl rfl) (Or.inr fun j _ hj => h2 j hj)
  unfold part at this
  rw [List.drop_zero, List.drop_zero, Nat.sub_zero] at this
  exact this
theorem part_tail {xs : List Int} {a : Nat} : part xs a xs.length = xs.drop a := by
  unfold part
  rw [List.take_of_length_le (by rw [List.length_drop]; exact Nat.le_refl _)]
theorem IsT.tail {row ts : List Int} {a : Nat} (h : IsT row ts) (hb : a < row.length) (h2 : ∀ j, a < j → j < row.length → nth row a ≤ nth row j) : IsT (row.drop (a + 1)) (ts.drop (a + 1)) := by
  have := h.sub (a := a + 1) (b := row.length) (Nat.le_refl _) (Or.inr fun j h3 h4 => h2 j h3 h4) (Or.inl rfl)
  rw [part_tail] at this
  rw [← h.1, part_tail] at this
  exact this
/-- a row with these times: the greater the time, the lesser the entry -/
theorem IsT.anti {row ts : List Int} {f : Int → Int} (h : IsT row ts) (hf : ∀ x y, f x < f y ↔ y < x) : IsT (ts.map f) ts := by
  have hl := h.1
  refine ⟨(List.length_map ..).symm, fun j hj => ?_⟩
  rw [List.length_map] at hj ⊢
  obtain ⟨p, q, r⟩ := h.2 j (by omega)
  refine ⟨p, fun k hk => ?_, ?_⟩
  · have := hk.2.2 k (by have := hk.2.1; omega)
    rw [nth_map hj, nth_map hk.1, hf] at this
    exact this
  · rcases r with r | ⟨k, hk, r⟩
    · exact Or.inl r
    · refine Or.inr ⟨k, ⟨by have := hk.1; omega, hk.2.1, fun m hm => ?_⟩, r⟩
      have hk1 := hk.1
      have hm2 := q m ⟨by omega, by omega, fun m2 hm2 => hk.2.2 m2 (by omega)⟩
      rw [nth_map hj, nth_map (by omega), hf]
      exact hm2
theorem IsT.pos {row ts : List Int} (h : IsT row ts) : ∀ y ∈ ts, 1 ≤ y := by
  intro y hy
  obtain ⟨i, hi, rfl⟩ := mem_nth hy
  exact (h.2 i (by have := h.1; omega)).1
theorem maxD0_pos {row ts : List Int} (h : IsT row ts) : maxO (ts ++ [0]) = some (maxD 0 ts) := by
  cases ts with
  | nil => rfl
  | cons x r =>
    show some ((r ++ [0]).foldl max x) = some (r.foldl max x)
    rw [List.foldl_append]
    congr 1
    show max (r.foldl max x) 0 = _
    have := h.pos x List.mem_cons_self
    have := le_foldl_max r x x (Or.inl rfl)
    omega
/-- the time of an entry by its blocks -/
theorem IsT.blocks {row ts : List Int} {j a b : Nat} (h : IsT row ts) (hj : j < row.length) (ha : a ≤ j) (hb : j < b) (hn : b ≤ row.length) (h1 : ∀ k, a ≤ k → k < j → nth row j < nth row k) (h2 : ∀ k, j < k → k < b → nth row j < nth row k)
    (h3 : a = 0 ∨ nth row (a - 1) ≤ nth row j) (h4 : b = row.length ∨ nth row b ≤ nth row j) : IsT (part row a j) (part ts a j) ∧ IsT (part row (j + 1) b) (part ts (j + 1) b) ∧ nth ts j = 1 + max (maxD 0 (part ts a j)) (maxD 0 (part ts (j + 1) b)) := by
  have hl := h.1
  refine ⟨h.sub (by omega) (h3.imp id fun h3 k p q => by have := h1 k p q; omega) (Or.inr fun k p q => by have := h1 k p q; omega), h.sub hn (Or.inr fun k p q => by have := h2 k (by omega) q; show nth row j ≤ _; omega) (h4.imp id fun h4 k p q => by have := h2 k (by omega) q; omega), ?_⟩
  obtain ⟨p, q, r⟩ := h.2 j hj
  have hs : ∀ k, Sees (nth row) row.length j k ↔ ((a ≤ k ∧ k < j) ∨ (j < k ∧ k < b)) := by
    intro k
    constructor
    · rintro ⟨x, y, z⟩
      have u1 : a ≤ k := by
        by_cases hk : a ≤ k
        · exact hk
        · rcases h3 with h3 | h3
          · omega
          · have := z (a - 1) (Or.inr ⟨by omega, by omega⟩)
            omega
      have u2 : k < b := by
        by_cases hk : k < b
        · exact hk
        · rcases h4 with h4 | h4
          · omega
          · have := z b (Or.inl ⟨by omega, by omega⟩)
            omega
      omega
    · intro hk
      refine ⟨by omega, by omega, fun m hm => ?_⟩
      rcases hm with hm | hm
      · exact h2 m hm.1 (by omega)
      · exact h1 m (by omega) hm.2
  have m1 : ∀ y ∈ part ts a j, y ≤ nth ts j - 1 := by
    intro y hy
    obtain ⟨i, hi, rfl⟩ := mem_nth hy
    rw [part_len (by omega)] at hi
    rw [nth_part hi]
    have := q (a + i) ((hs _).mpr (by omega))
    omega
  have m2 : ∀ y ∈ part ts (j + 1) b, y ≤ nth ts j - 1 := by
    intro y hy
    obtain ⟨i, hi, rfl⟩ := mem_nth hy
    rw [part_len (by omega)] at hi
    rw [nth_part hi]
    have := q (j + 1 + i) ((hs _).mpr (by omega))
    omega
  have bound : ∀ xs : List Int, (∀ y ∈ xs, y ≤ nth ts j - 1) → maxD 0 xs ≤ nth ts j - 1 := by
    intro xs hx
    by_cases c : xs = []
    · subst c
      show (0 : Int) ≤ _
      omega
    · exact hx _ (maxD_mem c)
  have n0 : ∀ a' b', b' ≤ row.length → 0 ≤ maxD 0 (part ts a' b') := by
    intro a' b' _
    by_cases c : part ts a' b' = []
    · rw [c]
      exact Int.le_refl _
    · have := maxD_mem (d := 0) c
      have := h.pos _ (List.mem_of_mem_drop (List.mem_of_mem_take this))
      omega
  have b1 := bound _ m1
  have b2 := bound _ m2
  have c1 := n0 a j (by omega)
  have c2 := n0 (j + 1) b hn
  generalize hA : maxD 0 (part ts a j) = A at *
  generalize hB : maxD 0 (part ts (j + 1) b) = B at *
  rcases r with r | ⟨k, hk, r⟩
  · omega
  · rcases (hs k).mp hk with hk | hk
    · have e : nth (part ts a j) (k - a) = nth ts k := by rw [nth_part (by omega)]; congr 1; omega
      have := maxD_ge (d := 0) (nth_mem (xs := part ts a j) (i := k - a) (by rw [part_len (by omega)]; omega))
      rw [e, hA] at this
      omega
    · have e : nth (part ts (j + 1) b) (k - (j + 1)) = nth ts k := by rw [nth_part (by omega)]; congr 1; omega
      have := maxD_ge (d := 0) (nth_mem (xs := part ts (j + 1) b) (i := k - (j + 1)) (by rw [part_len (by omega)]; omega))
      rw [e, hB] at this
      omega
end PX

/-! PS: what times tell about two entries. -/
namespace PX
open PySem L2
theorem last_of (P : Nat → Prop) [DecidablePred P] (q : Nat) : ∀ p, q < p → P q → ∃ m, q ≤ m ∧ m < p ∧ P m ∧ ∀ k, m < k → k < p → ¬ P k := by
  intro p
  induction p with
  | zero => intro h; omega
  | succ p ih =>
    intro h hq
    by_cases c : P p
    · exact ⟨p, by omega, by omega, c, fun k h1 h2 => by omega⟩
    · have : q ≠ p := fun e => c (e ▸ hq)
      obtain ⟨m, h1, h2, h3, h4⟩ := ih (by omega) hq
      refine ⟨m, h1, by omega, h3, fun k k1 k2 => ?_⟩
      by_cases e : k = p
      · exact e ▸ c
      · exact h4 k k1 (by omega)
theorem first_of (P : Nat → Prop) [DecidablePred P] (p : Nat) : ∀ d q, q = p + d + 1 → P q → ∃ m, p < m ∧ m ≤ q ∧ P m ∧ ∀ k, p < k → k < m → ¬ P k := by
  intro d
  induction d generalizing p with
  | zero =>
    intro q h hq
    exact ⟨q, by omega, by omega, hq, fun k h1 h2 => by omega⟩
  | succ d ih =>
    intro q h hq
    by_cases c : P (p + 1)
    · exact ⟨p + 1, by omega, by omega, c, fun k h1 h2 => by omega⟩
    · obtain ⟨m, h1, h2, h3, h4⟩ := ih (p + 1) q (by omega) hq
      refine ⟨m, by omega, h2, h3, fun k k1 k2 => ?_⟩
      by_cases e : k = p + 1
      · exact e ▸ c
      · exact h4 k (by omega) k2
/-- the nearest to p of those from p (without it) to q, that have P -/
theorem near_of (P : Nat → Prop) [DecidablePred P] {p q : Nat} (h : q ≠ p) (hq : P q) : ∃ m, m ≠ p ∧ ((p < m ∧ m ≤ q) ∨ (q ≤ m ∧ m < p)) ∧ P m ∧ ∀ k, (p < k ∧ k < m) ∨ (m < k ∧ k < p) → ¬ P k := by
  by_cases c : q < p
  · obtain ⟨m, h1, h2, h3, h4⟩ := last_of P q p c hq
    exact ⟨m, by omega, Or.inr ⟨h1, h2⟩, h3, fun k hk => h4 k (by omega) (by omega)⟩
  · obtain ⟨m, h1, h2, h3, h4⟩ := first_of P p (q - p - 1) q (by omega) hq
    exact ⟨m, by omega, Or.inl ⟨h1, h2⟩, h3, fun k hk => h4 k (by omega) (by omega)⟩
def StandU (e t : Nat → Int) (n : Nat) : Prop := ∀ p q, p < n → q < n → p ≠ q → (∀ m, (p < m ∧ m < q) ∨ (q < m ∧ m < p) → t m ≤ t p) → t q ≤ t p → e p ≤ e q
def Les (t : Nat → Int) (n j k : Nat) : Prop := k < n ∧ k ≠ j ∧ ∀ m, (j < m ∧ m ≤ k) ∨ (k ≤ m ∧ m < j) → t m < t j
def StepsU (e t : Nat → Int) (n : Nat) : Prop := ∀ j, j < n → 1 < t j → ∃ k, Les t n j k ∧ t k = t j - 1 ∧ e j < e k
theorem eqn_stand {e t : Nat → Int} {n : Nat} (h : ∀ j, j < n → Eqn e t n j) : StandU e t n := by
  intro p q hp hq hne hb hle
  by_cases c : e p ≤ e q
  · exact c
  · obtain ⟨m, m1, m2, m3, m4⟩ := near_of (fun k => e k ≤ e q) (p := p) (q := q) (fun h => hne h.symm) (Int.le_refl _)
    have hv : Sees e n m p := ⟨hp, fun h => m1 h.symm, fun k hk => by
      by_cases ck : k = p
      · rw [ck]
        omega
      · have := m4 k (by omega)
        omega⟩
    have h1 := (h m (by omega)).2.1 p hv
    by_cases cq : m = q
    · rw [cq] at h1
      omega
    · have := hb m (by omega)
      omega
theorem eqn_steps {e t : Nat → Int} {n : Nat} (h : ∀ j, j < n → Eqn e t n j) : StepsU e t n := by
  intro j hj h1
  obtain ⟨a, b, c⟩ := h j hj
  rcases c with c | ⟨k, hk, c⟩
  · omega
  · refine ⟨k, ⟨hk.1, hk.2.1, fun m hm => b m ⟨by have := hk.1; omega, by omega, fun x hx => hk.2.2 x (by omega)⟩⟩, by omega, hk.2.2 k (by have := hk.2.1; omega)⟩
theorem eqn_of {e t : Nat → Int} {n : Nat} (h1 : ∀ j, j < n → 1 ≤ t j) (h2 : StandU e t n) (h3 : StepsU e t n) : ∀ j, j < n → Eqn e t n j := by
  intro j hj
  refine ⟨h1 j hj, fun k hk => ?_, ?_⟩
  · by_cases c : t k < t j
    · exact c
    · obtain ⟨m, m1, m2, m3, m4⟩ := near_of (fun x => t j ≤ t x) (p := j) (q := k) hk.2.1 (by omega)
      have hm := h2 m j (by have := hk.1; omega) hj m1 (fun x hx => by have := m4 x (by omega); omega) m3
      have := hk.2.2 m m2
      omega
  · by_cases c : t j = 1
    · exact Or.inl c
    · have := h1 j hj
      obtain ⟨k, hk, k1, k2⟩ := h3 j hj (by omega)
      refine Or.inr ⟨k, ⟨hk.1, hk.2.1, fun m hm => ?_⟩, by omega⟩
      by_cases ck : m = k
      · rw [ck]
        exact k2
      · have hm' := hk.2.2 m hm
        have := h2 k m hk.1 (by have := hk.1; omega) (fun h => ck h.symm) (fun x hx => by have := hk.2.2 x (by omega); omega) (by omega)
        omega
/-- a list stands to the times of another one as their words tell, and has the steps: then it has these times; and the other way around -/
theorem times_iff {row one ts : List Int} (h : IsT row ts) (hl : one.length = row.length) : IsT one ts ↔ StandU (nth one) (nth ts) row.length ∧ StepsU (nth one) (nth ts) row.length := by
  constructor
  · rintro ⟨_, k⟩
    rw [hl] at k
    exact ⟨eqn_stand k, eqn_steps k⟩
  · rintro ⟨a, b⟩
    refine ⟨by rw [h.1, hl], ?_⟩
    rw [hl]
    exact eqn_of (fun j hj => (h.2 j hj).1) a b
/-- the word for two places -/
def covO (ts : List Int) (p q : Nat) : Int := maxD 0 (cut ts (some ((min p q : Nat) + (1 : Int))) (some ((max p q : Nat) : Int)))
theorem cov_le {ts : List Int} {p q : Nat} {x : Int} (hx : 0 ≤ x) (hp : p < ts.length) (hq : q < ts.length) (hne : p ≠ q) : covO ts p q ≤ x ↔ ∀ m, (p < m ∧ m < q) ∨ (q < m ∧ m < p) → nth ts m ≤ x := by
  have e : cut ts (some ((min p q : Nat) + (1 : Int))) (some ((max p q : Nat) : Int)) = part ts (min p q + 1) (max p q) := by
    rw [cut_mid _ (by omega) (by omega)]
    unfold part
    congr 1
    omega
  unfold covO
  rw [e]
  constructor
  · intro h m hm
    have hi : nth (part ts (min p q + 1) (max p q)) (m - (min p q + 1)) = nth ts m := by rw [nth_part (by omega)]; congr 1; omega
    have := maxD_ge (d := 0) (nth_mem (xs := part ts (min p q + 1) (max p q)) (i := m - (min p q + 1)) (by rw [part_len (by omega)]; omega))
    rw [hi] at this
    omega
  · intro h
    by_cases c : part ts (min p q + 1) (max p q) = []
    · rw [c]
      exact hx
    · obtain ⟨i, hi, ei⟩ := mem_nth (maxD_mem (d := 0) c)
      rw [part_len (by omega)] at hi
      rw [nth_part hi] at ei
      rw [← ei]
      exact h _ (by omega)
def relW (ts : List Int) (p q : Nat) : Str := if max (nth ts p) (nth ts q) < covO ts p q then "open" else if nth ts p = nth ts q then "=" else if nth ts q < nth ts p then "<=" else ">="
/-- what a word says of two entries -/
def Says (w : Str) (x y : Int) : Prop := (w = "=" → x = y) ∧ (w = "<=" → x ≤ y) ∧ (w = ">=" → y ≤ x)
theorem says_iff {ts : List Int} {one : Nat → Int} (pos : ∀ j, j < ts.length → 1 ≤ nth ts j) : (∀ p q, p < q → q < ts.length → Says (relW ts p q) (one p) (one q)) ↔ StandU one (nth ts) ts.length := by
  have n1 : ("open" : Str) ≠ "=" := by decide +kernel
  have n2 : ("open" : Str) ≠ "<=" := by decide +kernel
  have n3 : ("open" : Str) ≠ ">=" := by decide +kernel
  have n4 : ("=" : Str) ≠ "<=" := by decide +kernel
  have n5 : ("=" : Str) ≠ ">=" := by decide +kernel
  have n6 : ("<=" : Str) ≠ "=" := by decide +kernel
  have n7 : ("<=" : Str) ≠ ">=" := by decide +kernel
  have n8 : (">=" : Str) ≠ "=" := by decide +kernel
  have n9 : (">=" : Str) ≠ "<=" := by decide +kernel
  constructor
  · intro h p q hp hq hne hb hle
    have hpos := pos p hp
    by_cases c : p < q
    · have hs := h p q c hq
      have hc : covO ts p q ≤ max (nth ts p) (nth ts q) := (cov_le (by omega) hp hq hne).mpr fun m hm => by have := hb m hm; omega
      unfold relW at hs
      rw [if_neg (by omega)] at hs
      by_cases c1 : nth ts p = nth ts q
      · rw [if_pos c1] at hs
        exact Int.le_of_eq (hs.1 rfl)
      · rw [if_neg c1, if_pos (by omega)] at hs
        exact hs.2.1 rfl
    · have hs := h q p (by omega) hp
      have hc : covO ts q p ≤ max (nth ts q) (nth ts p) := (cov_le (by omega) hq hp (fun e => hne e.symm)).mpr fun m hm => by have := hb m (by omega); omega
      unfold relW at hs
      rw [if_neg (by omega)] at hs
      by_cases c1 : nth ts q = nth ts p
      · rw [if_pos c1] at hs
        exact Int.le_of_eq (hs.1 rfl).symm
      · rw [if_neg c1, if_neg (by omega)] at hs
        exact hs.2.2 rfl
  · intro h p q hpq hq
    have hp : p < ts.length := by omega
    have h1 := pos p hp
    have h2 := pos q hq
    unfold relW
    by_cases c0 : max (nth ts p) (nth ts q) < covO ts p q
    · rw [if_pos c0]
      exact ⟨fun e => absurd e n1, fun e => absurd e n2, fun e => absurd e n3⟩
    · rw [if_neg c0]
      have hc := (cov_le (x := max (nth ts p) (nth ts q)) (by omega) hp hq (by omega)).mp (by omega)
      by_cases c1 : nth ts p = nth ts q
      · rw [if_pos c1]
        have u1 := h p q hp hq (by omega) (fun m hm => by have := hc m hm; omega) (by omega)
        have u2 := h q p hq hp (by omega) (fun m hm => by have := hc m (by omega); omega) (by omega)
        exact ⟨fun _ => by omega, fun e => absurd e n4, fun e => absurd e n5⟩
      · rw [if_neg c1]
        by_cases c2 : nth ts q < nth ts p
        · rw [if_pos c2]
          have u1 := h p q hp hq (by omega) (fun m hm => by have := hc m hm; omega) (by omega)
          exact ⟨fun e => absurd e n6, fun _ => u1, fun e => absurd e n7⟩
        · rw [if_neg c2]
          have u2 := h q p hq hp (by omega) (fun m hm => by have := hc m (by omega); omega) (by omega)
          exact ⟨fun e => absurd e n8, fun e => absurd e n9, fun _ => u2⟩
theorem ix_mem {α : Type} {xs : List α} {z : Int} (h0 : 0 ≤ z) (h : z < xs.length) : ∃ x, ix xs z = some x ∧ x ∈ xs := by
  have e : z = ((z.toNat : Nat) : Int) := by omega
  have hi : z.toNat < xs.length := by omega
  refine ⟨xs[z.toNat], ?_, List.getElem_mem hi⟩
  have h1 : ix xs ((z.toNat : Nat) : Int) = some xs[z.toNat] := atI_nat (List.getElem?_eq_getElem hi)
  rw [← e] at h1
  exact h1
theorem list_int_eq {xs : List Int} {n : Nat} (h : xs.length = n) : (xs.length : Int) = n := by omega
end PX

/-! PT: rounds that are played: who vanishes in the next round. -/
namespace PX
open PySem L2
/-- q stands beside p among those that are left after r rounds -/
def Adj (t : Nat → Int) (n : Nat) (r : Int) (p q : Nat) : Prop := q < n ∧ q ≠ p ∧ r < t q ∧ ∀ m, (p < m ∧ m < q) ∨ (q < m ∧ m < p) → t m ≤ r
theorem peak_iff {e t : Nat → Int} {n p : Nat} {r : Int} (h : ∀ j, j < n → Eqn e t n j) (h0 : 0 ≤ r) (hp : p < n) (ht : r < t p) : t p = r + 1 ↔ ∀ q, Adj t n r p q → e q ≤ e p := by
  constructor
  · rintro h1 q ⟨hq, hne, hq2, hb⟩
    by_cases c : e q ≤ e p
    · exact c
    · obtain ⟨m, m1, m2, m3, m4⟩ := near_of (fun k => e k ≤ e p) (p := q) (q := p) (fun e => hne e.symm) (Int.le_refl _)
      have hv : Sees e n m q := ⟨hq, fun e => m1 e.symm, fun x hx => by
        by_cases cx : x = q
        · rw [cx]
          omega
        · have := m4 x (by omega)
          omega⟩
      have h2 := (h m (by omega)).2.1 q hv
      by_cases cm : m = p
      · rw [cm] at h2
        omega
      · have := hb m (by omega)
        omega
  · intro hq
    by_cases c : t p = r + 1
    · exact c
    · obtain ⟨_, _, h3⟩ := h p hp
      rcases h3 with h3 | ⟨k, hk, h3⟩
      · omega
      · obtain ⟨m, m1, m2, m3, m4⟩ := near_of (fun x => r < t x) (p := p) (q := k) hk.2.1 (by omega)
        have h4 := hq m ⟨by have := hk.1; omega, m1, m3, fun x hx => by have := m4 x (by omega); omega⟩
        have := hk.2.2 m m2
        omega
end PX

/-! PU: the places that are left after some rounds. -/
namespace PX
open PySem L2
def Lft (ts : List Int) (n r : Nat) : List Nat := (List.range n).filter fun j => decide ((r : Int) < nth ts j)
theorem lft_mem {ts : List Int} {n r j : Nat} : j ∈ Lft ts n r ↔ j < n ∧ (r : Int) < nth ts j := by
  unfold Lft
  rw [List.mem_filter, List.mem_range, decide_eq_true_iff]
theorem lft_lt {ts : List Int} {n r i j p q : Nat} (h1 : (Lft ts n r)[i]? = some p) (h2 : (Lft ts n r)[j]? = some q) (h : i < j) : p < q := by
  have hs : (Lft ts n r).Pairwise (· < ·) := List.pairwise_lt_range.filter _
  obtain ⟨a, e1⟩ := List.getElem?_eq_some_iff.mp h1
  obtain ⟨b, e2⟩ := List.getElem?_eq_some_iff.mp h2
  have := List.pairwise_iff_getElem.mp hs i j a b h
  omega
theorem lft_ix {ts : List Int} {n r i j p q : Nat} (h1 : (Lft ts n r)[i]? = some p) (h2 : (Lft ts n r)[j]? = some q) (h : p < q) : i < j := by
  by_cases c : i < j
  · exact c
  · by_cases e : i = j
    · subst e
      rw [h1] at h2
      have := Option.some.inj h2
      omega
    · have := lft_lt h2 h1 (by omega)
      omega
/-- who stands beside the one at i -/
theorem lft_adj {ts : List Int} {n r i p q : Nat} (h1 : (Lft ts n r)[i]? = some p) : Adj (nth ts) n r p q ↔ ((Lft ts n r)[i + 1]? = some q ∨ (0 < i ∧ (Lft ts n r)[i - 1]? = some q)) := by
  have hp := lft_mem.mp (List.mem_of_getElem? h1)
  constructor
  · rintro ⟨hq, hne, hq2, hb⟩
    obtain ⟨j, hj⟩ := List.getElem?_of_mem (lft_mem.mpr ⟨hq, hq2⟩ : q ∈ Lft ts n r)
    by_cases c : p < q
    · have hij := lft_ix h1 hj c
      by_cases e : j = i + 1
      · exact Or.inl (e ▸ hj)
      · have hl : i + 1 < (Lft ts n r).length := by
          have := (List.getElem?_eq_some_iff.mp hj).1
          omega
        have hm := List.getElem?_eq_getElem hl
        have a := lft_lt h1 hm (by omega)
        have b := lft_lt hm hj (by omega)
        have := hb _ (Or.inl ⟨a, b⟩)
        have := (lft_mem.mp (List.mem_of_getElem? hm)).2
        omega
    · have hij := lft_ix hj h1 (by omega)
      by_cases e : j = i - 1
      · exact Or.inr ⟨by omega, e ▸ hj⟩
      · have hl : i - 1 < (Lft ts n r).length := by
          have := (List.getElem?_eq_some_iff.mp h1).1
          omega
        have hm := List.getElem?_eq_getElem hl
        have a := lft_lt hm h1 (by omega)
        have b := lft_lt hj hm (by omega)
        have := hb _ (Or.inr ⟨b, a⟩)
        have := (lft_mem.mp (List.mem_of_getElem? hm)).2
        omega
  · rintro (h | ⟨h0, h⟩)
    · have hq := lft_mem.mp (List.mem_of_getElem? h)
      have := lft_lt h1 h (by omega)
      refine ⟨hq.1, by omega, hq.2, fun m hm => ?_⟩
      by_cases c : (r : Int) < nth ts m
      · obtain ⟨j, hj⟩ := List.getElem?_of_mem (lft_mem.mpr ⟨by omega, c⟩ : m ∈ Lft ts n r)
        have a := lft_ix h1 hj (by omega)
        have b := lft_ix hj h (by omega)
        omega
      · omega
    · have hq := lft_mem.mp (List.mem_of_getElem? h)
      have := lft_lt h h1 (by omega)
      refine ⟨hq.1, by omega, hq.2, fun m hm => ?_⟩
      by_cases c : (r : Int) < nth ts m
      · obtain ⟨j, hj⟩ := List.getElem?_of_mem (lft_mem.mpr ⟨by omega, c⟩ : m ∈ Lft ts n r)
        have a := lft_ix h hj (by omega)
        have b := lft_ix hj h1 (by omega)
        omega
      · omega
/-- as long as something is left, something vanishes -/
theorem next_time {e t : Nat → Int} {n : Nat} (h : ∀ j, j < n → Eqn e t n j) (r : Nat) : ∀ (d j : Nat), j < n → (r : Int) < t j → t j ≤ r + 1 + d → ∃ k, k < n ∧ t k = r + 1
  | 0, j, hj, h1, h2 => ⟨j, hj, by omega⟩
  | d + 1, j, hj, h1, h2 => by
    by_cases c : t j = r + 1
    · exact ⟨j, hj, c⟩
    · obtain ⟨_, _, h3⟩ := h j hj
      rcases h3 with h3 | ⟨k, hk, h3⟩
      · omega
      · exact next_time h r d k hk.1 (by omega) (by omega)
theorem filter_len_lt {l : List Nat} {p q : Nat → Bool} (h : ∀ x ∈ l, p x = true → q x = true) (hx : ∃ x ∈ l, q x = true ∧ p x = false) : (l.filter p).length < (l.filter q).length := by
  induction l with
  | nil => obtain ⟨x, hx, _⟩ := hx; cases hx
  | cons y l ih =>
    have hm : ∀ x ∈ l, p x = true → q x = true := fun x hx => h x (List.mem_cons_of_mem _ hx)
    have le : ∀ (l : List Nat), (∀ x ∈ l, p x = true → q x = true) → (l.filter p).length ≤ (l.filter q).length := by
      intro l
      induction l with
      | nil => intro _; exact Nat.le_refl _
      | cons z l ih =>
        intro hz
        have ih' := ih fun x hx => hz x (List.mem_cons_of_mem _ hx)
        rw [List.filter_cons, List.filter_cons]
        cases hp : p z with
        | true =>
          rw [hz z List.mem_cons_self hp]
          simp only [if_true, List.length_cons]
          omega
        | false =>
          simp only [Bool.false_eq_true, if_false]
          split
          · rw [List.length_cons]
            omega
          · exact ih'
    rw [List.filter_cons, List.filter_cons]
    obtain ⟨x, hx, hq, hp⟩ := hx
    rcases List.mem_cons.mp hx with rfl | hx
    · rw [hq, hp]
      simp only [if_true, Bool.false_eq_true, if_false, List.length_cons]
      have := le l hm
      omega
    · have ih' := ih hm ⟨x, hx, hq, hp⟩
      cases hp' : p y with
      | true =>
        rw [h y List.mem_cons_self hp']
        simp only [if_true, List.length_cons]
        omega
      | false =>
        simp only [Bool.false_eq_true, if_false]
        split
        · rw [List.length_cons]
          omega
        · exact ih'
theorem lft_less {row ts : List Int} {r : Nat} (h : IsT row ts) (hne : Lft ts row.length r ≠ []) : (Lft ts row.length (r + 1)).length < (Lft ts row.length r).length := by
  obtain ⟨j, hj⟩ := List.exists_mem_of_ne_nil _ hne
  obtain ⟨h1, h2⟩ := lft_mem.mp hj
  obtain ⟨k, k1, k2⟩ := next_time h.2 r (nth ts j).toNat j h1 h2 (by omega)
  refine filter_len_lt (fun x _ hx => ?_) ⟨k, List.mem_range.mpr k1, decide_eq_true (by omega), decide_eq_false (by omega)⟩
  have := of_decide_eq_true hx
  exact decide_eq_true (by omega)
theorem lft_next (ts : List Int) (n r : Nat) : (Lft ts n r).filter (fun j => decide (nth ts j ≠ (r : Int) + 1)) = Lft ts n (r + 1) := by
  unfold Lft
  rw [List.filter_filter]
  congr 1
  funext j
  rw [Bool.eq_iff_iff, Bool.and_eq_true, decide_eq_true_iff, decide_eq_true_iff, decide_eq_true_iff]
  omega
end PX

/-! PV: rows from right to left; times joined with a greater one between; how many different ones. -/
namespace PX
open PySem L2
theorem nth_rev {xs : List Int} {i : Nat} (h : i < xs.length) : nth xs.reverse i = nth xs (xs.length - 1 - i) := by
  unfold nth
  rw [List.getElem?_reverse h]
theorem IsT.rev {row ts : List Int} (h : IsT row ts) : IsT row.reverse ts.reverse := by
  have hl := h.1
  refine ⟨by rw [List.length_reverse, List.length_reverse, hl], fun j hj => ?_⟩
  rw [List.length_reverse] at hj ⊢
  have hs : ∀ k, k < row.length → (Sees (nth row.reverse) row.length j k ↔ Sees (nth row) row.length (row.length - 1 - j) (row.length - 1 - k)) := by
    intro k hk
    constructor
    · rintro ⟨a, b, c⟩
      refine ⟨by omega, by omega, fun m hm => ?_⟩
      have := c (row.length - 1 - m) (by omega)
      rw [nth_rev hj, nth_rev (by omega), show row.length - 1 - (row.length - 1 - m) = m by omega] at this
      exact this
    · rintro ⟨a, b, c⟩
      refine ⟨hk, by omega, fun m hm => ?_⟩
      rw [nth_rev hj, nth_rev (by omega)]
      exact c _ (by omega)
  have e : ∀ k, k < row.length → nth ts.reverse k = nth ts (row.length - 1 - k) := fun k hk => by rw [nth_rev (by omega), hl]
  obtain ⟨p, q, r⟩ := h.2 (row.length - 1 - j) (by omega)
  refine ⟨by rw [e j hj]; exact p, fun k hk => ?_, ?_⟩
  · rw [e j hj, e k hk.1]
    exact q _ ((hs k hk.1).mp hk)
  · rw [e j hj]
    rcases r with r | ⟨k, hk, r⟩
    · exact Or.inl r
    · have hk1 := hk.1
      refine Or.inr ⟨row.length - 1 - k, (hs _ (by omega)).mpr ?_, ?_⟩
      · rw [show row.length - 1 - (row.length - 1 - k) = k by omega]
        exact hk
      · rw [e _ (by omega), show row.length - 1 - (row.length - 1 - k) = k by omega]
        exact r
theorem nodup_len {l : List Int} : ∀ {l' : List Int}, l.Nodup → (∀ a ∈ l, a ∈ l') → l.length ≤ l'.length := by
  induction l with
  | nil => intro l' _ _; exact Nat.zero_le _
  | cons x l ih =>
    intro l' hn hs
    have hx := hs x List.mem_cons_self
    obtain ⟨h1, h2⟩ := List.nodup_cons.mp hn
    have := ih (l' := l'.erase x) h2 fun a ha => (List.mem_erase_of_ne (a := a) (b := x) (fun (e : a = x) => h1 (by rw [← e]; exact ha))).mpr (hs a (List.mem_cons_of_mem _ ha))
    rw [List.length_erase_of_mem hx] at this
    have : 0 < l'.length := List.length_pos_of_mem hx
    rw [List.length_cons]
    omega
/-- two rows of times beside one another with a greater one between -/
theorem IsT.join {r1 t1 r2 t2 : List Int} {s g : Int} (h1 : IsT r1 t1) (h2 : IsT r2 t2) (hs : ∀ x ∈ r1 ++ r2, s < x) (hg : g = 1 + max (maxD 0 t1) (maxD 0 t2)) : IsT (r1 ++ [s] ++ r2) (t1 ++ [g] ++ t2) := by
  have l1 := h1.1
  have l2 := h2.1
  have hn : (r1 ++ [s] ++ r2).length = r1.length + 1 + r2.length := by simp only [List.length_append, List.length_singleton]
  have a1 : ∀ j, j < r1.length → nth (r1 ++ [s] ++ r2) j = nth r1 j := fun j hj => by rw [List.append_assoc, nth_app hj]
  have a2 : nth (r1 ++ [s] ++ r2) r1.length = s := by
    rw [List.append_assoc, nth_app2 (Nat.le_refl _), Nat.sub_self]
    rfl
  have a3 : ∀ j, j < r2.length → nth (r1 ++ [s] ++ r2) (r1.length + 1 + j) = nth r2 j := fun j hj => by
    rw [nth_app2 (by rw [List.length_append, List.length_singleton]; omega), List.length_append, List.length_singleton]
    congr 1
    omega
  have b1 : ∀ j, j < r1.length → nth (t1 ++ [g] ++ t2) j = nth t1 j := fun j hj => by rw [List.append_assoc, nth_app (by omega)]
  have b2 : nth (t1 ++ [g] ++ t2) r1.length = g := by
    rw [List.append_assoc, nth_app2 (by omega), l1, Nat.sub_self]
    rfl
  have b3 : ∀ j, j < r2.length → nth (t1 ++ [g] ++ t2) (r1.length + 1 + j) = nth t2 j := fun j hj => by
    rw [nth_app2 (by rw [List.length_append, List.length_singleton]; omega), List.length_append, List.length_singleton]
    congr 1
    omega
  have s1 : ∀ j, j < r1.length → s < nth r1 j := fun j hj => hs _ (List.mem_append_left _ (nth_mem hj))
  have s2 : ∀ j, j < r2.length → s < nth r2 j := fun j hj => hs _ (List.mem_append_right _ (nth_mem hj))
  refine ⟨by simp only [List.length_append, List.length_singleton]; omega, fun j hj => ?_⟩
  rw [hn] at hj ⊢
  by_cases c : j < r1.length
  · have hsee : ∀ k, Sees (nth (r1 ++ [s] ++ r2)) (r1.length + 1 + r2.length) j k ↔ Sees (nth r1) r1.length j k := by
      intro k
      constructor
      · rintro ⟨x, y, z⟩
        have hk : k < r1.length := by
          by_cases hk : k < r1.length
          · exact hk
          · have := z r1.length (Or.inl ⟨c, by omega⟩)
            rw [a1 j c, a2] at this
            have := s1 j c
            omega
        refine ⟨hk, y, fun m hm => ?_⟩
        have := z m hm
        rw [a1 j c, a1 m (by omega)] at this
        exact this
      · rintro ⟨x, y, z⟩
        refine ⟨by omega, y, fun m hm => ?_⟩
        rw [a1 j c, a1 m (by omega)]
        exact z m hm
    obtain ⟨p, q, r⟩ := h1.2 j c
    refine ⟨by rw [b1 j c]; exact p, fun k hk => ?_, ?_⟩
    · have hk' := (hsee k).mp hk
      rw [b1 j c, b1 k hk'.1]
      exact q k hk'
    · rw [b1 j c]
      rcases r with r | ⟨k, hk, r⟩
      · exact Or.inl r
      · exact Or.inr ⟨k, (hsee k).mpr hk, by rw [b1 k hk.1]; exact r⟩
  · by_cases c2 : j = r1.length
    · subst c2
      have pos1 : ∀ y ∈ t1, y ≤ maxD 0 t1 := fun y hy => maxD_ge hy
      have pos2 : ∀ y ∈ t2, y ≤ maxD 0 t2 := fun y hy => maxD_ge hy
      have n1 : 0 ≤ maxD 0 t1 := by
        by_cases c : t1 = []
        · rw [c]
          exact Int.le_refl _
        · have := h1.pos _ (maxD_mem (d := 0) c)
          omega
      have n2 : 0 ≤ maxD 0 t2 := by
        by_cases c : t2 = []
        · rw [c]
          exact Int.le_refl _
        · have := h2.pos _ (maxD_mem (d := 0) c)
          omega
      have vis : ∀ k, k < r1.length + 1 + r2.length → k ≠ r1.length → Sees (nth (r1 ++ [s] ++ r2)) (r1.length + 1 + r2.length) r1.length k := by
        intro k hk hne
        refine ⟨hk, hne, fun m hm => ?_⟩
        rw [a2]
        by_cases cm : m < r1.length
        · rw [a1 m cm]
          exact s1 m cm
        · rw [show m = r1.length + 1 + (m - (r1.length + 1)) by omega, a3 _ (by omega)]
          exact s2 _ (by omega)
      refine ⟨by rw [b2]; omega, fun k hk => ?_, ?_⟩
      · rw [b2]
        by_cases cm : k < r1.length
        · rw [b1 k cm]
          have := pos1 _ (nth_mem (xs := t1) (i := k) (by omega))
          omega
        · have hk1 := hk.1
          have hk2 := hk.2.1
          rw [show k = r1.length + 1 + (k - (r1.length + 1)) by omega, b3 _ (by omega)]
          have := pos2 _ (nth_mem (xs := t2) (i := k - (r1.length + 1)) (by omega))
          omega
      · rw [b2]
        by_cases c0 : g = 1
        · exact Or.inl c0
        · right
          by_cases cm : maxD 0 t2 ≤ maxD 0 t1
          · have hne : t1 ≠ [] := by
              intro e
              rw [e] at hg cm
              have : maxD 0 ([] : List Int) = 0 := rfl
              omega
            obtain ⟨i, hi, ei⟩ := mem_nth (maxD_mem (d := 0) hne)
            refine ⟨i, vis i (by omega) (by omega), ?_⟩
            rw [b1 i (by omega), ei]
            omega
          · have hne : t2 ≠ [] := by
              intro e
              rw [e] at cm
              have : maxD 0 ([] : List Int) = 0 := rfl
              omega
            obtain ⟨i, hi, ei⟩ := mem_nth (maxD_mem (d := 0) hne)
            refine ⟨r1.length + 1 + i, vis _ (by omega) (by omega), ?_⟩
            rw [b3 i (by omega), ei]
            omega
    · obtain ⟨i, rfl⟩ : ∃ i, j = r1.length + 1 + i := ⟨j - (r1.length + 1), by omega⟩
      have hi : i < r2.length := by omega
      have hsee : ∀ k, Sees (nth (r1 ++ [s] ++ r2)) (r1.length + 1 + r2.length) (r1.length + 1 + i) k ↔ ∃ k', k = r1.length + 1 + k' ∧ Sees (nth r2) r2.length i k' := by
        intro k
        constructor
        · rintro ⟨x, y, z⟩
          have hk : r1.length < k := by
            by_cases hk : r1.length < k
            · exact hk
            · have := z r1.length (Or.inr ⟨by omega, by omega⟩)
              rw [a3 i hi, a2] at this
              have := s2 i hi
              omega
          refine ⟨k - (r1.length + 1), by omega, by omega, by omega, fun m hm => ?_⟩
          have := z (r1.length + 1 + m) (by omega)
          rw [a3 i hi, a3 m (by omega)] at this
          exact this
        · rintro ⟨k', rfl, x, y, z⟩
          refine ⟨by omega, by omega, fun m hm => ?_⟩
          rw [a3 i hi, show m = r1.length + 1 + (m - (r1.length + 1)) by omega, a3 _ (by omega)]
          exact z _ (by omega)
      obtain ⟨p, q, r⟩ := h2.2 i hi
      refine ⟨by rw [b3 i hi]; exact p, fun k hk => ?_, ?_⟩
      · obtain ⟨k', rfl, hk'⟩ := (hsee k).mp hk
        rw [b3 i hi, b3 k' hk'.1]
        exact q k' hk'
      · rw [b3 i hi]
        rcases r with r | ⟨k, hk, r⟩
        · exact Or.inl r
        · exact Or.inr ⟨r1.length + 1 + k, (hsee _).mpr ⟨k, rfl, hk⟩, by rw [b3 k hk.1]; exact r⟩
end PX

/-! PW: texts of lists of ints have room; how many different ones a list has. -/
namespace PX
open PySem L2
theorem textFrom_le : ∀ (ts : List Str) (k : Nat) (acc : Str), (PySem.textFrom k acc ts).length ≤ acc.length + PySem.piled ts
  | [], k, acc => by rw [PySem.piled_nil]; exact Nat.le_refl _
  | t :: r, k, acc => by
    have ih := textFrom_le r (k + 1) (acc ++ (if k > 0 then ", " else "" : String) ++ t)
    have e : (acc ++ (if k > 0 then ", " else "" : String) ++ t).length = acc.length + (if k > 0 then 2 else 0) + t.length := by
      rw [PySem.strLen_append, PySem.strLen_append]
      split <;> rfl
    rw [e] at ih
    rw [PySem.piled_cons]
    show (PySem.textFrom (k + 1) _ r).length ≤ _
    have : (if k > 0 then 2 else 0 : Nat) ≤ 2 := by split <;> omega
    omega
theorem ints_shown : ∀ (xs : List Int), (∀ x ∈ xs, x.natAbs.log2 < 1920) → PyData.showableAll (xs.map PyData.int) = true ∧ PySem.piled (PyData.shownAll (xs.map PyData.int)) ≤ xs.length * 1923
  | [], _ => ⟨rfl, Nat.le_refl _⟩
  | x :: r, h => by
    obtain ⟨h1, h2⟩ := ints_shown r fun y hy => h y (List.mem_cons_of_mem _ hy)
    have hx := h x List.mem_cons_self
    refine ⟨?_, ?_⟩
    · simp only [List.map_cons, PyData.showableAll, PyData.showable, h1, Bool.and_true]
      exact decide_eq_true hx
    · simp only [List.map_cons, PyData.shownAll, PyData.shown]
      rw [PySem.piled_cons, List.length_cons]
      have h3 := PyProof.Rows.int_text_len_1921 hx
      have h4 : ((toString x : Str)).length ≤ 1921 := h3
      omega
theorem repr_ok {xs : List Int} (h : ∀ x ∈ xs, x.natAbs.log2 < 1920) (hl : xs.length ≤ 1000) : ∃ t, reprO xs = some t := by
  obtain ⟨h1, h2⟩ := ints_shown xs h
  refine ⟨_, if_pos ⟨?_, ?_⟩⟩
  · show (PyData.list (xs.map PyData.int)).showable = true
    simp only [PyData.showable]
    exact h1
  · show (PyData.list (xs.map PyData.int)).shown.length ≤ line
    simp only [PyData.shown]
    have h3 := textFrom_le (PyData.shownAll (xs.map PyData.int)) 0 "["
    have e : (PySem.listText (PyData.shownAll (xs.map PyData.int))).length = (PySem.textFrom 0 "[" (PyData.shownAll (xs.map PyData.int))).length + 1 := by
      show (PySem.textFrom 0 "[" _ ++ "]").length = _
      rw [PySem.strLen_append]
      rfl
    have e2 : ("[" : Str).length = 1 := rfl
    have e3 : line = 16000000 := rfl
    rw [e]
    rw [e2] at h3
    omega
theorem dedup_inv : ∀ (xs acc : List Int), acc.Nodup → (xs.foldl PyProof.Rows.step_dedup acc).Nodup ∧ ∀ y, y ∈ xs.foldl PyProof.Rows.step_dedup acc ↔ y ∈ acc ∨ y ∈ xs
  | [], acc, h => ⟨h, fun y => by simp⟩
  | x :: r, acc, h => by
    have hs : (PyProof.Rows.step_dedup acc x).Nodup ∧ ∀ y, y ∈ PyProof.Rows.step_dedup acc x ↔ y ∈ acc ∨ y = x := by
      unfold PyProof.Rows.step_dedup
      by_cases c : acc.any (· == x) = true
      · rw [if_pos c]
        refine ⟨h, fun y => ⟨Or.inl, fun z => z.elim id fun e => ?_⟩⟩
        obtain ⟨w, hw, e2⟩ := List.any_eq_true.mp c
        rw [e, ← eq_of_beq e2]
        exact hw
      · rw [if_neg c]
        have hx : x ∉ acc := fun hm => c (List.any_eq_true.mpr ⟨x, hm, beq_self_eq_true x⟩)
        refine ⟨List.nodup_append.mpr ⟨h, by simp, fun a ha b hb => ?_⟩, fun y => by simp⟩
        rw [List.mem_singleton.mp hb]
        exact fun e => hx (e ▸ ha)
    obtain ⟨h1, h2⟩ := dedup_inv r _ hs.1
    refine ⟨h1, fun y => ?_⟩
    rw [List.foldl_cons, h2, hs.2, List.mem_cons]
    constructor
    · rintro ((z | z) | z)
      · exact Or.inl z
      · exact Or.inr (Or.inl z)
      · exact Or.inr (Or.inr z)
    · rintro (z | z | z)
      · exact Or.inl (Or.inl z)
      · exact Or.inl (Or.inr z)
      · exact Or.inr z
theorem range_getD (xs : List Int) : (List.range xs.length).map (fun i => xs.getD i 0) = xs := by
  apply List.ext_getElem?
  intro i
  rw [List.getElem?_map]
  by_cases c : i < xs.length
  · rw [List.getElem?_range c, List.getElem?_eq_getElem c]
    simp [List.getD, c]
  · rw [List.getElem?_eq_none (by rw [List.length_range]; omega), List.getElem?_eq_none (by omega)]
    rfl
theorem dif_spec (xs : List Int) : (dif xs).Nodup ∧ ∀ y, y ∈ dif xs ↔ y ∈ xs := by
  unfold dif PyProof.Rows.firstMet
  rw [range_getD]
  obtain ⟨h1, h2⟩ := dedup_inv xs [] List.nodup_nil
  exact ⟨h1, fun y => by rw [h2]; simp⟩
theorem dif_len {xs : List Int} {top : Nat} (h1 : ∀ y ∈ xs, 0 ≤ y ∧ y < top) (h2 : ∀ v : Nat, v < top → (v : Int) ∈ xs) : (dif xs).length = top := by
  obtain ⟨hn, hm⟩ := dif_spec xs
  have hr : ((List.range top).map fun (x : Nat) => (x : Int)).length = top := by rw [List.length_map, List.length_range]
  have hrn : ((List.range top).map fun (x : Nat) => (x : Int)).Nodup := by
    refine List.Pairwise.map _ (fun a b hab => ?_) List.nodup_range
    omega
  have a := nodup_len hn (l' := (List.range top).map fun (x : Nat) => (x : Int)) fun y hy => by
    have := h1 y ((hm y).mp hy)
    exact List.mem_map.mpr ⟨y.toNat, List.mem_range.mpr (by omega), by omega⟩
  have b := nodup_len hrn (l' := dif xs) fun y hy => by
    obtain ⟨v, hv, rfl⟩ := List.mem_map.mp hy
    exact (hm _).mpr (h2 v (List.mem_range.mp hv))
  omega
/-- the different ones of the row of point 9 -/
theorem dif_row {row ts : List Int} (h : IsT row ts) : ((dif (ts.map fun x => maxD 0 ts - x)).length : Int) = maxD 0 ts := by
  have hl := h.1
  have n0 : 0 ≤ maxD 0 ts := by
    by_cases c : ts = []
    · rw [c]
      exact Int.le_refl _
    · have := h.pos _ (maxD_mem (d := 0) c)
      omega
  have hd := dif_len (xs := ts.map fun x => maxD 0 ts - x) (top := (maxD 0 ts).toNat) (fun y hy => ?_) fun v hv => ?_
  · omega
  · obtain ⟨t, ht, rfl⟩ := List.mem_map.mp hy
    have := h.pos t ht
    have := maxD_ge (d := 0) ht
    omega
  · have hne : ts ≠ [] := by
      intro e
      rw [e] at hv
      have : maxD 0 ([] : List Int) = 0 := rfl
      omega
    obtain ⟨i, hi, ei⟩ := mem_nth (maxD_mem (d := 0) hne)
    obtain ⟨k, k1, k2⟩ := next_time h.2 ((maxD 0 ts).toNat - v - 1) (nth ts i).toNat i (by omega) (by omega) (by omega)
    exact List.mem_map.mpr ⟨nth ts k, nth_mem (by omega), by omega⟩
end PX

/-! PY: a row after some rounds: its entries, its times, its peaks. -/
namespace PX
open PySem L2
theorem zip_range {row ts : List Int} (h : ts.length = row.length) : List.zip row ts = (List.range row.length).map fun j => (nth row j, nth ts j) := by
  apply List.ext_getElem?
  intro i
  by_cases c : i < row.length
  · rw [List.getElem?_map, List.getElem?_range c, (List.getElem?_zip_eq_some (z := (nth row i, nth ts i))).mpr ⟨nth_some c, nth_some (by omega)⟩]
    rfl
  · rw [List.getElem?_eq_none (by rw [List.length_zip]; omega), List.getElem?_eq_none (by rw [List.length_map, List.length_range]; omega)]
theorem enum_range (ts : List Int) : enumI ts = (List.range ts.length).map fun (j : Nat) => ((j : Int), nth ts j) := by
  apply List.ext_getElem?
  intro i
  by_cases c : i < ts.length
  · rw [List.getElem?_map, List.getElem?_range c]
    unfold enumI
    rw [List.getElem?_map, List.getElem?_zipIdx, nth_some c]
    simp
  · rw [List.getElem?_eq_none (by rw [enumI_length]; omega), List.getElem?_eq_none (by rw [List.length_map, List.length_range]; omega)]
/-- the row after r rounds, and its times -/
def Rst (row ts : List Int) (r : Nat) : List Int := (Lft ts row.length r).map fun j => nth row j
def RstT (row ts : List Int) (r : Nat) : List Int := (Lft ts row.length r).map fun j => nth ts j - r
theorem nth_mapL {L : List Nat} {f : Nat → Int} {i j : Nat} (h : L[i]? = some j) : nth (L.map f) i = f j := by
  apply nth_of
  rw [List.getElem?_map, h]
  rfl
theorem lft_some {ts : List Int} {n r i : Nat} (h : i < (Lft ts n r).length) : ∃ j, (Lft ts n r)[i]? = some j ∧ j < n ∧ (r : Int) < nth ts j := by
  have h1 := List.getElem?_eq_getElem h
  exact ⟨_, h1, lft_mem.mp (List.mem_of_getElem? h1)⟩
theorem lft_at {ts : List Int} {n r j : Nat} (h1 : j < n) (h2 : (r : Int) < nth ts j) : ∃ i, i < (Lft ts n r).length ∧ (Lft ts n r)[i]? = some j := by
  obtain ⟨i, hi⟩ := List.getElem?_of_mem (lft_mem.mpr ⟨h1, h2⟩)
  exact ⟨i, (List.getElem?_eq_some_iff.mp hi).1, hi⟩
theorem lft_eq {ts : List Int} {n r i j p q : Nat} (h1 : (Lft ts n r)[i]? = some p) (h2 : (Lft ts n r)[j]? = some q) : i < j ↔ p < q := ⟨lft_lt h1 h2, lft_ix h1 h2⟩
theorem rst_is {row ts : List Int} (h : IsT row ts) (r : Nat) : IsT (Rst row ts r) (RstT row ts r) := by
  unfold Rst RstT
  have hlen := h.1
  refine ⟨by rw [List.length_map, List.length_map], ?_⟩
  rw [List.length_map]
  have hst := eqn_stand h.2
  have hsp := eqn_steps h.2
  refine eqn_of (fun i hi => ?_) (fun p q hp hq hne hm hle => ?_) fun j hj h1 => ?_
  · obtain ⟨j, e, _, h2⟩ := lft_some hi
    rw [nth_mapL e]
    omega
  · obtain ⟨P, eP, hP, hP2⟩ := lft_some hp
    obtain ⟨Q, eQ, hQ, hQ2⟩ := lft_some hq
    rw [nth_mapL eP] at hle ⊢
    rw [nth_mapL eQ] at hle ⊢
    have hne' : P ≠ Q := fun e => by
      rcases Nat.lt_or_gt_of_ne hne with c | c
      · have := (lft_eq eP eQ).mp c
        omega
      · have := (lft_eq eQ eP).mp c
        omega
    refine hst P Q hP hQ hne' (fun m' hm' => ?_) (by omega)
    by_cases c : (r : Int) < nth ts m'
    · obtain ⟨m, _, em⟩ := lft_at (n := row.length) (show m' < row.length by omega) c
      have := hm m (by
        rcases hm' with ⟨a, b⟩ | ⟨a, b⟩
        · exact Or.inl ⟨(lft_eq eP em).mpr a, (lft_eq em eQ).mpr b⟩
        · exact Or.inr ⟨(lft_eq eQ em).mpr a, (lft_eq em eP).mpr b⟩)
      rw [nth_mapL em, nth_mapL eP] at this
      omega
    · omega
  · obtain ⟨J, eJ, hJ, hJ2⟩ := lft_some hj
    rw [nth_mapL eJ] at h1
    obtain ⟨K, ⟨hK, hKJ, hbt⟩, hKt, hKe⟩ := hsp J hJ (by omega)
    obtain ⟨k, hk, ek⟩ := lft_at hK (show (r : Int) < nth ts K by omega)
    refine ⟨k, ⟨hk, fun e => ?_, fun m hm => ?_⟩, ?_, ?_⟩
    · rw [e, eJ] at ek
      exact hKJ (Option.some.inj ek).symm
    · have hml : m < (Lft ts row.length r).length := by omega
      obtain ⟨M, eM, hM, hM2⟩ := lft_some hml
      rw [nth_mapL eM, nth_mapL eJ]
      have := hbt M (by
        rcases hm with ⟨a, b⟩ | ⟨a, b⟩
        · refine Or.inl ⟨(lft_eq eJ eM).mp a, ?_⟩
          by_cases c : m = k
          · rw [c, ek] at eM
            exact Nat.le_of_eq (Option.some.inj eM).symm
          · exact Nat.le_of_lt ((lft_eq eM ek).mp (by omega))
        · refine Or.inr ⟨?_, (lft_eq eM eJ).mp b⟩
          by_cases c : m = k
          · rw [c, ek] at eM
            exact Nat.le_of_eq (Option.some.inj eM)
          · exact Nat.le_of_lt ((lft_eq ek eM).mp (by omega)))
      omega
    · rw [nth_mapL ek, nth_mapL eJ]
      omega
    · rw [nth_mapL ek, nth_mapL eJ]
      exact hKe
/-- an entry has the time 1 where no neighbour is greater -/
theorem peak_at {row ts : List Int} {i : Nat} (h : IsT row ts) (hi : i < row.length) : nth ts i = 1 ↔ nth row (i - 1) ≤ nth row i ∧ (i + 1 < row.length → nth row (i + 1) ≤ nth row i) := by
  obtain ⟨h1, h2, h3⟩ := h.2 i hi
  have hp : ∀ k, k < row.length → 1 ≤ nth ts k := fun k hk => (h.2 k hk).1
  constructor
  · intro e
    constructor
    · by_cases c : nth row (i - 1) ≤ nth row i
      · exact c
      · have hi0 : i ≠ 0 := fun z => by
          subst z
          exact c (Int.le_refl _)
        have := h2 (i - 1) ⟨by omega, by omega, fun m hm => by
          have : m = i - 1 := by omega
          rw [this]
          omega⟩
        have := hp (i - 1) (by omega)
        omega
    · intro hn
      by_cases c : nth row (i + 1) ≤ nth row i
      · exact c
      · have := h2 (i + 1) ⟨by omega, by omega, fun m hm => by
          have : m = i + 1 := by omega
          rw [this]
          omega⟩
        have := hp (i + 1) hn
        omega
  · rintro ⟨a, b⟩
    rcases h3 with e | ⟨k, ⟨k1, k2, k3⟩, _⟩
    · exact e
    · rcases Nat.lt_or_gt_of_ne k2 with c | c
      · have := k3 (i - 1) (Or.inr ⟨by omega, by omega⟩)
        omega
      · have := k3 (i + 1) (Or.inl ⟨by omega, by omega⟩)
        have := b (by omega)
        omega
/-- how many rounds a row needs -/
def topN (ts : List Int) : Nat := (maxD 0 ts).toNat
theorem topN_int {row ts : List Int} (h : IsT row ts) : (topN ts : Int) = maxD 0 ts := by
  unfold topN
  by_cases c : ts = []
  · rw [c]
    rfl
  · have := h.pos _ (maxD_mem (d := 0) c)
    omega
theorem lft_nil {row ts : List Int} (h : IsT row ts) {r : Nat} : Lft ts row.length r = [] ↔ topN ts ≤ r := by
  have ht := topN_int h
  have hlen := h.1
  constructor
  · intro e
    by_cases c : ts = []
    · rw [c]
      exact Nat.zero_le _
    · obtain ⟨j, hj, ej⟩ := mem_nth (maxD_mem (d := 0) c)
      by_cases c2 : topN ts ≤ r
      · exact c2
      · have : j ∈ Lft ts row.length r := lft_mem.mpr ⟨by omega, by omega⟩
        rw [e] at this
        cases this
  · intro e
    cases hl : Lft ts row.length r with
    | nil => rfl
    | cons j l =>
      have := lft_mem.mp (show j ∈ Lft ts row.length r by rw [hl]; exact List.mem_cons_self)
      have := maxD_ge (d := 0) (nth_mem (xs := ts) (i := j) (by omega))
      omega
theorem rst_nil {row ts : List Int} (h : IsT row ts) {r : Nat} : Rst row ts r = [] ↔ topN ts ≤ r := by
  unfold Rst
  rw [List.map_eq_nil_iff]
  exact lft_nil h
theorem rst_zero {row ts : List Int} (h : IsT row ts) : Rst row ts 0 = row := by
  have hlen := h.1
  unfold Rst
  have e : Lft ts row.length 0 = List.range row.length := by
    unfold Lft
    refine List.filter_eq_self.mpr fun j hj => ?_
    have := (h.2 j (List.mem_range.mp hj)).1
    exact decide_eq_true (by omega)
  rw [e]
  apply ext_nth
  · rw [List.length_map, List.length_range]
  · intro i hi
    rw [List.length_map, List.length_range] at hi
    exact nth_mapL (List.getElem?_range hi)
/-- from the zip of a row and its times -/
theorem rst_zip {row ts : List Int} (h : ts.length = row.length) (r : Nat) : ((List.zip row ts).filter fun x => decide ((r : Int) < x.2)).map (fun x => x.1) = Rst row ts r := by
  rw [zip_range h, List.filter_map, List.map_map]
  rfl
theorem lft_enum {row ts : List Int} (h : ts.length = row.length) (r : Nat) : ((enumI ts).filter fun x => decide ((r : Int) < x.2)).map (fun x => x.1) = (Lft ts row.length r).map fun (j : Nat) => (j : Int) := by
  rw [enum_range, List.filter_map, List.map_map, h]
  rfl
theorem lft_add (ts : List Int) (n r s : Nat) : (Lft ts n r).filter (fun j => decide ((s : Int) < nth ts j - r)) = Lft ts n (r + s) := by
  unfold Lft
  rw [List.filter_filter]
  refine List.filter_congr fun j _ => ?_
  rw [Bool.eq_iff_iff]
  simp only [Bool.and_eq_true, decide_eq_true_eq]
  omega
/-- the rest's rest -/
theorem rst_rst {row ts : List Int} (r s : Nat) : Rst (Rst row ts r) (RstT row ts r) s = Rst row ts (r + s) := by
  have e : (RstT row ts r).length = (Rst row ts r).length := by
    unfold Rst RstT
    rw [List.length_map, List.length_map]
  rw [← rst_zip e]
  unfold Rst RstT
  rw [← lft_add]
  generalize Lft ts row.length r = L
  induction L with
  | nil => rfl
  | cons j l ih =>
    simp only [List.map_cons, List.zip_cons_cons, List.filter_cons]
    by_cases c : (s : Int) < nth ts j - r
    · simp [c, ih]
    · simp [c, ih]
/-- where the peaks of the rest stand -/
theorem lft_at_time (ts : List Int) (n r : Nat) : (Lft ts n r).filter (fun j => decide (nth ts j = (r : Int) + 1)) = (List.range n).filter fun j => decide (nth ts j = (r : Int) + 1) := by
  unfold Lft
  rw [List.filter_filter]
  refine List.filter_congr fun j _ => ?_
  rw [Bool.eq_iff_iff]
  simp only [Bool.and_eq_true, decide_eq_true_eq]
  omega
theorem lft_nodup (ts : List Int) (n r : Nat) : (Lft ts n r).Nodup := List.Pairwise.filter _ List.nodup_range
theorem map_range_get {L : List Nat} {α : Type} (f : Nat → α) (d : Nat) : (List.range L.length).map (fun i => f (L.getD i d)) = L.map f := by
  apply List.ext_getElem?
  intro i
  by_cases c : i < L.length
  · rw [List.getElem?_map, List.getElem?_range c, List.getElem?_map, List.getElem?_eq_getElem c]
    simp [List.getD, List.getElem?_eq_getElem c]
  · rw [List.getElem?_eq_none (by rw [List.length_map, List.length_range]; omega), List.getElem?_eq_none (by rw [List.length_map]; omega)]
theorem filter_range_get {L : List Nat} (p : Nat → Bool) (d : Nat) : ((List.range L.length).filter (fun i => p (L.getD i d))).map (fun i => L.getD i d) = L.filter p := by
  have e : L = (List.range L.length).map fun i => L.getD i d := by
    have := map_range_get (L := L) (fun j => j) d
    rw [List.map_id'] at this
    exact this.symm
  conv => rhs; rw [e]
  rw [List.filter_map]
  rfl
end PX

/-! PXp: values of many kinds, lists of them; what they are; tuple(xs), repr of True and False. -/
namespace PX
open PySem L2
inductive Elt where
  | non
  | bl (b : Bool)
  | int (i : Int)
  | str (s : Str)
  | tup (l : List Int)
  | lst (l : List Int)
  | dic
def Elt.rel (G : Hp) (v : V) : Elt → Prop
  | .non => v = .non
  | .bl b => v = .bl b
  | .int i => v = .int i
  | .str s => v = .str s
  | .tup l => ∃ a, v = .ref a ∧ G a = some (.tup (l.map V.int))
  | .lst l => ∃ a, v = .ref a ∧ G a = some (.lst (l.map V.int))
  | .dic => ∃ a, v = .ref a ∧ G a = some (.dK [])
instance : Rep Elt where
  rel := fun _ G v x => x.rel G v
  mono := fun {K G G' v x} e h => by
    cases x with
    | tup l => exact ⟨h.choose, h.choose_spec.1, e _ _ h.choose_spec.2⟩
    | lst l => exact ⟨h.choose, h.choose_spec.1, e _ _ h.choose_spec.2⟩
    | dic => exact ⟨h.choose, h.choose_spec.1, e _ _ h.choose_spec.2⟩
    | _ => exact h
inductive Val where
  | one (e : Elt)
  | many (l : List Elt)
instance : Rep Val where
  rel := fun K G v x => match x with
    | .one e => Rep.rel K G v e
    | .many l => Rep.rel K G v l
  mono := fun {K G G' v x} e h => by
    cases x with
    | one y => exact Rep.mono (α := Elt) e h
    | many l => exact Rep.mono (α := List Elt) e h
/-- data whose type is known at run time -/
class DynTy (α : Type) extends Rep α where
  tn : α → String
  ty : ∀ {K : PySem.W.Frag} {G : Hp} {v : V} {x : α}, Rep.rel K G v x → TyX K G v (.type (tn x))
def Elt.tn : Elt → String
  | .non => "NoneType"
  | .bl _ => "bool"
  | .int _ => "int"
  | .str _ => "str"
  | .tup _ => "tuple"
  | .lst _ => "list"
  | .dic => "dict"
theorem Elt.ty {K : PySem.W.Frag} {G : Hp} {v : V} {x : Elt} (h : Rep.rel K G v x) : TyX K G v (.type x.tn) := by
  cases x with
  | non => cases (show v = .non from h); exact .base .non
  | bl b => cases (show v = .bl b from h); exact .base (.bl _)
  | int i => cases (show v = .int i from h); exact .base (.int _)
  | str s => cases (show v = .str s from h); exact .base (.str _)
  | tup l =>
    obtain ⟨a, e, q⟩ := h
    subst e
    exact .base (.tup q)
  | lst l =>
    obtain ⟨a, e, q⟩ := h
    subst e
    exact .base (.lst q)
  | dic =>
    obtain ⟨a, e, q⟩ := h
    subst e
    exact .base (.dK q)
instance : DynTy Elt where
  tn := Elt.tn
  ty := Elt.ty
def Val.tn : Val → String
  | .one e => e.tn
  | .many _ => "list"
instance : DynTy Val where
  tn := Val.tn
  ty := fun {K G v x} h => by
    cases x with
    | one e => exact Elt.ty h
    | many l =>
      obtain ⟨a, vs, h1, h2, h3⟩ := h
      subst h1
      exact .base (.lst h2)
def isD {α : Type} [DynTy α] (N : String) (x : α) : Bool := (kitB (DynTy.tn x) N).getD false
theorem kitS {t N : String} (ht : t = "NoneType" ∨ t = "bool" ∨ t = "int" ∨ t = "str" ∨ t = "tuple" ∨ t = "list" ∨ t = "dict") (h : N = "list" ∨ N = "int" ∨ N = "bool") : ∃ b, kitB t N = some b := by
  rcases h with rfl | rfl | rfl <;> rcases ht with rfl | rfl | rfl | rfl | rfl | rfl | rfl <;> first | exact ⟨true, by decide +kernel⟩ | exact ⟨false, by decide +kernel⟩
theorem kitE (x : Elt) {N : String} (h : N = "list" ∨ N = "int" ∨ N = "bool") : ∃ b, kitB (DynTy.tn x) N = some b := kitS (by cases x <;> simp [DynTy.tn, Elt.tn]) h
theorem kitV (x : Val) {N : String} (h : N = "list" ∨ N = "int" ∨ N = "bool") : ∃ b, kitB (DynTy.tn x) N = some b := by
  cases x with
  | one e => exact kitE e h
  | many l => exact kitS (t := "list") (by simp) h
/-- the items of a list -/
def asL : Val → Option (List Elt)
  | .many l => some l
  | .one (.lst l) => some (l.map .int)
  | .one _ => none
theorem rels_elt {K : PySem.W.Frag} {G : Hp} : ∀ (l : List Int), Rels K G (l.map V.int) (l.map Elt.int)
  | [] => .nil
  | x :: r => .cons (show Rep.rel K G (V.int x) (Elt.int x) from rfl) (rels_elt r)
section
variable {X : Cx} {σ : L2.St} {H G : Hp} {a : Expr} {es : List Expr} {pos p : Pos}
theorem EvX.to {α β : Type} [Rep α] [Rep β] {x : α} {y : β} (h : EvX X a σ H G x) (k : ∀ v G', Rep.rel X.K G' v x → Rep.rel X.K G' v y) : EvX X a σ H G y := fun H1 G1 s Q q => h H1 G1 s Q fun v H2 G2 s2 r2 => q v H2 G2 s2 (k v G2 r2)
theorem ev_eNon (h : EvX X a σ H G ()) : EvX X a σ H G Elt.non := h.to fun _ _ r => r
theorem ev_eBl {b : Bool} (h : EvX X a σ H G b) : EvX X a σ H G (Elt.bl b) := h.to fun _ _ r => r
theorem ev_eInt {i : Int} (h : EvX X a σ H G i) : EvX X a σ H G (Elt.int i) := h.to fun _ _ r => r
theorem ev_eStr {i : Str} (h : EvX X a σ H G i) : EvX X a σ H G (Elt.str i) := h.to fun _ _ r => r
theorem ev_eLst {l : List Int} (h : EvX X a σ H G l) : EvX X a σ H G (Elt.lst l) := h.to fun _ _ ⟨b, vs, h1, h2, h3⟩ => ⟨b, h1, by rw [rels_int h3] at h2; exact h2⟩
theorem ev_eTup {l : List Int} {k1} (h : EvL X es σ H G l) (hz : l.length ≤ 100000 := by decide) : EvX X (.Tuple es k1 pos) σ H G (Elt.tup l) := fun H1 G1 s Q k =>
  toE (pe_tup pa_wp) (show wpA X es σ H1 _ from h H1 G1 s _ fun vs H2 G2 s2 r2 => ⟨by rw [Paired.len r2]; exact Nat.le_trans hz (by decide), fun d nd => by
    rw [rels_int r2]
    exact k _ _ (upd G2 d (.tup (l.map V.int))) (s2.trans (Rc.newG s2.sub nd)) ⟨d, rfl, upd_same⟩⟩)
theorem ev_eDic : EvX X (.Dict [] [] pos) σ H G Elt.dic := fun H1 G1 s Q k =>
  toE pe_dnewK (fun d nd => k _ _ (upd G1 d (.dK [])) (Rc.newG s.sub nd) ⟨d, rfl, upd_same⟩)
theorem ev_asElts {l : List Int} (h : EvX X a σ H G l) : EvX X a σ H G (l.map Elt.int) := h.to fun _ _ ⟨b, vs, h1, h2, h3⟩ => ⟨b, vs, h1, h2, by rw [rels_int h3]; exact rels_elt l⟩
theorem ev_vOne {e : Elt} (h : EvX X a σ H G e) : EvX X a σ H G (Val.one e) := h.to fun _ _ r => r
theorem ev_vMany {l : List Elt} (h : EvX X a σ H G l) : EvX X a σ H G (Val.many l) := h.to fun _ _ r => r
theorem ev_asL {x : Val} {l : List Elt} (hl : asL x = some l) (h : EvX X a σ H G x) : EvX X a σ H G l := h.to fun v G' r => by
  cases x with
  | many m =>
    cases hl
    exact r
  | one e =>
    cases e with
    | lst m =>
      cases hl
      obtain ⟨b, h1, h2⟩ := r
      exact ⟨b, _, h1, h2, rels_elt m⟩
    | _ => cases hl
theorem ev_tupleE {l : List Int} (hm : X.mg "tuple" = none) (ha : EvX X a σ H G l) (hg : Gl X "tuple" := by rfl) (he : starEach [a] X.env = (false, eval a X.env) :: starEach [] X.env := by rfl) : EvX X (.Call (.Name "tuple" p) [a] [] pos) σ H G (Elt.tup l) :=
  ev_ty call_tuple_of hm (by decide +kernel) (ea_cons ha ea_nil he) (fun vs H1 G1 s r Q k => by
    obtain ⟨v, rfl, d, ws, q1, q2, q3⟩ := args1 r
    rw [rels_int q3] at q2
    exact ⟨d, l.map V.int, by rw [q1], .inl ⟨.inl (.inl (s.sub _ _ q2)), fun t nt => k _ _ (upd G1 t (.tup (l.map V.int))) (Rc.newG s.sub nt) ⟨t, rfl, upd_same⟩⟩⟩) hg (by decide) (by decide) he
theorem ev_isiD {α : Type} [DynTy α] {x : α} {T : Str} {N : String} {pT : Pos} (hk : ∃ b, kitB (DynTy.tn x) N = some b) (hm : X.mg "isinstance" = none) (hmT : X.mg T = none) (hvT : bootBuiltins T = some (.type N)) (ha : EvX X a σ H G x)
    (hg : Gl X "isinstance" := by rfl) (hgT : Gl X T := by rfl) (hn : T ≠ "__name__" := by decide) (hd : (T == ("__debug__" : Str)) = false := by decide) (he : starEach [a, .Name T pT] X.env = (false, eval a X.env) :: starEach [.Name T pT] X.env := by rfl)
    (he2 : starEach [.Name T pT] X.env = (false, eval (.Name T pT) X.env) :: starEach [] X.env := by rfl) (hpl : (backTo pos (starEach [.Name T pT] X.env)).any (·.1) = false := by rfl) : EvX X (.Call (.Name "isinstance" p) [a, .Name T pT] [] pos) σ H G (isD N x) := fun H1 G1 s Q k => by
  obtain ⟨b, hb⟩ := hk
  have e : isD N x = b := by
    unfold isD
    rw [hb]
    rfl
  rw [e] at k
  exact toE (pe_callB call_isi hg hm (by decide +kernel) (pa_cons pe_wp (pa_cons (pe_bltn (v := .ty N) hgT hmT hvT rfl hn hd) pa_nil he2) he) (by decide) (by decide) he hpl) (show wpE X a σ H1 _ from ha H1 G1 s _ fun v H2 G2 s2 r2 =>
    ⟨v, .ty N, _, _, b, rfl, .ty N, DynTy.ty (Rep.mono s2.sub r2), kit_ty hb, k _ H2 G2 s2 rfl⟩)
def reprB (b : Bool) : Str := if b then "True" else "False"
theorem call_repr_bl : CallR X (.builtin "repr") (fun xs H Q => ∃ b, xs = [.bl b] ∧ Q (.str (reprB b)) H) := by
  intro pins s σ H xs us Q I r h
  obtain ⟨b, rfl, q⟩ := h
  obtain ⟨u, rfl, rx⟩ := vals1 r
  cases (show u = Value.bool b from rx)
  exact PySem.P.repr_of_bool ⟨.str _, H, I.tok _, ⟨_, rfl⟩, q⟩
theorem ev_reprB {b : Bool} (hm : X.mg "repr" = none) (ha : EvX X a σ H G b) (hg : Gl X "repr" := by rfl) (he : starEach [a] X.env = (false, eval a X.env) :: starEach [] X.env := by rfl) : EvX X (.Call (.Name "repr" p) [a] [] pos) σ H G (reprB b) :=
  ev_bi call_repr_bl hm (by decide +kernel) (ea_cons ha ea_nil he) (fun vs H1 G1 s r Q k => by
    obtain ⟨v, rfl, hv⟩ := args1 r
    exact ⟨b, by rw [show v = V.bl b from hv], k _ H1 G1 (Rc.refl s.sub) rfl⟩) hg (by decide) (by decide) he
end
/-! ### displays of many items: kept from being run by the elaborator -/
section
variable {α : Type} [Rep α] {X : Cx} {σ : L2.St} {H G : Hp} {e : Expr} {es : List Expr} {pos : Pos} {x : α}
@[irreducible] def EvLI (X : Cx) (es : List Expr) (σ : L2.St) (H G : Hp) (xs : List α) : Prop := EvL X es σ H G xs
theorem eli_nil : EvLI X [] σ H G ([] : List α) := by
  unfold EvLI
  exact el_nil
theorem eli_cons {xs : List α} (h : EvX X e σ H G x) (r : EvLI X es σ H G xs) (hs : starEach (e :: es) X.env = (false, eval e X.env) :: starEach es X.env := by rfl) : EvLI X (e :: es) σ H G (x :: xs) := by
  unfold EvLI at r ⊢
  exact el_cons h r hs
theorem EvN.ofLst {xs : List α} (he : Expr.List es pos = e) (h : EvLI X es σ H G xs) (hz : xs.length ≤ 100000 := by decide) : EvN X e σ H G xs := by
  unfold EvLI at h
  subst he
  exact ev_lst h hz
end
end PX

/-! PXq: list(enumerate(xs)). -/
namespace PX
open PySem PySem.W PySem.Calls PyProof.Rows L2
theorem en_no_len : typeLookup (.type "enumerate") "__len__" = pure none := by rw [typeLookup_type, builtinLookup_eq_fast]; kernel_rfl
theorem en_no_hint : typeLookup (.type "enumerate") "__length_hint__" = pure none := by rw [typeLookup_type, builtinLookup_eq_fast]; kernel_rfl
/-- an enumerate over a list, between two items; its first pair, once handed out, stays in use -/
def EnSt (h : Heap) (e it l S : Addr) (i : Nat) (items : Array Value) : Prop :=
  h.IsListIter it l i ∧ h.IsList l items ∧ ((∃ old, IsEnum h e it i old) ∨ ∃ old T f oT, IsEnumHeld h e it i old T f ∧ h.get? T = some oT ∧ T ≠ e ∧ T ≠ it ∧ T ≠ S)
theorem EnSt.keep {h h' : Heap} {e it l S : Addr} {i : Nat} {items : Array Value} (x : EnSt h e it l S i items) (hk : ∀ b o, b ≠ S → h.get? b = some o → h'.get? b = some o) (he : e ≠ S) (hi : it ≠ S) (hl : l ≠ S) : EnSt h' e it l S i items := by
  obtain ⟨a, b, c⟩ := x
  refine ⟨a.at fun o x => hk _ o hi x, b.at fun o x => hk _ o hl x, ?_⟩
  rcases c with ⟨old, c⟩ | ⟨old, T, f, oT, c, d, r1, r2, r3⟩
  · exact .inl ⟨old, hk _ _ he c⟩
  · exact .inr ⟨old, T, f, oT, hk _ _ he c, hk _ _ r3 d, r1, r2, r3⟩
section
variable {prog : Program} {w : World} {A : Around} {E : Value → Shared → Prop} {s : Shared} {e it l S : Addr} {items : Array Value}
theorem EnSt.type {h : Heap} {i : Nat} (x : EnSt h e it l S i items) : ∃ o, h.get? e = some o ∧ o.cls = .type "enumerate" := by
  rcases x.2.2 with ⟨old, c⟩ | ⟨old, T, f, oT, c, _⟩
  · exact ⟨_, c, rfl⟩
  · exact ⟨_, c, rfl⟩
theorem en_item {i : Nat} {x : Value} {Q : Option Value → Shared → Prop} (st : EnSt s.heap e it l S i items) (hei : e ≠ it) (hle : l ≠ e) (hli : l ≠ it) (hS : S < s.heap.objs.size) (hx : items[i]? = some x)
    (hQ : ∀ h', EnSt h' e it l S (i + 1) items → h'.get? s.heap.objs.size = some { cls := .type "tuple", data := .seq #[.int i s.toks, x] } →
      (∀ b o, b ≠ e → b ≠ it → s.heap.get? b = some o → h'.get? b = some o) → Q (some (.ref s.heap.objs.size)) { s with heap := h', toks := s.toks + 1 }) :
    wpAny (model prog w) A (pyNext (.ref e)) Q E s := by
  obtain ⟨hit, hl, he⟩ := st
  have ec : ((i + 1 : Nat) : Int) = (i : Int) + 1 := by omega
  have nit : s.heap.objs.size ≠ it := let ⟨_, x, _⟩ := hit; Nat.ne_of_gt (Heap.lt_size x)
  rcases he with ⟨old, he⟩ | ⟨old, T, f, oT, he, hT, r1, r2, r3⟩
  · refine wpAny_pyNext_enum_item he hit hl hx hei fun h' ho hit' hT hsz hk => ?_
    exact hQ h' ⟨hit', hl.at fun o x => hk l o hle hli x, .inr ⟨_, s.heap.objs.size, false, _, (by rw [ec]; exact ho), hT, Nat.ne_of_gt (Heap.lt_size he), nit, Nat.ne_of_gt hS⟩⟩ hT hk
  · refine wpAny_pyNext_enum_item_held he hT r1 r2 hit hl hx hei fun h' ho hit' hT' hsz hk => ?_
    exact hQ h' ⟨hit', hl.at fun o x => hk l o hle hli x, .inr ⟨old, T, true, oT, (by rw [ec]; exact ho), hk _ _ r1 r2 hT, r1, r2, r3⟩⟩ hT' hk
theorem en_done {i : Nat} {Q : Option Value → Shared → Prop} (hA : A.handled = none) (st : EnSt s.heap e it l S i items) (hx : items[i]? = none) (hQ : ∀ h', Heap.ExtBut it s.heap h' → Q none { s with heap := h' }) :
    wpAny (model prog w) A (pyNext (.ref e)) Q E s := by
  obtain ⟨hit, hl, he⟩ := st
  rcases he with ⟨old, he⟩ | ⟨old, T, f, oT, he, hT, r1, r2, r3⟩
  · exact wpAny_pyNext_enum_end hA he hit hl hx hQ
  · exact wpAny_pyNext_enum_end_held hA he hit hl hx hQ
theorem en_hint (hT : s.TypeIs (.ref e) "enumerate") {Q : Bool → Shared → Prop} (h : Q true s) : wpAny (model prog w) A (Builtin.List.listLengthHint (.ref e)) Q E s := by
  unfold Builtin.List.listLengthHint
  refine wpAny_bind (wpAny_specialOf hT en_no_len ?_)
  show wpAny _ _ (specialOf (Value.ref e) (Str.ofString "__length_hint__") >>= _) _ _ _
  refine wpAny_bind (wpAny_specialOf hT en_no_hint ?_)
  exact wpAny_pure h
end
section
variable {prog : Program} {w : World} {K : Type} [DecidableEq K] {knd : KeyKind prog w K} {A : Around} {E : Value → Shared → Prop} {s : Shared} {R : Result → Shared → Prop} {vs : List (K × Value)} {e it l S : Addr} {items : Array Value}
theorem en_loop (hh : A.handled = none) (hSe : e < S) (hSi : it < S) (hSl : l ≠ S) (hei : e ≠ it) (hle : l ≠ e) (hli : l ≠ it) (hn : items.size ≤ sizeLine) (hl : vs.length = items.size)
    (hv : ∀ i x, items[i]? = some x → ∃ k, vs[i]? = some (k, x) ∧ ∀ t, knd.is k (.int (i : Nat) t) = true) (res : Value) {h₁ : Heap}
    (hR : ∀ h' tk acc c as, (∀ b o, b ≠ S → b ≠ e → b ≠ it → h₁.get? b = some o → h'.get? b = some o) → h'.get? S = some { cls := .type "list", dict := none, data := .seq acc c, slots := #[] } → as.length = vs.length → KdxG knd vs S h' as →
      acc.toList = as.map Value.ref → R (.ok (.ret res)) { s with heap := h', toks := tk }) :
    ∀ (k i : Nat) (h : Heap) (tk c : Nat) (acc : Array Value) (as : List Addr), items.size - i = k → i ≤ items.size → EnSt h e it l S i items → (∀ b o, b ≠ S → b ≠ e → b ≠ it → h₁.get? b = some o → h.get? b = some o) →
      h.get? S = some { cls := .type "list", dict := none, data := .seq acc c, slots := #[] } → acc.toList = as.map Value.ref → as.length = i → KdxG knd vs S h as →
      codeAny (model prog w) A (.builtin "list.extend.loop" ⟨[.ref S, .ref e, res], []⟩) R { s with heap := h, toks := tk } := by
  have ne1 : e ≠ S := Nat.ne_of_lt hSe
  have ne2 : it ≠ S := Nat.ne_of_lt hSi
  intro k
  induction k with
  | zero =>
    intro i h tk c acc as hk hi hst hkeep hS hacc hal hG
    have hin : i = items.size := by omega
    refine codeAny_builtin PySem.F.entry_extend_loop ?_
    rw [Around.under_plainId PySem.F.plain_extend_loop _]
    show wpAny _ A.in1 (pyNext (.ref e) >>= _) _ _ _
    refine wpAny_bind (en_done (s := { s with heap := h, toks := tk }) (A := A.in1) hh hst (Array.getElem?_eq_none (by omega)) fun h' he => ?_)
    refine wpAny_pure (hR h' tk acc c as (fun b o h1 h2 h3 x => he b o h3 (hkeep b o h1 h2 h3 x)) (he S _ (Ne.symm ne2) hS) (by omega) ⟨hG.rise, hG.above, fun j a hj => ?_⟩ hacc)
    obtain ⟨key, kk, x, e1, e2, e3⟩ := hG.pairs j a hj
    have hb := hG.above a (List.mem_of_getElem? hj)
    exact ⟨key, kk, x, e1, e2, he a _ (Nat.ne_of_gt (Nat.lt_trans hSi hb)) e3⟩
  | succ k ih =>
    intro i h tk c acc as hk hi hst hkeep hS hacc hal hG
    have hlt : i < items.size := by omega
    obtain ⟨x, hx⟩ : ∃ x, items[i]? = some x := ⟨items[i], Array.getElem?_eq_getElem hlt⟩
    obtain ⟨kk, hkv, hkey⟩ := hv i x hx
    have hsz : acc.size = i := by rw [← Array.length_toList, hacc, List.length_map, hal]
    have hSl' : S < h.objs.size := Heap.lt_size hS
    refine codeAny_builtin PySem.F.entry_extend_loop ?_
    rw [Around.under_plainId PySem.F.plain_extend_loop _]
    show wpAny _ A.in1 (pyNext (.ref e) >>= _) _ _ _
    refine wpAny_bind (en_item (s := { s with heap := h, toks := tk }) (S := S) hst hei hle hli hSl' hx fun h' hst' ht hkp => ?_)
    dsimp only at ht hkp ⊢
    have hS' := hkp S _ (Ne.symm ne1) (Ne.symm ne2) hS
    have up : ∀ b o, b ≠ S → h'.get? b = some o → (h'.update S (Obj.mapSeq (·.push (Value.ref h.objs.size)))).get? b = some o := fun b o hb e => (Heap.get?_update_other _ _ (Ne.symm hb)).trans e
    show wpAny _ A.in1 (updateSeq S (·.push (Value.ref h.objs.size)) >>= _) _ _ _
    refine wpAny_bind ?_
    refine wpAny_updateSeq hS' rfl (wpAny_pure ⟨plainId_quiet PySem.F.plain_extend_loop _, ih (i + 1) _ (tk + 1) _ (acc.push (Value.ref h.objs.size)) (as ++ [h.objs.size]) (by omega) hlt (hst'.keep up ne1 ne2 hSl)
      (fun b o h1 h2 h3 x => up b o h1 (hkp b o h2 h3 (hkeep b o h1 h2 h3 x))) (Heap.get?_update_self _ hS' rfl) (by rw [Array.toList_push, hacc, List.map_append]; rfl) (by rw [List.length_append, hal]; rfl) ⟨?_, ?_, ?_⟩⟩) (by rw [hsz]; omega) (by show (acc.push (Value.ref h.objs.size)).size ≤ sizeLine + 1; rw [Array.size_push, hsz]; omega)
    · refine List.pairwise_append.mpr ⟨hG.rise, List.pairwise_singleton _ _, fun a ha b hb => ?_⟩
      rw [List.mem_singleton.mp hb]
      exact hG.there ha
    · intro a ha
      rcases List.mem_append.mp ha with ha | ha
      · exact hG.above a ha
      · rw [List.mem_singleton.mp ha]; exact hSl'
    · intro j b hj
      rcases Nat.lt_trichotomy j as.length with h1 | h1 | h1
      · rw [List.getElem?_append_left h1] at hj
        obtain ⟨key', k', x', e1, e2, e3⟩ := hG.pairs j b hj
        have hb := hG.above b (List.mem_of_getElem? hj)
        exact ⟨key', k', x', e1, e2, up b _ (Nat.ne_of_gt hb) (hkp b _ (Nat.ne_of_gt (Nat.lt_trans hSe hb)) (Nat.ne_of_gt (Nat.lt_trans hSi hb)) e3)⟩
      · subst h1
        have hb : h.objs.size = b := by simpa using hj
        subst hb
        exact ⟨_, kk, x, by rw [hal]; exact hkv, hkey _, up _ _ (Nat.ne_of_gt hSl') ht⟩
      · have hnone : (as ++ [h.objs.size])[j]? = none := List.getElem?_eq_none (by rw [List.length_append, List.length_singleton]; omega)
        rw [hnone] at hj; cases hj
theorem en_extend (hh : A.handled = none) (old : Value) (he : IsEnum s.heap e it 0 old) (hit : s.heap.IsListIter it l 0) (hL : s.heap.IsList l items) (hSe : e < S) (hSi : it < S) (hSl : l ≠ S) (hei : e ≠ it) (hle : l ≠ e) (hli : l ≠ it) (hn : items.size ≤ sizeLine) (hl : vs.length = items.size)
    (hv : ∀ i x, items[i]? = some x → ∃ k, vs[i]? = some (k, x) ∧ ∀ t, knd.is k (.int (i : Nat) t) = true) (res : Value) (c₀ : Nat) (hS : s.heap.get? S = some { cls := .type "list", data := .seq #[] c₀ })
    (hR : ∀ h' tk acc c as, (∀ b o, b ≠ S → b ≠ e → b ≠ it → s.heap.get? b = some o → h'.get? b = some o) → h'.get? S = some { cls := .type "list", dict := none, data := .seq acc c, slots := #[] } → as.length = vs.length → KdxG knd vs S h' as →
      acc.toList = as.map Value.ref → R (.ok (.ret res)) { s with heap := h', toks := tk }) :
    wpAny (model prog w) A.in1 (Builtin.List.listExtendWith (.ref S) (.ref e) res)
      (fun fin s' => match fin with | .done f => R (.ok f) s' | .again c' => c'.quiet = true ∧ codeAny (model prog w) A c' R s') (fun e s' => R (.error e) s') s := by
  have ne1 : e ≠ S := Nat.ne_of_lt hSe
  have ne2 : it ≠ S := Nat.ne_of_lt hSi
  have hT : s.TypeIs (.ref e) "enumerate" := ⟨_, he, rfl⟩
  unfold Builtin.List.listExtendWith
  refine wpAny_bind (wpAny_typeOf (T := "enumerate") hT ?_)
  have h1 : Builtin.List.listSameRef (.ref S) (.ref e) = false := by simp [Builtin.List.listSameRef, Ne.symm ne1]
  have h2 : (Value.type "enumerate" == Value.type "list") = false := by decide
  have h3 : (Value.type "enumerate" == Value.type "tuple") = false := by decide
  simp only [h1, h2, h3, Bool.or_false, Bool.false_eq_true, if_false]
  refine wpAny_bind (wpAny_pyIter_enum he ?_)
  refine wpAny_bind (wpAny_holding (en_hint hT ?_))
  refine wpAny_ite_split (fun _ => ?_) (fun hab => absurd rfl hab)
  refine wpAny_bind (wpAny_rule ?_)
  refine wpAny_bind ?_
  show wpAny _ _ (updateSeq S (·.push .none) >>= fun _ => updateSeq S (·.pop)) _ _ _
  refine wpAny_bind (wpAny_updateSeq hS rfl ?_)
  have hS₂ := Heap.get?_update_self (Obj.mapSeq (·.push Value.none)) hS rfl
  refine wpAny_updateSeq (hz := by seq_fits) hS₂ rfl ?_
  have hS₃ := Heap.get?_update_self (Obj.mapSeq (·.pop)) hS₂ rfl
  have up : ∀ b o, b ≠ S → s.heap.get? b = some o → ((s.heap.update S (Obj.mapSeq (·.push Value.none))).update S (Obj.mapSeq (·.pop))).get? b = some o := fun b o hb x =>
    (Heap.get?_update_other _ _ (Ne.symm hb)).trans ((Heap.get?_update_other _ _ (Ne.symm hb)).trans x)
  refine wpAny_pure ⟨plainId_quiet PySem.F.plain_extend_loop _, ?_⟩
  exact en_loop (knd := knd) (vs := vs) (s := s) (h₁ := s.heap) hh hSe hSi hSl hei hle hli hn hl hv res hR items.size 0 _ s.toks _ #[] [] (Nat.sub_zero _) (Nat.zero_le _)
    ⟨hit.at fun o x => up _ o ne2 x, hL.at fun o x => up _ o hSl x, .inl ⟨old, up _ _ ne1 he⟩⟩ (fun b o hb _ _ x => up b o hb x) hS₃ rfl rfl ⟨List.Pairwise.nil, (fun _ ha => nomatch ha), (fun j a hj => by simp at hj)⟩
theorem en_init {R : Result → Shared → Prop} (hh : A.handled = none) (old : Value) (he : IsEnum s.heap e it 0 old) (hit : s.heap.IsListIter it l 0) (hL : s.heap.IsList l items) (hSe : e < S) (hSi : it < S) (hSl : l ≠ S) (hei : e ≠ it) (hle : l ≠ e) (hli : l ≠ it) (hn : items.size ≤ sizeLine) (hl : vs.length = items.size)
    (hv : ∀ i x, items[i]? = some x → ∃ k, vs[i]? = some (k, x) ∧ ∀ t, knd.is k (.int (i : Nat) t) = true) (hS : s.heap.get? S = some { cls := .type "list", data := .seq #[] })
    (hR : ∀ h' tk acc c as, (∀ b o, b ≠ S → b ≠ e → b ≠ it → s.heap.get? b = some o → h'.get? b = some o) → h'.get? S = some { cls := .type "list", dict := none, data := .seq acc c, slots := #[] } → as.length = vs.length → KdxG knd vs S h' as →
      acc.toList = as.map Value.ref → R (.ok (.ret .none)) { s with heap := h', toks := tk }) :
    wpAny (model prog w) A.in1 (Builtin.«list.__init__» ⟨[.ref S, .ref e], []⟩)
      (fun fin s' => match fin with | .done f => R (.ok f) s' | .again c' => c'.quiet = true ∧ codeAny (model prog w) A c' R s') (fun e s' => R (.error e) s') s := by
  show wpAny _ _ (do let old ← Builtin.List.listItems (.ref S); Builtin.List.listUpdate (.ref S) (fun _ => #[]); letGo old.toList.reverse; Builtin.List.listExtendWith (.ref S) (.ref e) .none) _ _ s
  refine wpAny_bind ?_
  unfold Builtin.List.listItems
  refine wpAny_bind (wpAny_seqItems hS rfl (wpAny_pure ?_))
  show wpAny _ _ (updateSeq S (fun _ => #[]) >>= fun _ => letGo (#[] : Array Value).toList.reverse >>= fun _ => Builtin.List.listExtendWith (.ref S) (.ref e) .none) _ _ s
  refine wpAny_bind (wpAny_updateSeq hS rfl ?_)
  have hS₂ := Heap.get?_update_self (Obj.mapSeq (fun _ => (#[] : Array Value))) hS rfl
  have oth : ∀ b o, b ≠ S → s.heap.get? b = some o → (s.heap.update S (Obj.mapSeq (fun _ => (#[] : Array Value)))).get? b = some o :=
    fun b o hb e => (Heap.get?_update_other _ _ (Ne.symm hb)).trans e
  refine wpAny_bind (wpAny_letGo ?_)
  refine en_extend (knd := knd) (vs := vs) (items := items) hh old (oth _ _ (Nat.ne_of_lt hSe) he) (hit.at fun o x => oth _ o (Nat.ne_of_lt hSi) x) (hL.at fun o x => oth _ o hSl x) hSe hSi hSl hei hle hli hn hl hv .none _ hS₂ (fun h' tk acc c as hk hS' hl hG hacc => ?_)
  exact hR h' tk acc c as (fun b o hb h2 h3 x => hk b o hb h2 h3 (oth b o hb x)) hS' hl hG hacc
theorem en_call {Q : Value → Shared → Prop} (hh : A.handled = none) (old : Value) (he : IsEnum s.heap e it 0 old) (hit : s.heap.IsListIter it l 0) (hL : s.heap.IsList l items) (hei : e ≠ it) (hle : l ≠ e) (hli : l ≠ it) (hn : items.size ≤ sizeLine) (hl : vs.length = items.size)
    (hv : ∀ i x, items[i]? = some x → ∃ k, vs[i]? = some (k, x) ∧ ∀ t, knd.is k (.int (i : Nat) t) = true)
    (hQ : ∀ h' tk acc c as, (∀ b o, b ≠ e → b ≠ it → s.heap.get? b = some o → h'.get? b = some o) → h'.get? s.heap.objs.size = some { cls := .type "list", dict := none, data := .seq acc c, slots := #[] } → as.length = vs.length → KdxG knd vs s.heap.objs.size h' as →
      acc.toList = as.map Value.ref → Q (.ref s.heap.objs.size) { s with heap := h', toks := tk }) :
    wpAny (model prog w) A (call (.type "list") [.ref e]) Q E s := by
  refine callType_codes (Q₁ := fun obj s₁ => obj = .ref s.heap.objs.size ∧ s₁ = { s with heap := s.heap.push { cls := .type "list", data := .seq #[] } }) PySem.F.called_list (PySem.F.typeCall_list_1 _) PySem.F.entry_list_init
    (code_list_new _ ⟨rfl, rfl⟩) fun obj s₁ h₁ => ?_
  obtain ⟨rfl, rfl⟩ := h₁
  have hS : (s.heap.push { cls := .type "list", data := .seq #[] }).get? s.heap.objs.size = some { cls := .type "list", data := .seq #[] } := Heap.get?_push_size _ rfl
  have he1 : e < s.heap.objs.size := Heap.lt_size he
  have hi1 : it < s.heap.objs.size := let ⟨_, ho, _⟩ := hit; Heap.lt_size ho
  have hl1 : l < s.heap.objs.size := let ⟨_, ho, _⟩ := hL; Heap.lt_size ho
  refine ⟨⟨_, hS, rfl⟩, PySem.F.args_list_init_2 _ _, en_init (knd := knd) (vs := vs) (items := items) (A := A.in1) hh old (Heap.get?_push_of_some _ he) (hit.at fun o x => Heap.get?_push_of_some _ x) (hL.at fun o x => Heap.get?_push_of_some _ x) he1 hi1 (Nat.ne_of_lt hl1) hei hle hli hn hl hv hS (fun h' tk acc c as hk hS' hl hG hacc => ?_)⟩
  exact ⟨rfl, hQ h' tk acc c as (fun b o h2 h3 x => hk b o (Nat.ne_of_lt (Heap.lt_size x)) h2 h3 (Heap.get?_push_of_some _ x)) hS' hl hG hacc⟩
end
end PX
namespace PX
open PySem PySem.W PySem.Calls PyProof.Rows L2 LiI
section
variable {X : Cx} {pins : List (Addr × Obj)} {σ : L2.St} {H : Hp} {s : Shared}
/-- the new list and its pairs, laid -/
theorem en_laid {h' : Heap} {tk S : Nat} {kvs : List (Key × V)} {vs : List (Key × Value)} {acc : Array Value} {c : Nat} {as : List Addr} (I : Inv X pins σ H s) (hle : s.heap.objs.size ≤ S) (hz : kvs.length ≤ sizeLine) (kv : KV kvs vs)
    (hk : ∀ b o, s.heap.get? b = some o → h'.get? b = some o) (hS : h'.get? S = some { cls := .type "list", dict := none, data := .seq acc c, slots := #[] }) (hl : as.length = vs.length) (hG : KdxG (mixKind X.prog X.w) vs S h' as) (hacc : acc.toList = as.map Value.ref) :
    ∃ H' : Hp, Ex H H' ∧ H S = none ∧ (∀ t ∈ as, H t = none) ∧ S ∉ as ∧ H' S = some (.lst (as.map V.ref)) ∧ (∀ b, b ∉ as → b ≠ S → H' b = H b) ∧ Paired (fun (t : Addr) (q : Key × V) => H' t = some (.tup [kV q.1, q.2])) as kvs ∧ Inv X pins σ H' { s with heap := h', toks := tk } := by
  have lk : kvs.length = vs.length := Paired.length kv
  have n1 : S ∉ as := fun z => Nat.lt_irrefl _ (hG.above _ z)
  have nd : as.Nodup := hG.rise.imp fun {a b} (h : a < b) => Nat.ne_of_lt h
  have up : ∀ t, t ∈ as → s.heap.objs.size ≤ t := fun t ht => Nat.le_trans hle (Nat.le_of_lt (hG.above t ht))
  have new : ∀ t ∈ as, H t = none := fun t ht => I.hok.fresh (up t ht)
  have newS : H S = none := I.hok.fresh hle
  have atP := putT_at as kvs (upd H S (.lst (as.map V.ref))) (by omega) nd
  have off : ∀ b, b ∉ as → b ≠ S → putT (upd H S (.lst (as.map V.ref))) as kvs b = H b := fun b h1 h2 => by rw [putT_off as kvs _ h1, upd_ne h2]
  have low : ∀ b o, s.heap.get? b = some o → b ∉ as ∧ b ≠ S := fun b o e => ⟨fun z => absurd (Heap.lt_size e) (Nat.not_lt.mpr (up b z)), Nat.ne_of_lt (Nat.lt_of_lt_of_le (Heap.lt_size e) hle)⟩
  have kp : ∀ b u, H b = some u → (putT (upd H S (.lst (as.map V.ref))) as kvs) b = some u := fun b u e => by
    rw [off b (fun z => by rw [new b z] at e; cases e) (fun z => by rw [z, newS] at e; cases e)]
    exact e
  have eS : putT (upd H S (.lst (as.map V.ref))) as kvs S = some (.lst (as.map V.ref)) := by rw [putT_off as kvs _ n1, upd_same]
  refine ⟨putT (upd H S (.lst (as.map V.ref))) as kvs, kp, newS, new, n1, eS, off, atP, ?_⟩
  refine I.call' (ch := []) rfl ⟨fun b o q _ _ _ => hk b o q, fun b o q _ _ _ => ⟨o.slots, hk b o q⟩, fun b o q n _ => ?_, fun b o q _ => ⟨o, hk b o q⟩, fun b xs q => kp b _ q, fun b o u q => kp b _ q, fun b ps q => ⟨#[], by rw [kp b _ q]; simp⟩⟩ (fun b u q => ?_) I.bare fun b z => by simp at z
  · obtain ⟨z1, z2⟩ := low b o q
    rw [off b z1 z2]
    exact n
  · by_cases hb : b ∈ as
    · obtain ⟨j, pk, e1, e2, e3⟩ := paired_ix atP hb
      rw [e3] at q
      cases q
      obtain ⟨key, k, x, f1, f2, f3⟩ := hG.pairs j b e1
      obtain ⟨qv, g1, g2, g3⟩ := L2.paired_get kv e2
      rw [f1] at g1
      cases g1
      have rk : RelV (kV pk.1) key := by
        rw [g2]
        exact relV_key (show keyIs k key = true from f2)
      exact ⟨by show 2 ≤ sizeLine; decide, [key, x], .cons rk (.cons g3 .nil), ⟨_, f3, rfl, _, rfl⟩⟩
    · by_cases hb2 : b = S
      · rw [hb2] at q ⊢
        rw [eS] at q
        cases q
        refine ⟨by rw [List.length_map]; omega, acc.toList, c, by rw [hacc]; exact L2.vals_refs as, ?_⟩
        rw [Array.toArray_toList]
        exact hS
      · rw [off b hb hb2] at q
        exact (I.hok b u q).stay (fun d v _ y => hk d v y) (fun d y => kp d _ y) fun d xs y => kp d _ y
end
/-- the items with their places, as keys -/
def enK {α : Type} : Nat → List α → List (Key × α)
  | _, [] => []
  | i, x :: r => (.inl (i : Int), x) :: enK (i + 1) r
theorem enK_len {α : Type} : ∀ (i : Nat) (xs : List α), (enK i xs).length = xs.length
  | _, [] => rfl
  | i, x :: r => congrArg Nat.succ (enK_len (i + 1) r)
theorem enK_get {α : Type} : ∀ (i : Nat) (xs : List α) (j : Nat) (x : α), xs[j]? = some x → (enK i xs)[j]? = some (.inl ((i + j : Nat) : Int), x)
  | _, [], j, x, h => by cases h
  | i, y :: r, 0, x, h => by
    cases Option.some.inj h
    rfl
  | i, y :: r, j + 1, x, h => by
    have := enK_get (i + 1) r j x h
    rw [show i + 1 + j = i + (j + 1) by omega] at this
    exact this
theorem enK_rel : ∀ (i : Nat) {xs : List V} {us : List Value}, Vals xs us → KV (enK i xs) (enK i us)
  | _, _, _, .nil => .nil
  | i, _, _, .cons r t => .cons ⟨rfl, r⟩ (enK_rel (i + 1) t)
theorem en_key {P : Program} {w : World} (i : Int) (t : Tok) : (mixKind P w).is (.inl i) (.int i t) = true := by
  show Value.isInt i (.int i t) = true
  simp [Value.isInt]
def tListEnum (K : PySem.W.Frag) (ta : TA) : TE := fun σ H Q => ta σ H fun vs H1 => ∃ a xs, vs = [.ref a] ∧ SqL K H1 a xs ∧
  ∀ (H' : Hp) (p : Addr) (ts : List Addr), Ex H1 H' → H1 p = none → (∀ t ∈ ts, H1 t = none) → p ∉ ts → H' p = some (.lst (ts.map V.ref)) → (∀ b, b ∉ ts → b ≠ p → H' b = H1 b) → Paired (fun (t : Addr) (q : Key × V) => H' t = some (.tup [kV q.1, q.2])) ts (enK 0 xs) → Q (.ref p) H'
theorem pe_listEnum {X : Cx} {e : Expr} {ta : TA} {p p2 pos pos2 : Pos} (hc : X.calm = true) (hgl : Gl X "list") (hml : X.mg "list" = none) (hge : Gl X "enumerate") (hme : X.mg "enumerate" = none) (ha : PA X [e] ta) (hs : starEach [e] X.env = [(false, eval e X.env)] := by rfl)
    (hs2 : starEach [.Call (.Name "enumerate" p2) [e] [] pos2] X.env = (false, eval (.Call (.Name "enumerate" p2) [e] [] pos2) X.env) :: starEach [] X.env := by rfl) :
    PE X (.Call (.Name "list" p) [.Call (.Name "enumerate" p2) [e] [] pos2] [] pos) (tListEnum X.K ta) := by
  refine ⟨fun pins s σ H Q I h => ?_⟩
  refine wpAny_Call_Name_kw (ld_blt I hgl hml boot_list ?_)
  refine PyProof.Rows.callWith_type1 ?_ hs2 rfl
  rw [hs2]
  show wpAny _ _ (spliced ((false, eval (.Call (.Name "enumerate" p2) [e] [] pos2) X.env) :: backTo pos (starEach [] X.env))) _ _ s
  refine Calls.spliced_cons ?_
  refine Call_ (ld_blt I hge hme boot_enumerate (PyProof.Rows.callWith_type1 (thn (ha.run pos2 pins s σ H _ I h) fun us s1 ⟨vs, H1, I1, r1, q1⟩ => ?_) hs rfl))
  obtain ⟨a, xs, ex, hq, q⟩ := q1
  subst ex
  cases r1 with
  | cons r rr =>
    cases rr
    cases r
    obtain ⟨its, rv, p', hz⟩ := I1.list hq
    refine call_enumerate_list p'.isList fun h' he hit hsz hk => ?_
    have hlen : xs.length = its.length := rv.length
    have ha1 : a < s1.heap.objs.size := let ⟨_, ho, _⟩ := p'.isList; Heap.lt_size ho
    refine Calls.spliced_nil ?_
    refine en_call (s := { s1 with heap := h' }) (knd := mixKind X.prog X.w) (vs := enK 0 its) (items := its.toArray) (I1.ok.hd hc) .none he hit (p'.isList.at fun o x => hk _ o x) (Nat.succ_ne_self _) (Nat.ne_of_lt (Nat.lt_succ_of_lt ha1)) (Nat.ne_of_lt ha1) (by simp; omega) (by rw [enK_len]; simp)
      (fun i x hx => ⟨.inl (i : Int), by have := enK_get 0 its i x (by simpa using hx); rwa [Nat.zero_add] at this, fun t => en_key (i : Int) t⟩) fun h2 tk acc c as hk2 hS hl hG hacc => ?_
    have hk3 : ∀ b o, s1.heap.get? b = some o → h2.get? b = some o := fun b o x => hk2 b o (fun z => absurd (Heap.lt_size x) (by rw [z]; exact Nat.not_lt.mpr (Nat.le_succ _))) (fun z => absurd (Heap.lt_size x) (by rw [z]; exact Nat.lt_irrefl _)) (hk b o x)
    obtain ⟨H', k1, k2, k3, k4, k5, k6, k7, J⟩ := en_laid (tk := tk) (S := h'.objs.size) I1 (by omega) (by rw [enK_len]; omega) (enK_rel 0 rv) hk3 hS hl hG hacc
    exact ⟨.ref _, H', J, rfl, q H' _ as k1 k2 k3 k4 k5 k6 k7⟩
end PX
namespace PX
open PySem L2
section
variable {α : Type} [Rep α] {X : Cx} {σ : L2.St} {H G : Hp} {a : Expr} {pos pos2 p p2 : Pos}
theorem rels_enum {K : PySem.W.Frag} {G G' H' : Hp} (hx : Ex G G') : ∀ (i : Nat) {ws : List V} {xs : List α} {ts : List Addr}, (∀ t ∈ ts, G' t = H' t) → Rels K G ws xs → Paired (fun (t : Addr) (q : Key × V) => H' t = some (.tup [kV q.1, q.2])) ts (enK i ws) → Rels K G' (ts.map V.ref) ((xs.zipIdx i).map fun q => ((q.2 : Int), q.1))
  | _, _, _, _, _, .nil, .nil => .nil
  | i, _, _, _, m, .cons r t, .cons e f => .cons ⟨_, _, _, rfl, (m _ List.mem_cons_self).trans e, rfl, Rep.mono hx r⟩ (rels_enum hx (i + 1) (fun t ht => m t (List.mem_cons_of_mem _ ht)) t f)
theorem ev_listEnum {xs : List α} (hc : X.calm = true) (hml : X.mg "list" = none) (hme : X.mg "enumerate" = none) (h : EvX X a σ H G xs) (hgl : Gl X "list" := by rfl) (hge : Gl X "enumerate" := by rfl)
    (hs : starEach [a] X.env = [(false, eval a X.env)] := by rfl) (hs2 : starEach [.Call (.Name "enumerate" p2) [a] [] pos2] X.env = (false, eval (.Call (.Name "enumerate" p2) [a] [] pos2) X.env) :: starEach [] X.env := by rfl) :
    EvN X (.Call (.Name "list" p) [.Call (.Name "enumerate" p2) [a] [] pos2] [] pos) σ H G (enumI xs) := fun H1 G1 s Q k =>
  toE (pe_listEnum hc hgl hml hge hme pa_wp hs hs2) (show wpA X [a] σ H1 _ from ea_cons (w := ()) h ea_nil hs H1 G1 s _ fun vs H2 G2 s2 r2 => by
    obtain ⟨v, rfl, d, ws, rfl, q2, q3⟩ := args1 r2
    refine ⟨d, ws, rfl, .inl (.inl (s2.sub _ _ q2)), fun H' q ts k1 k2 k3 k4 k5 k6 k7 => ?_⟩
    have e1 : Ex G2 fun b => if b ∈ ts then H' b else G2 b := fun b u e => by
      by_cases c : b ∈ ts
      · have := s2.sub _ _ e
        rw [k3 b c] at this
        cases this
      · show (if b ∈ ts then H' b else G2 b) = some u
        rw [if_neg c]
        exact e
    refine k q H' (fun b => if b ∈ ts then H' b else G2 b) (s2.trans ⟨e1, fun b u e => ?_, fun b u _ e => k1 b u e, fun b u e => ⟨u, k1 b u e⟩, fun b u e _ n => ?_, fun b u e t u' e' => by rw [k1 b u e] at e'; cases e'; exact t⟩) ?_ ⟨ts.map V.ref, k5, ?_, ?_⟩
    · by_cases c : b ∈ ts
      · simpa [c] using e
      · simp only [if_neg c] at e
        exact k1 b u (s2.sub b u e)
    · by_cases c : b ∈ ts
      · rw [k3 b c] at e
        cases e
      · simp only [if_neg c]
        exact n
    · exact none_back (fun b u e => s2.keep b u (fun z => nomatch z) e) k2
    · show (if q ∈ ts then H' q else G2 q) = none
      rw [if_neg k4]
      exact none_back s2.sub k2
    · exact rels_enum e1 0 (fun t ht => if_pos ht) q3 k7)
end
end PX
namespace PX
open PySem L2
section
variable {X : Cx} {σ : L2.St} {H G : Hp} {α β : Type} [Rep α] [Rep β] {a : Expr} {i j : Nat}
/-- over a list of pairs -/
theorem ei_list2 {xs : List (α × β)} {elts : List Expr} {kk : Nat} {tpos : Pos} (ha : EvX X a σ H G xs) : EvI X (.Tuple elts kk tpos) a (gTup X.K 2 (gCons (gName i) (gCons (gName j) gNil))) σ H G xs (rTwo X.K i j) := fun H1 G1 s Rk q =>
  toI (pi_list pe_wp) (show wpE X a σ H1 _ from wpE_post (ha H1 G1 s _ fun v H2 G2 s2 ⟨d, vs, q1, q2, q3⟩ hl => ⟨d, q1, ⟨vs, .inl (.inl (s2.sub _ _ q2))⟩, q _ H2 G2 s2 ⟨fun n x H' G' hx e1 e2 => by
    obtain ⟨v', k1, k2⟩ := Paired.get q3 hx
    have sq : SqL X.K H' d vs := .inl (.inl (e2 _ _ (e1 _ _ q2)))
    refine ⟨⟨vs, v', sq, k1⟩, fun w H'' ⟨eH, y⟩ σ' Q kk => ?_⟩
    subst eH
    have ew : w = v' := Option.some.inj ((y vs sq).symm.trans k1)
    subst ew
    obtain ⟨t, p, q, rfl, t2, t3, t4⟩ := Rep.mono e1 k2
    exact ⟨t, [p, q], rfl, .inl (.inl (e2 _ _ t2)), rfl, p, [q], rfl, q, [], rfl, rfl, kk (fun σ => (σ.set i (some p)).set j (some q)) G' (Rc.refl e2) ⟨p, q, t3, t4, rfl⟩⟩, fun H' G' e1 e2 => ⟨vs, .inl (.inl (e2 _ _ (e1 _ _ q2))), by rw [Paired.len q3]; exact Nat.le_refl _⟩, by rw [← Paired.len q3]; exact hl _ _ (s2.sub _ _ q2), rTwo_mono⟩⟩))
end
end PX
namespace PX
open PySem L2
section
variable {X : Cx} {σ : L2.St} {H : Hp} {a b c : Expr} {pos : Pos} {Q : VK}
theorem wp_ifE (h : wpT X c σ H fun d H1 => if d = true then wpE X a σ H1 Q else wpE X b σ H1 Q) : wpE X (.IfExp c a b pos) σ H Q := toE (pe_ifExp pt_wp pe_wp pe_wp) h
theorem wp_orE (h : wpE X a σ H fun v H1 => ∃ d, v = .bl d ∧ if d = true then Q (.bl true) H1 else wpE X b σ H1 Q) : wpE X (.BoolOp .Or [a, b] pos) σ H Q := toE (pe_or pe_wp (pe_one pe_wp)) h
end
end PX
namespace PX
open PySem L2
section
variable {X : Cx} {σ : L2.St} {H G : Hp} {α : Type} [PyD α] {a b : Expr} {pos : Pos} {x : α} {ys : List α}
/-- x in ys, by what the items are -/
def hasO {α : Type} [PyD α] (x : α) (ys : List α) : Bool := ys.any fun y => @decide (y = x) (PyD.dq y x)
theorem hasO_iff {α : Type} [PyD α] {x : α} {ys : List α} : hasO x ys = true ↔ x ∈ ys := by
  unfold hasO
  rw [List.any_eq_true]
  constructor
  · rintro ⟨y, hy, e⟩
    have : y = x := @of_decide_eq_true _ (PyD.dq y x) e
    exact this ▸ hy
  · intro h
    exact ⟨x, h, @decide_eq_true _ (PyD.dq x x) rfl⟩
theorem any_py (x : α) (ys : List α) : ((ys.map PyD.py).any fun z => PyData.eqv z (PyD.py x)) = hasO x ys := by
  rw [List.any_map]
  unfold hasO
  congr 1
  funext y
  exact PyD.eqv y x
theorem opD_in (h : PyD.dep (List α) ≤ 60) : Opv X.K (rInD X.K) H G x ys (hasO x ys) := fun v w H1 G1 s hv hw Q k =>
  ⟨PyD.py x, ys.map PyD.py, PyD.dp (Rep.mono s.sub hv), PyD.dp (α := List α) (Rep.mono s.sub hw), shaped_py (Nat.le_trans (Nat.le_succ _) h) x, shaped_py (α := List α) h ys, k _ H1 G1 (Rc.refl s.sub) (congrArg V.bl (any_py x ys))⟩
theorem opD_nin (h : PyD.dep (List α) ≤ 60) : Opv X.K (rNotInD X.K) H G x ys (!hasO x ys) := fun v w H1 G1 s hv hw Q k =>
  ⟨PyD.py x, ys.map PyD.py, PyD.dp (Rep.mono s.sub hv), PyD.dp (α := List α) (Rep.mono s.sub hw), shaped_py (Nat.le_trans (Nat.le_succ _) h) x, shaped_py (α := List α) h ys, k _ H1 G1 (Rc.refl s.sub) (congrArg (fun t => V.bl (!t)) (any_py x ys))⟩
theorem et_inD (hu : X.A.units + 65 < cLine) (h : PyD.dep (List α) ≤ 60) (ha : EvX X a σ H G x) (hb : EvX X b σ H G ys) (hm : behindInMarks .In b = false := by rfl) : EvT X (.Compare a [.In] [b] pos) σ H G (hasO x ys) := et_cmp (op_inD hu) hm ha hb (opD_in h)
theorem et_ninD (hu : X.A.units + 65 < cLine) (h : PyD.dep (List α) ≤ 60) (ha : EvX X a σ H G x) (hb : EvX X b σ H G ys) (hm : behindInMarks .NotIn b = false := by rfl) : EvT X (.Compare a [.NotIn] [b] pos) σ H G (!hasO x ys) := et_cmp (op_notInD hu) hm ha hb (opD_nin h)
end
end PX

/-! PXr: texts in written lists; a written dict of texts, indexed at once. -/
namespace PX
open PySem L2
section
variable {X : Cx} {σ : L2.St} {H G : Hp} {a b : Expr} {pos dp : Pos} {i : Str} {xs : List Str}
theorem opInLS {neg : Bool} {f : Bool} (hf : f = if neg then !decide (i ∈ xs) else decide (i ∈ xs)) : Opv X.K (rIn X.K neg) H G i xs f := fun v w H1 G1 s hv hw Q k => by
  obtain ⟨p, ws, w1, w2, w3⟩ := hw
  rw [rels_str w3] at w2
  subst hf
  refine ⟨p, _, w1, .inl (.inl (.inl (s.sub _ _ w2))), by rw [show v = V.str i from hv]; rfl, flat_str, k _ H1 G1 (Rc.refl s.sub) ?_⟩
  rw [show v = V.str i from hv, inV_str]
  cases neg <;> rfl
theorem et_inLS (ha : EvX X a σ H G i) (hb : EvX X b σ H G xs) (hm : behindInMarks .In b = false := by rfl) : EvT X (.Compare a [.In] [b] pos) σ H G (decide (i ∈ xs)) := et_cmp op_in_seq hm ha hb (opInLS rfl)
theorem et_ninLS (ha : EvX X a σ H G i) (hb : EvX X b σ H G xs) (hm : behindInMarks .NotIn b = false := by rfl) : EvT X (.Compare a [.NotIn] [b] pos) σ H G (!decide (i ∈ xs)) := et_cmp op_notIn_seq hm ha hb (opInLS rfl)
theorem units65 {k : Nat} {A : Around} (r : Room k A) : A.units + 65 < cLine := by have := r.un; omega
def keysS (ds : List (Str × Str)) : List (Key × V) := ds.map fun q => (Sum.inr q.1, V.str q.2)
/-- {k: v, ..}[key], keys and values written texts -/
def dicO (ds : List (Str × Str)) (k : Str) : Option Str := match valV (mergeK [] (keysS ds)) (Sum.inr k) with
  | some (.str v) => some v
  | _ => none
theorem dicO_val {ds : List (Str × Str)} {k v : Str} (h : dicO ds k = some v) : valV (mergeK [] (keysS ds)) (Sum.inr k) = some (V.str v) := by
  unfold dicO at h
  split at h
  · rw [← Option.some.inj h]
    assumption
  · cases h
theorem ev_dicS {keys : List (Option Expr)} {values : List Expr} {trs : List (TE × TE)} {ds : List (Str × Str)} {k v : Str} (hu : X.A.units + 64 < cLine) (hp : PPs X dp keys values trs) (hall : keys.all (·.isSome) = true) (hl : keys.length = values.length) (h0 : keys ≠ []) (h15 : keys.length ≤ 15)
    (hr : ∀ (σ : L2.St) (H : Hp) (Q : List (V × V) → Hp → Prop), Q ((keysS ds).map fun kv => (kV kv.1, kv.2)) H → tPairs trs σ H Q) (hz : ds.length ≤ 15) (h : dicO ds k = some v) (hb : EvX X b σ H G k) (hs : NoSl b := by exact fun _ _ => rfl) : EvX X (.Subscript (.Dict keys values dp) b pos) σ H G v := fun H1 G1 s Q q =>
  toE (pe_dget (by omega) (pe_disp hp hall hl h0 h15) pe_wp hs) fun p np => hr _ _ _ ⟨upd_same, keysS ds, rfl, by unfold keysS; rw [List.length_map]; exact hz, by
    have S : Rc [] H1 G1 (upd (upd H1 p (.dK [])) p (.dK (mergeK [] (keysS ds)))) G1 := ⟨Ex.refl G1, fun a o e => by
        have e1 := s.sub a o e
        have n1 := ne_of_none e1 np
        rw [upd_ne n1, upd_ne n1]
        exact e1, fun a o _ e => by
        have n1 := ne_of_none e np
        rw [upd_ne n1, upd_ne n1]
        exact e, fun a o e => ⟨o, by
        have n1 := ne_of_none e np
        rw [upd_ne n1, upd_ne n1]
        exact e⟩, fun _ _ _ _ n => n, fun a o e t u' e' => by
        have n1 := ne_of_none e np
        rw [upd_ne n1, upd_ne n1, e] at e'
        cases e'
        exact t⟩
    refine hb _ _ (s.trans S) _ fun w H2 G2 s2 r2 => ⟨p, V.str v, rfl, ?_, q _ H2 G2 (S.trans s2) rfl⟩
    rw [show w = V.str k from r2, ← dicO_val h]
    exact DGet.k (k := Sum.inr k) (s2.keep _ _ (fun z => nomatch z) upd_same)⟩
end
end PX

/-! PXs: defs that yield, asked for their items by anyone. -/
namespace PX
open PySem L2 PySem.Spec PyProof.Rows GenW

/-- who asks: the objects it keeps for itself, and what they tell of the items that are out -/
structure Asker where
  own : List Addr
  tell : List V → (Addr → Option Obj) → Prop
def NoCell (o : Obj) : Prop := ∀ v, o.data ≠ .cell v
/-- at work since s₀: ys is out -/
def Works (X : Cx) (Z : Asker) (ys : List V) (σ : L2.St) (H : Hp) (s₀ s : Shared) : Prop :=
  ∃ pins : List (Addr × Obj), pins.map (·.1) = Z.own ∧ (∀ p ∈ pins, s₀.heap.get? p.1 = some p.2) ∧ Z.tell ys s₀.heap.get? ∧ Inv X pins σ H s
/-- between two items: whoever asks changes nothing but what it keeps for itself -/
structure Rest (Z : Asker) (ys : List V) (s s' : Shared) : Prop where
  os : s'.os = s.os
  bare : AllBare s'.gens
  keep : ∀ b o, b ∉ Z.own → s.heap.get? b = some o → s'.heap.get? b = some o
  own : ∀ b, b ∈ Z.own → ∃ o, s'.heap.get? b = some o ∧ NoCell o
  tell : Z.tell ys s'.heap.get?
/-- what it keeps is none of the generator's -/
def Aside (X : Cx) (own : List Addr) : Prop := ∀ b ∈ own, X.s_0.heap.objs.size ≤ b ∧ b ≠ X.env.locals ∧ (∀ x c, X.env.cells.lookup x = some c → c ≠ b) ∧ ∀ p ∈ X.pn, p.1 ≠ b
theorem Works.at {X : Cx} {Z : Asker} {ys : List V} {σ : L2.St} {H : Hp} {s₀ s : Shared} (h : Works X Z ys σ H s₀ s) :
    Inv X [] σ H s ∧ ∀ b ∈ Z.own, H b = none ∧ s.heap.get? b = s₀.heap.get? b ∧ b ∉ X.fs := by
  obtain ⟨pins, e, k, _, I⟩ := h
  refine ⟨I.pins_of fun p hp => (nomatch hp), fun b hb => ?_⟩
  rw [← e] at hb
  obtain ⟨p, hp, rfl⟩ := List.mem_map.mp hb
  obtain ⟨h1, h2, _, h4, _⟩ := I.pin p (List.mem_append_right _ hp)
  exact ⟨h2, h1.trans (k p hp).symm, h4⟩
/-- the objects of some addresses, as they stand -/
def seen (h : Heap) (own : List Addr) : List (Addr × Obj) := own.filterMap fun b => (h.get? b).map fun o => (b, o)
theorem seen_map {h : Heap} : ∀ {own : List Addr}, (∀ b, b ∈ own → ∃ o, h.get? b = some o ∧ NoCell o) → (seen h own).map (·.1) = own
  | [], _ => rfl
  | b :: r, k => by
    obtain ⟨o, e, _⟩ := k b List.mem_cons_self
    have ih := seen_map (own := r) fun c hc => k c (List.mem_cons_of_mem _ hc)
    unfold seen at ih ⊢
    rw [List.filterMap_cons, e]
    show b :: _ = _
    rw [ih]
theorem of_seen {h : Heap} {own : List Addr} {p : Addr × Obj} (hp : p ∈ seen h own) : p.1 ∈ own ∧ h.get? p.1 = some p.2 := by
  unfold seen at hp
  obtain ⟨b, hb, e⟩ := List.mem_filterMap.mp hp
  cases q : h.get? b with
  | none => rw [q] at e; cases e
  | some o =>
    rw [q] at e
    cases e
    exact ⟨hb, q⟩
theorem Works.begin {X : Cx} {Z : Asker} {ys : List V} {σ : L2.St} {H : Hp} {s : Shared} (I : Inv X [] σ H s) (hp : Aside X Z.own) (hn : ∀ b ∈ Z.own, H b = none ∧ b ∉ X.fs) (ho : ∀ b, b ∈ Z.own → ∃ o, s.heap.get? b = some o ∧ NoCell o) (ht : Z.tell ys s.heap.get?) : Works X Z ys σ H s s := by
  refine ⟨seen s.heap Z.own, seen_map ho, fun p hp => (of_seen hp).2, ht, I.pins_of fun p hs => ?_⟩
  obtain ⟨h1, h2⟩ := of_seen hs
  obtain ⟨o, e, nc⟩ := ho p.1 h1
  rw [h2] at e
  obtain rfl := Option.some.inj e
  exact ⟨h2, (hn _ h1).1, (hp _ h1).2.1, (hn _ h1).2, nc⟩
/-- it goes on -/
theorem Works.wake {X : Cx} {Z : Asker} {ys ys' : List V} {σ : L2.St} {H : Hp} {s₀ s s' : Shared} (hp : Aside X Z.own) (h : Works X Z ys σ H s₀ s) (z : Rest Z ys' s s') : Works X Z ys' σ H s' s' := by
  obtain ⟨I, hown⟩ := h.at
  have nt : ∀ b u, H b = some u → b ∉ Z.own := fun b u q hb => by
    rw [(hown b hb).1] at q
    cases q
  refine Works.begin (I.call' (ch := Z.own) z.os ⟨fun b o e _ _ hx => z.keep b o hx e, fun b o e _ _ hx => ⟨o.slots, z.keep b o hx e⟩, fun _ _ _ n _ => n, fun b o e hx => ⟨o, z.keep b o hx e⟩, fun _ _ e => e, fun _ _ _ e => e, fun b ps e => ⟨#[], by rw [e]; simp⟩⟩
    (fun b u q => (I.hok b u q).stay (fun c v hc y => z.keep c v ?_ y) (fun _ y => y) fun _ _ y => y) z.bare fun b hb => ?_) hp (fun b hb => ⟨(hown b hb).1, (hown b hb).2.2⟩) z.own z.tell
  · rcases hc with y | y
    · rw [y]; exact nt b u q
    · exact nt c _ y
  · obtain ⟨a1, a2, a3, a4⟩ := hp b hb
    exact ⟨.inr a1, a2, a3, fun p q => (List.mem_append.mp q).elim (a4 p) fun y => nomatch y⟩

/-! ### the protocol -/
def Hands (X : Cx) (Z : Asker) : Protocol := fun n s₀ v s go =>
  ∃ ys x σ H, n + 1 + ys.length = sizeLine ∧ RelV x v ∧ Works X Z ys σ H s₀ s ∧ ∀ s', Rest Z (ys ++ [x]) s s' → go (.send .none) s'
def Behind (X : Cx) (Z : Asker) (D : GEnds) (ys : List V) (f : Flow) (s₀ s : Shared) : Prop :=
  match f with
  | .ret u => ∃ v σ H, Works X Z ys σ H s₀ s ∧ RelV v u ∧ D.rt ys v H
  | .next => ∃ σ H, Works X Z ys σ H s₀ s ∧ D.nx ys σ H
  | .cont => ∃ σ H, Works X Z ys σ H s₀ s ∧ D.ct ys σ H
  | .brk => ∃ σ H, Works X Z ys σ H s₀ s ∧ D.bk ys σ H
structure Where (X : Cx) (Z : Asker) (A : Around) (c : Code) (fs : List Frame) (gd : Bool → Bool) : Prop where
  aside : Aside X Z.own
  over : A.over c fs = X.A
  split : splitAtGen fs = none
  guard : fs.any Frame.guarded = false
  gd : gd false = false
structure What (X : Cx) (Z : Asker) (A : Around) (R : GenEnd) (c : Code) (fs : List Frame) (K : Flow → Sem PySem.Fin) (J : Value → Sem PySem.Fin) (D : GEnds) : Prop where
  ok : ∀ (n : Nat) (ys : List V) (s₀ s : Shared) (f : Flow), n + ys.length = sizeLine → Behind X Z D ys f s₀ s → Seg (model X.prog X.w) A R (Hands X Z) n s₀ c (K f) fs s
  exc : ∀ (n : Nat) (s₀ : Shared) (e : Value) (s : Shared), X.xe e s → Seg (model X.prog X.w) A R (Hands X Z) n s₀ c (J e) fs s
def wpY (X : Cx) (sts : List Stmt) : TGn := fun D ys σ H =>
  ∀ (Z : Asker) (A : Around) (R : GenEnd) (n : Nat) (s₀ : Shared) (c : Code) (fs : List Frame) (K : Flow → Sem PySem.Fin) (J : Value → Sem PySem.Fin) (gd : Bool → Bool) (lv : List Value → List Value) (s : Shared),
    Where X Z A c fs gd → n + ys.length = sizeLine → What X Z A R c fs K J D → Works X Z ys σ H s₀ s → Seg (model X.prog X.w) A R (Hands X Z) n s₀ c ((execs sts X.env).wrap K J gd lv) fs s
section
variable {X : Cx} {st : Stmt} {sts rest : List Stmt} {D : GEnds} {ys : List V} {σ : L2.St} {H G : Hp}
theorem wy_nil (h : D.nx ys σ H) : wpY X [] D ys σ H := fun Z A R n s₀ c fs K J gd lv s g hn k hI => seg_execs_nil (k.ok n ys s₀ s .next hn ⟨σ, H, hI, h⟩)
theorem wy_cons (h : wpS X st { nx := fun σ H => wpY X rest D ys σ H, rt := D.rt ys, bk := D.bk ys, ct := D.ct ys } σ H) : wpY X (st :: rest) D ys σ H := fun Z A R n s₀ c fs K J gd lv s g hn k hI => by
  obtain ⟨pins, e1, e2, e3, I⟩ := hI
  refine seg_execs_cons (seg_wrap ?_)
  rw [g.over]
  refine wpAny_mono (h pins s I) (fun f s' hs => ?_) fun x s' hx => k.exc n s₀ x s' hx
  cases f with
  | next =>
    obtain ⟨σ', H', I', q⟩ := hs
    exact q Z A R n s₀ c fs K J gd lv s' g hn k ⟨pins, e1, e2, e3, I'⟩
  | brk =>
    obtain ⟨σ', H', I', q⟩ := hs
    exact k.ok n ys s₀ s' .brk hn ⟨σ', H', ⟨pins, e1, e2, e3, I'⟩, q⟩
  | cont =>
    obtain ⟨σ', H', I', q⟩ := hs
    exact k.ok n ys s₀ s' .cont hn ⟨σ', H', ⟨pins, e1, e2, e3, I'⟩, q⟩
  | ret u =>
    obtain ⟨v, σ', H', I', r, q⟩ := hs
    exact k.ok n ys s₀ s' (.ret u) hn ⟨v, σ', H', ⟨pins, e1, e2, e3, I'⟩, r, q⟩
theorem wy_yield {γ : Type} [Rep γ] {e : Expr} {yp pos : Pos} {out zs : List γ} {x : γ} (h : EvX X e σ H G x) (g : Ex G H) (ry : Rels X.K G ys out) (ha : appO out x = some zs) (q : ∀ ys' H2 G2, Rc [] H G H2 G2 → Rels X.K G2 ys' zs → wpY X rest D ys' σ H2)
    (hco : X.env.scope.isCoroutine = false := by rfl) (hi : interactive X.env = false := by rfl) : wpY X (.Expr (.Yield (some e) yp) pos :: rest) D ys σ H := by
  obtain ⟨h1, h2⟩ := dite_some ha
  subst h2
  intro Z A R n s₀ c fs K J gd lv s w hn k hI
  have hlt : ys.length < sizeLine := by rw [Paired.len ry]; exact line_lt h1
  obtain ⟨m, rfl⟩ : ∃ m, n = m + 1 := ⟨n - 1, by omega⟩
  obtain ⟨pins, e1, e2, e3, I⟩ := hI
  refine seg_execs_cons (seg_Expr_Yield w.split w.gd w.guard ?_ hco hi)
  rw [w.over]
  refine wpAny_mono ((h.go g (fun v H2 G2 s2 r2 => ⟨G2, s2, r2⟩) : wpE X e σ H fun v H2 => ∃ G2, Rc [] H G H2 G2 ∧ Rep.rel X.K G2 v x) pins s I) (fun u s1 hu => ?_) fun u s1 hu => k.exc _ s₀ u s1 hu
  obtain ⟨v, H1, I1, rv, G2, s2, r2⟩ := hu
  intro go hgo
  have hw : Works X Z ys σ H1 s₀ s1 := ⟨pins, e1, e2, e3, I1⟩
  refine ⟨ys, v, σ, H1, by omega, rv, hw, fun s' z => hgo .none s' ?_⟩
  exact q (ys ++ [v]) H1 G2 s2 (Paired.append (Rels.mono s2.ex ry) (.cons r2 .nil)) Z A R m s' c fs K J gd lv s' w (by rw [List.length_append, List.length_singleton]; omega) k (hw.wake w.aside z)
/-- within a loop's code, over the frame that began it -/
theorem Where.loop {Z : Asker} {A : Around} {c c' : Code} {fs : List Frame} {gd : Bool → Bool} {kk : Result → Sem PySem.Fin} {l kp : List Value} {p : Pos} (w : Where X Z A c fs gd) (h0 : c'.weight = 0) (h1 : c'.cUnits = 0) : Where X Z A c' (.ret kk none (gd false) l c p kp :: fs) id where
  aside := w.aside
  over := (over_loop h0 h1).trans w.over
  gd := rfl
  split := by
    have q : (splitAtGen fs).map (fun x => ((Frame.ret kk none (gd false) l c p kp) :: x.1, x.2)) = none := by rw [w.split]; rfl
    first
      | exact q
      | (show Option.map _ (splitAtGen fs) = none; rw [w.split]; rfl)
  guard := by
    have q : (gd false || fs.any Frame.guarded) = false := by rw [w.gd, w.guard]; rfl
    exact q
/-- an exception is back from a loop's code -/
theorem back_again {Z : Asker} {A : Around} {R : GenEnd} {c : Code} {fs : List Frame} {K : Flow → Sem PySem.Fin} {J : Value → Sem PySem.Fin} {gd : Bool → Bool} {lv : List Value → List Value} {n : Nat} {s₀ s : Shared} {x : Value} (w : Where X Z A c fs gd)
    (hx : ∀ (u : Value) (s1 : Shared), X.xe u s1 → Seg (model X.prog X.w) A R (Hands X Z) n s₀ c (J u) fs s1) (h : cameBackBy (model X.prog X.w) X.A X.env X.xe x s) : Seg (model X.prog X.w) A R (Hands X Z) n s₀ c (((Sem.raise x : Sem Flow).onRaise (cameBack X.env)).wrap K J gd lv) fs s := by
  have q : ((Sem.raise x : Sem Flow).onRaise (cameBack X.env)).wrap K J gd lv = (cameBack X.env x).wrap (fun _ => J x) J (fun b => gd (id b)) (fun l => lv (id l)) := by
    have q1 : (Sem.raise x : Sem Flow).onRaise (cameBack X.env) = (cameBack X.env x).wrap (fun _ => (Sem.raise x : Sem Flow)) Sem.raise id id := Sem.bind_eq_wrap (cameBack X.env x) fun _ => (Sem.raise x : Sem Flow)
    rw [q1, Sem.wrap_wrap]
    rfl
  rw [q]
  refine seg_wrap ?_
  rw [w.over]
  exact wpAny_mono h (fun _ s1 h1 => hx x s1 h1) hx
/-- a loop's code, whatever began it -/
theorem loop_code {S γ : Type} [Rep γ] {test : S → Option Bool} {body : S × List γ → Option (Ctl Unit (S × List γ))} {cc : Ctl Unit (S × List γ)} {tc : Expr} (hp : PassesOwn (model X.prog X.w) X.A X.env X.xe) (I : S → L2.St → Hp → Hp → Prop)
    (ht : ∀ s σ1 H1 G1 b, test s = some b → I s σ1 H1 G1 → wpT X tc σ1 H1 fun b' H2 => b' = b ∧ ∃ G2, Rc [] H1 G1 H2 G2)
    (hm : ∀ s σ1 H1 G1 H2 G2, I s σ1 H1 G1 → Rc [] H1 G1 H2 G2 → I s σ1 H2 G2)
    (hb : ∀ s o σ1 H1 G1 c' ys, test s = some true → body (s, o) = some c' → I s σ1 H1 G1 → Rels X.K G1 ys o →
      wpY X sts { nx := fun ys σ H => ∃ s' o' G, c' = .nx (s', o') ∧ I s' σ H G ∧ Rels X.K G ys o', rt := fun _ _ _ => False } ys σ1 H1)
    {Z : Asker} {A : Around} {R : GenEnd} {c : Code} {fs : List Frame} {gd : Bool → Bool} {kk : Result → Sem PySem.Fin} {l : List Value} {p : Pos} (w : Where X Z A c fs gd)
    (hok : ∀ n st o ys s₀ s1 σ1 H1 G1, n + ys.length = sizeLine → cc = .nx (st, o) → I st σ1 H1 G1 → Rels X.K G1 ys o → Works X Z ys σ1 H1 s₀ s1 → Seg (model X.prog X.w) A R (Hands X Z) n s₀ c (kk (.ok .next)) fs s1)
    (herr : ∀ n s₀ x s1, cameBackBy (model X.prog X.w) X.A X.env X.xe x s1 → Seg (model X.prog X.w) A R (Hands X Z) n s₀ c (kk (.error x)) fs s1) :
    ∀ (m n : Nat) (ys : List V) (s₀ s : Shared) (σ : L2.St) (H G : Hp) (st : S) (o : List γ), n + ys.length = sizeLine → I st σ H G → Rels X.K G ys o → whl (fun s => test s.1) body m (st, o) = some cc → Works X Z ys σ H s₀ s →
      Seg (model X.prog X.w) A R (Hands X Z) n s₀ (.whileLoop tc sts [] X.env) ((model X.prog X.w).den (.whileLoop tc sts [] X.env)) (.ret kk none (gd false) l c p [] :: fs) s := by
  have wl : Where X Z A (.whileLoop tc sts [] X.env) (.ret kk none (gd false) l c p [] :: fs) id := w.loop rfl rfl
  intro m
  induction m with
  | zero => intro _ _ _ _ _ _ _ _ _ _ _ _ hf; cases hf
  | succ m ih =>
    intro n ys s₀ s σ H G st o hn hI ry hf hW
    have ee : ∀ (n : Nat) (s₀ : Shared) (x : Value) (s1 : Shared), X.xe x s1 → Seg (model X.prog X.w) A R (Hands X Z) n s₀ (.whileLoop tc sts [] X.env)
        ((do noteFrame x X.env; theTreesLotGoes x : Sem Unit).wrap (fun _ => .raise x) .raise id id) (.ret kk none (gd false) l c p [] :: fs) s1 := fun n s₀ x s1 hx => by
      refine seg_wrap ?_
      rw [wl.over]
      exact wpAny_bind (wpAny_mono (hp x s1 hx) (fun _ s2 h2 => wpAny_theTreesLotGoes (seg_leaf (.error x) (herr n s₀ x s2 h2))) fun y s2 h2 => seg_leaf (.error y) (herr n s₀ y s2 h2))
    obtain ⟨b, hb1, hf⟩ := bind_some hf
    refine seg_whileLoop ?_
    rw [wl.over]
    obtain ⟨pins, e1, e2, e3, I0⟩ := hW
    refine wpAny_mono ((ht st σ H G b hb1 hI) pins s I0) (fun b' s1 h1 => ?_) fun x s1 hx => ee n s₀ x s1 hx
    obtain ⟨H2, I2, rfl, G2, s2⟩ := h1
    have hI2 := hm _ _ _ _ _ _ hI s2
    have ry2 := Rels.mono s2.ex ry
    have hW2 : Works X Z ys σ H2 s₀ s1 := ⟨pins, e1, e2, e3, I2⟩
    rcases cond_some hf with ⟨eb, hf⟩ | ⟨eb, hf⟩
    · subst eb
      rw [if_pos rfl]
      obtain ⟨c', hc', hf⟩ := bind_some hf
      refine hb st o σ H2 G2 c' ys hb1 hc' hI2 ry2 Z A R n s₀ _ _ _ _ id id s1 wl hn ⟨fun n' ys' s₀' s3 f hn' hs => ?_, fun n' s₀' x s3 hx => ee n' s₀' x s3 hx⟩ hW2
      cases f with
      | next =>
        obtain ⟨σ3, H3, W3, st3, o3, G3, ec, k1, k2⟩ := hs
        subst ec
        exact seg_again rfl (ih n' ys' s₀' s3 σ3 H3 G3 st3 o3 hn' k1 k2 hf W3)
      | cont => obtain ⟨_, _, _, z⟩ := hs; exact False.elim z
      | brk => obtain ⟨_, _, _, z⟩ := hs; exact False.elim z
      | ret u => obtain ⟨_, _, _, _, _, z⟩ := hs; exact False.elim z
    · subst eb
      rw [if_neg Bool.false_ne_true]
      exact seg_execs_nil (seg_leaf (.ok .next) (hok n st o ys s₀ s1 σ H2 G2 hn (Option.some.inj hf).symm hI2 ry2 hW2))
theorem wy_while {S γ : Type} [Rep γ] {test : S → Option Bool} {body : S × List γ → Option (Ctl Unit (S × List γ))} {m0 : Nat} {st0 : S} {out0 : List γ} {cc : Ctl Unit (S × List γ)} {tc : Expr} {pos : Pos} (hp : PassesOwn (model X.prog X.w) X.A X.env X.xe)
    (h : whl (fun s => test s.1) body m0 (st0, out0) = some cc) (I : S → L2.St → Hp → Hp → Prop) (h0 : I st0 σ H G) (ry : Rels X.K G ys out0)
    (ht : ∀ s σ1 H1 G1 b, test s = some b → I s σ1 H1 G1 → wpT X tc σ1 H1 fun b' H2 => b' = b ∧ ∃ G2, Rc [] H1 G1 H2 G2)
    (hm : ∀ s σ1 H1 G1 H2 G2, I s σ1 H1 G1 → Rc [] H1 G1 H2 G2 → I s σ1 H2 G2)
    (hb : ∀ s o σ1 H1 G1 c' ys, test s = some true → body (s, o) = some c' → I s σ1 H1 G1 → Rels X.K G1 ys o →
      wpY X sts { nx := fun ys σ H => ∃ s' o' G, c' = .nx (s', o') ∧ I s' σ H G ∧ Rels X.K G ys o', rt := fun _ _ _ => False } ys σ1 H1)
    (q : ∀ s o ys σ1 H1 G1, cc = .nx (s, o) → I s σ1 H1 G1 → Rels X.K G1 ys o → wpY X rest D ys σ1 H1) : wpY X (.While tc sts [] pos :: rest) D ys σ H := fun Z A R n s₀ c fs K J gd lv s w hn k hI => by
  refine seg_execs_cons (seg_While fun p => ?_)
  exact loop_code (S := S) (γ := γ) hp I ht hm hb w (fun n st o ys s₀ s1 σ1 H1 G1 hn ec k1 k2 W1 => q st o ys σ1 H1 G1 ec k1 k2 Z A R n s₀ c fs K J gd lv s1 w hn k W1) (fun n s₀ x s1 h1 => back_again w (fun u s3 h3 => k.exc n s₀ u s3 h3) h1) m0 n ys s₀ s σ H G st0 out0 hn h0 ry h hI
end

/-! ### a call's generator -/
def EndY (P : Program) (w : World) (outer : List Env) (H : Hp) (s : Shared) (Z : Asker) (a : Addr) (g : Nat) (Q : List V → Hp → Prop) (E : XK) : GenEnd := fun _ s₀ r s1 =>
  ((r = .ok (.ret .none) ∨ r = .ok .next) ∧ ∃ H' ys, s1.os = s.os ∧ AllBare s1.gens ∧ Un (frs outer) [] H H' s.heap s1.heap ∧ HOk P w H' s1.heap ∧ (∀ b ∈ Z.own, H' b = none ∧ s1.heap.get? b = s₀.heap.get? b) ∧ Z.tell ys s₀.heap.get? ∧ ys.length ≤ sizeLine ∧ Q ys H') ∨
  ∃ e, r = .error e ∧ CX P w outer H s E e s1 ∧ s1.heap.IsGen a g
def ItemY (P : Program) (w : World) (outer : List Env) (H : Hp) (s : Shared) (Z : Asker) (a : Addr) (g : Nat) : Protocol := fun n s₀ v s1 go =>
  s1.os = s.os ∧ AllBare s1.gens ∧ s1.heap.NoLimit ∧ s1.heap.IsGen a g ∧ ∃ H' ys x, Un (frs outer) [] H H' s.heap s1.heap ∧ HOk P w H' s1.heap ∧ (∀ b ∈ Z.own, H' b = none ∧ s1.heap.get? b = s₀.heap.get? b) ∧ Z.tell ys s₀.heap.get? ∧ n + 1 + ys.length = sizeLine ∧ RelV x v ∧
    ∀ s', Rest Z (ys ++ [x]) s1 s' → go (.send .none) s'
/-- it has not begun -/
def MadeY (P : Program) (w : World) (k : Nat) (outer : List Env) (H : Hp) (s : Shared) (Q : List V → Hp → Prop) (E : XK) (u : Value) (s' : Shared) : Prop :=
  ∃ (a : Addr) (g : Nat) (c : Code), u = .ref a ∧ s.heap.objs.size ≤ a ∧ a < s'.heap.objs.size ∧ s'.heap.IsGen a g ∧ s'.gens[g]? = some (.fresh c) ∧ s'.os = s.os ∧ AllBare s'.gens ∧ s'.heap.NoLimit ∧ (∀ b o, s.heap.get? b = some o → s'.heap.get? b = some o) ∧
    ∀ (Z : Asker) (A : Around) (s2 : Shared), Room k A → A.frames = some outer → (∀ b ∈ Z.own, s'.heap.objs.size ≤ b) → (∀ b, b ∈ Z.own → ∃ o, s2.heap.get? b = some o ∧ NoCell o) → (∀ b o, s'.heap.get? b = some o → s2.heap.get? b = some o) → Z.tell [] s2.heap.get? → s2.os = s.os →
      AllBare s2.gens → Seg (model P w) A (EndY P w outer H s Z a g Q E) (ItemY P w outer H s Z a g) sizeLine s2 c ((model P w).den c) [] s2
structure YFn (P : Program) (w : World) (K : PySem.W.Frag) (mg : Str → Option Value) (base : Heap) (k : Nat) (f : Addr) (fd : FuncData) (ps : List Str) (sp : SpG) : Prop where
  len : ∀ vs H Q E, sp vs H Q E → vs.length = ps.length
  run : ∀ (A : Around) (outer : List Env) (s : Shared) (H : Hp) (args : Args) (us : List Value) (vs : List V) (Q : List V → Hp → Prop) (E : XK), Room k A → Env0 P w K mg base A outer s H → BindsTo s fd args (ps.zip us) → Vals vs us → sp vs H Q E →
    codeAny (model P w) A (.call (.ref f) args) (fun r s' => match r with | .ok (.ret u) => MadeY P w k outer H s Q E u s' | _ => False) s
section
variable {P : Program} {w : World} {K : PySem.W.Frag} {mg : Str → Option Value} {base : Heap} {k : Nat} {f : Addr} {N ps : List Str} {sp : SpG} {name qual : Str} {params : Arguments} {body : List Stmt} {scope : Scope} {dV kV doc pm cdv ct oc : Value} {an od : Option Addr} {osl : Array (Option Value)}
/-- a def that yields, by its body -/
theorem yfn_of (lk : K.lookup f = some ⟨oc, od, .func (PySem.W.fnOf name qual params body scope dV kV doc pm an cdv ct), osl⟩) (hcd : PySem.W.codeIn K cdv qual = true) (S : GScope N ps scope) (len : ∀ vs H Q E, sp vs H Q E → vs.length = ps.length)
    (hbody : ∀ (A : Around) (outer : List Env) (s : Shared) (H : Hp) (vs : List V) (Q : List V → Hp → Prop) (E : XK) (pn : List (Addr × Obj)), Room k (A.deeper (envOfC qual scope s.heap.objs.size f cdv)) → sp vs H Q E →
      wpY (gcxOf P w K mg base N qual scope f cdv A outer s H E pn) body { nx := fun ys _ H' => Q ys H', rt := fun ys v H' => v = .non ∧ Q ys H' } [] (start N vs) H) :
    YFn P w K mg base (k + 1) f (PySem.W.fnOf name qual params body scope dV kV doc pm an cdv ct) ps sp := by
  refine ⟨len, fun A outer s H args us vs Q E hr e0 hb r hsp => ?_⟩
  have hlen := len _ _ _ _ hsp
  have inK : K.In s.heap := e0.mod.kin.keeps fun b o q => (e0.bs b o q).1
  have noL : s.heap.NoLimit := e0.mod.nolimit.keeps fun b o q => (e0.bs b o q).1
  have kinds : ∀ y ∈ ps.zip us, scope.names.lookup y.1 = some .local ∨ (scope.names.lookup y.1 = some .cell ∧ ((cellsFrom (s.heap.objs.size + 1) scope.names []).lookup y.1).isSome = true) := fun y hy => by
    rcases S.par y.1 (List.of_mem_zip hy).1 with q | q
    · exact .inl q
    · exact .inr ⟨q, PySem.W.cellsFrom_some _ _ _ (.inl q)⟩
  refine codeAny_call_generator hr.depth (inK _ _ lk) rfl S.co S.gen rfl (PySem.W.codeRec_of inK hcd) (hb _ _ _ _ (wpAny_newFunctionEnv_cells S.kind kinds fun env he s1 x => ?_))
  subst he
  have noL1 : s1.heap.NoLimit := noL.keeps x.toInCall.keep
  refine ⟨noL1, ?_⟩
  obtain ⟨h1, tk1, es1, hk1⟩ := x.done
  have lt1 : s.heap.objs.size < s1.heap.objs.size := x.toInCall.ns.lt
  have os1 : s1.os = s.os := by rw [es1]
  have bare1 : AllBare s1.gens := by rw [es1]; exact e0.bare
  have old1 : ∀ b o, s.heap.get? b = some o → s1.heap.get? b = some o := x.toInCall.keep
  have made : ∀ (go : Obj) (nm qn : Value) (tk2 : Nat), go.cls = .type "generator" → go.data = .fields #[.int s1.gens.size 0, nm, qn] → go.slots = #[] → (∀ h : Heap, (h.push go).get? h.objs.size = some go) →
      MadeY P w (k + 1) outer H s Q E (.ref s1.heap.objs.size) { s1 with gens := s1.gens.push (.fresh (.func body (envOfC qual scope s.heap.objs.size f cdv))), toks := tk2, heap := s1.heap.push go } := by
    intro go nm qn tk2 c1 c2 c3 hpush
    have isgen : ∀ h : Heap, h.get? s1.heap.objs.size = some go → h.IsGen s1.heap.objs.size s1.gens.size := fun h e => ⟨go, nm, qn, e, c1, c2, c3⟩
    have ngo : NoCell go := fun v q => by rw [c2] at q; cases q
    have hp := hpush s1.heap
    refine ⟨s1.heap.objs.size, s1.gens.size, _, rfl, Nat.le_of_lt lt1, by show _ < (s1.heap.push go).objs.size; rw [Heap.size_push]; exact Nat.lt_succ_self _, isgen _ hp, Array.getElem?_push_size .., os1, AllBare.push bare1 rfl, noL1.keeps fun b o e => Heap.get?_push_of_some _ e,
      fun b o e => Heap.get?_push_of_some _ (old1 b o e), fun Z A2 s2 hr2 hfr hZ hZo hk2 hZt hos hba => ?_⟩
    have e2 : Env0 P w K mg base A2 outer s H := ⟨hfr, e0.mod, e0.bs, e0.bsz, e0.funs, e0.frf, e0.hok, e0.bare⟩
    have I1 : Inv (gcxOf P w K mg base N qual scope f cdv A2 outer s H E []) [] (start N vs) H s1 := inv_startG S hr2.hd e2 hlen r x
    have old2 : ∀ b o, s1.heap.get? b = some o → s2.heap.get? b = some o := fun b o e => hk2 b o (Heap.get?_push_of_some _ e)
    have I2 : Inv (gcxOf P w K mg base N qual scope f cdv A2 outer s H E []) [] (start N vs) H s2 := I1.call' (ch := []) (hos.trans os1.symm) (Un.kept old2) (I1.hok.kept old2) hba fun b z => (nomatch z)
    have hgo : s2.heap.get? s1.heap.objs.size = some go := hk2 _ go hp
    have beyond : ∀ b, s1.heap.objs.size ≤ b → H b = none ∧ b ≠ s.heap.objs.size ∧ b ∉ frs outer ∧ s.heap.objs.size ≤ b ∧ ∀ y c, (cellsFrom (s.heap.objs.size + 1) scope.names []).lookup y = some c → c ≠ b := fun b hb => by
      refine ⟨I1.hok.fresh hb, Nat.ne_of_gt (Nat.lt_of_lt_of_le lt1 hb), I1.nofs hb, Nat.le_trans (Nat.le_of_lt lt1) hb, fun y c e z => ?_⟩
      obtain ⟨v, ob, ho, _⟩ := I1.cell y c e
      have q := Heap.lt_size ho
      rw [z] at q
      exact Nat.lt_irrefl _ (Nat.lt_of_lt_of_le q hb)
    have ownB : ∀ b ∈ Z.own, s1.heap.objs.size + 1 ≤ b := fun b hb => by
      have q : (s1.heap.push go).objs.size ≤ b := hZ b hb
      rw [Heap.size_push] at q
      exact q
    have aside : Aside (gcxOf P w K mg base N qual scope f cdv A2 outer s H E [(s1.heap.objs.size, go)]) Z.own := fun b hb => by
      have q := ownB b hb
      obtain ⟨_, y2, _, y4, y5⟩ := beyond b (by omega)
      refine ⟨y4, y2, y5, fun p hp2 => ?_⟩
      rw [show p = (s1.heap.objs.size, go) from List.mem_singleton.mp hp2]
      show s1.heap.objs.size ≠ b
      omega
    have I3 : Inv (gcxOf P w K mg base N qual scope f cdv A2 outer s H E [(s1.heap.objs.size, go)]) [] (start N vs) H s2 := Inv.pinnedG I2 fun p hp2 => by
      rw [show p = (s1.heap.objs.size, go) from List.mem_singleton.mp (by simpa using hp2)]
      obtain ⟨y1, y2, y3, _, _⟩ := beyond s1.heap.objs.size (Nat.le_refl _)
      exact ⟨hgo, y1, y2, y3, ngo⟩
    have hW : Works (gcxOf P w K mg base N qual scope f cdv A2 outer s H E [(s1.heap.objs.size, go)]) Z [] (start N vs) H s2 s2 := Works.begin I3 aside (fun b hb => by
      have q := ownB b hb
      obtain ⟨y1, _, y3, _, _⟩ := beyond b (by omega)
      exact ⟨y1, y3⟩) hZo hZt
    have gone : ∀ {ys : List V} {σ' : L2.St} {H' : Hp} {s₀ s' : Shared}, Works (gcxOf P w K mg base N qual scope f cdv A2 outer s H E [(s1.heap.objs.size, go)]) Z ys σ' H' s₀ s' → s'.heap.IsGen s1.heap.objs.size s1.gens.size ∧ Inv (gcxOf P w K mg base N qual scope f cdv A2 outer s H E [(s1.heap.objs.size, go)]) [] σ' H' s' ∧ (∀ b ∈ Z.own, H' b = none ∧ s'.heap.get? b = s₀.heap.get? b) ∧ Z.tell ys s₀.heap.get? := fun {ys σ' H' s₀ s'} hw => by
      obtain ⟨J, q⟩ := hw.at
      obtain ⟨pins, _, _, q3, _⟩ := hw
      exact ⟨isgen _ (J.pin (s1.heap.objs.size, go) (List.mem_append_left _ (List.mem_singleton.mpr rfl))).1, J, fun b hb => ⟨(q b hb).1, (q b hb).2.1⟩, q3⟩
    have body' := hbody A2 outer s H vs Q E [(s1.heap.objs.size, go)] (hr2.deeper _) hsp
    refine seg_func (seg_imp (R := fun n s₀ r s1' => match r with
        | .ok (.ret u) => u = .none ∧ ∃ ys σ' H', n + ys.length = sizeLine ∧ Works (gcxOf P w K mg base N qual scope f cdv A2 outer s H E [(s1.heap.objs.size, go)]) Z ys σ' H' s₀ s1' ∧ Q ys H'
        | .ok _ => False
        | .error e => CX P w outer H s E e s1' ∧ ∀ p ∈ [(s1.heap.objs.size, go)], s1'.heap.get? p.1 = some p.2)
      (Y := Hands (gcxOf P w K mg base N qual scope f cdv A2 outer s H E [(s1.heap.objs.size, go)]) Z) (fun n s₀ r s' hR => ?_) (fun n s₀ v s' g1 g2 hgg hY => ?_) sizeLine ?_)
    · cases r with
      | error e =>
        obtain ⟨q1, q2⟩ := hR
        exact .inr ⟨e, rfl, q1, isgen _ (q2 (s1.heap.objs.size, go) (List.mem_singleton.mpr rfl))⟩
      | ok fl =>
        cases fl with
        | next => exact False.elim hR
        | brk => exact False.elim hR
        | cont => exact False.elim hR
        | ret u =>
          obtain ⟨rfl, ys, σ', H', hn, hw, hQ⟩ := hR
          obtain ⟨_, J, q1, q2⟩ := gone hw
          exact .inl ⟨.inl rfl, H', ys, J.os, J.bare, J.base, J.hok, q1, q2, by omega, hQ⟩
    · obtain ⟨ys, x, σ', H', hn, rv, hw, h3⟩ := hY
      obtain ⟨g0, J, q1, q2⟩ := gone hw
      exact ⟨J.os, J.bare, J.nolimit, g0, H', ys, x, J.base, J.hok, q1, q2, hn, rv, fun s'' z => hgg _ _ (h3 s'' z)⟩
    · refine body' Z A2 _ sizeLine s2 _ [] _ _ id id s2 ⟨aside, over_func, rfl, rfl, rfl⟩ (Nat.add_zero _) ⟨fun n ys s₀ s' fl hn hs => ?_, fun n s₀ e s' hx => ?_⟩ hW
      · cases fl with
        | next =>
          obtain ⟨σ', H', hw, hQ⟩ := hs
          exact seg_end (.ok (.ret .none)) ⟨rfl, ys, σ', H', hn, hw, hQ⟩
        | brk => obtain ⟨_, _, _, q⟩ := hs; exact False.elim q
        | cont => obtain ⟨_, _, _, q⟩ := hs; exact False.elim q
        | ret u =>
          obtain ⟨v, σ', H', hw, rv, ev, hQ⟩ := hs
          subst ev
          obtain rfl : u = Value.none := rv
          exact seg_end (.ok (.ret .none)) ⟨rfl, ys, σ', H', hn, hw, hQ⟩
      · refine seg_wrap ?_
        rw [over_func]
        exact wpAny_mono (show wpAny (model P w) (A2.deeper (envOfC qual scope s.heap.objs.size f cdv)) (leaving (envOfC qual scope s.heap.objs.size f cdv) e) (fun _ s'' => CX P w outer H s E e s'' ∧ ∀ p ∈ [(s1.heap.objs.size, go)], s''.heap.get? p.1 = some p.2) (fun _ _ => False) s' from hx)
          (fun _ s'' q => seg_end (.error e) q) fun _ _ q => False.elim q
  exact made _ _ _ _ rfl rfl rfl fun h => Heap.get?_push_size _ rfl
end
end PX

/-! PXt: calls of defs that yield; a comprehension that takes all their items. -/
namespace PX
open PySem L2 PySem.Spec PyProof.Rows GenW
structure CalY (P : Program) (w : World) (K : PySem.W.Frag) (mg : Str → Option Value) (base : Heap) (nm : Str) (k : Nat) (ps : List Str) (sp : SpG) : Prop where
  ex : ∃ (f : Addr) (fd : FuncData), YFn P w K mg base k f fd ps sp ∧ mg nm = some (.ref f) ∧ PySem.W.keepIn K (.ref f) = true ∧ Binds K fd ps []
section
variable {P : Program} {w : World} {K : PySem.W.Frag} {mg : Str → Option Value} {base : Heap} {k : Nat} {f : Addr} {fd : FuncData} {ps : List Str} {sp : SpG}
theorem defYY {x qual : Str} {st : Stmt} {N : List Str} (F : Fun K x qual st f fd) (S : GScope N ps (defScope st)) (len : ∀ vs H Q E, sp vs H Q E → vs.length = ps.length)
    (hbody : ∀ (cdv : Value) (A : Around) (outer : List Env) (s : Shared) (H : Hp) (vs : List V) (Q : List V → Hp → Prop) (E : XK) (pn : List (Addr × Obj)), Room k (A.deeper (envOfC qual (defScope st) s.heap.objs.size f cdv)) → sp vs H Q E →
      wpY (gcxOf P w K mg base N qual (defScope st) f cdv A outer s H E pn) (defBody st) { nx := fun ys _ H' => Q ys H', rt := fun ys v H' => v = .non ∧ Q ys H' } [] (start N vs) H) : YFn P w K mg base (k + 1) f fd ps sp := by
  obtain ⟨oc, od, kV, doc, pm, an, cdv, ct, osl, rfl, lk, hcd⟩ := F.ex
  exact yfn_of lk hcd S len fun A outer s H vs Q E pn r q => hbody cdv A outer s H vs Q E pn r q
end
section
variable {X : Cx} {σ : L2.St} {H G : Hp} {γ τ : Type} [Rep γ] [ArgsR τ] {e : Expr} {es : List Expr} {pos p : Pos} {w : τ} {k j : Nat} {ps : List Str} {nm : Str}
/-- the call of a def that yields -/
theorem call_y {sp : SpG} {E : XK} {cont : List V → Hp → Prop} {pins : List (Addr × Obj)} {s : Shared} (C : CalY X.prog X.w X.K X.mg X.base nm k ps sp) (hr : Room k X.A) (I : Inv X pins σ H s) (h : wpA X (e :: es) σ H fun vs H1 => sp vs H1 cont E)
    (hg : Gl X nm := by rfl) (hdb : (nm == ("__debug__" : Str)) = false := by decide) (he : starEach (e :: es) X.env = (false, eval e X.env) :: starEach es X.env := by rfl) (hpl : (backTo pos (starEach es X.env)).any (·.1) = false := by rfl) :
    wpAny (model X.prog X.w) X.A (eval (.Call (.Name nm p) (e :: es) [] pos) X.env) (fun u s' => ∃ H1 sc, Inv X pins σ H1 sc ∧ MadeY X.prog X.w k X.stack H1 sc cont E u s') X.xe s := by
  obtain ⟨f, fd, F, c1, c2, c3⟩ := C.ex
  refine wpAny_Call_Name_kw (ld_glob I hg c1 ?_ hdb)
  refine PySem.W.callWith_K (h₀ := X.base) I.ok.mod.kin c2 (thn (h pos pins s I) fun us s1 ⟨vs, H1, I1, r, q⟩ => ⟨I1.kIn, ?_⟩) he hpl
  have hl : us.length = ps.length := by rw [← r.length]; exact F.len _ _ _ _ q
  have b := c3 s1 us I1.kIn (by rw [List.append_nil]; exact hl)
  rw [List.append_nil] at b
  refine wpAny_call (codeAny_mono (F.run X.A X.stack s1 H1 ⟨us, []⟩ us vs cont E hr I1.env0 b r q) fun r2 s2 hq => ?_)
  cases r2 with
  | error _ => exact False.elim hq
  | ok fl =>
    cases fl with
    | ret u => exact ⟨H1, s1, I1, hq⟩
    | next => exact False.elim hq
    | brk => exact False.elim hq
    | cont => exact False.elim hq
theorem ns_nocell {h : Heap} {a : Addr} {m : Str → Option Value} (x : h.Ns a m) : ∃ o, h.get? a = some o ∧ NoCell o := by
  obtain ⟨o, es, ep, ho, hd, _⟩ := x
  exact ⟨o, ho, fun v q => by rw [hd] at q; cases q⟩
theorem ns_same {h h' : Heap} {a : Addr} {m : Str → Option Value} (x : h.Ns a m) (e : h'.get? a = h.get? a) : h'.Ns a m := by
  obtain ⟨o, es, ep, ho, r⟩ := x
  exact ⟨o, es, ep, e.trans ho, r⟩
/-- [x for x in g(..)] -/
theorem ev_lcY {fn : τ → Option (List γ)} {r : List γ} {x : Str} {scope : Scope} {own : List (Str × Nat)} {p1 p2 lpos : Pos} (C : CalY X.prog X.w X.K X.mg X.base nm k ps (spG fn X.K)) (hr : Room j X.A) (hk : k + 3 ≤ j) (ok : BlkOk X.N X.env.scope scope own) (hxl : scope.names.lookup x = some .local)
    (h : fn w = some r) (ha : EvA X (e :: es) σ H G w) (hdx : (x == ("__debug__" : Str)) = false := by decide)
    (hg : Gl X nm := by rfl) (hdb : (nm == ("__debug__" : Str)) = false := by decide) (he : starEach (e :: es) X.env = (false, eval e X.env) :: starEach es X.env := by rfl) (hpl : (backTo pos (starEach es X.env)).any (·.1) = false := by rfl)
    (hs : ∀ y, foldedSetIterable (.Call (.Name nm p) (e :: es) [] pos) X.env y = pure y := by intro _; rfl) :
    EvN X (.ListComp (.Name x p1) [⟨.Name x p2, .Call (.Name nm p) (e :: es) [] pos, [], 0⟩] scope lpos) σ H G r := by
  intro H1 G1 st1 Q q pins s I
  rw [eval_ListComp]
  have hfree : ∀ y ∈ scope.names, y.2 = .free → ∃ c, X.env.cells.lookup y.1 = some c := fun y hy e => by
    rcases ok.free y hy e with z | z
    · exact I.ok.has _ (.inl z)
    · exact I.ok.has _ (.inr z)
  refine wpAny_comprehension_free (use := none) rfl hs (closure_ok hfree) ok.kind (fun y hy e => by rw [ok.uniq y hy, e]) ?_
  refine wpAny_mono (call_y (E := E0) (cont := fun ys H3 => ∃ G3, Rc [] H1 G1 H3 G3 ∧ Rels X.K G3 ys r) C (hr.mono (by omega)) I (ha H1 G1 st1 _ fun vs H2 G2 s2 r2 => ⟨G2, w, r, s2.sub, r2, h, fun ys H3 G3 s3 r3 => ⟨G3, s2.trans s3, r3⟩⟩) hg hdb he hpl) (fun u s2 hu => ?_) fun _ _ z => z
  obtain ⟨H2, sc, I2, a, g, c, rfl, a1, a2, hgen, hgs, hos, hbare, hlim, hkeep, wake⟩ := hu
  refine wpAny_pyIter_gen hgen ?_
  refine wpAny_newObj_type (newEnv_comp ?_) (by show 0 ≤ sizeLine; decide)
  have hDs : ∀ b o, s2.heap.get? b = some o → b ≠ s2.heap.objs.size := fun b o e => Nat.ne_of_lt (Heap.lt_size e)
  generalize hl3 : s2.heap.push { cls := .type "list", data := .seq ([] : List Value).toArray } = h3
  have g3 : ∀ b o, s2.heap.get? b = some o → h3.get? b = some o := fun b o e => by rw [← hl3]; exact Heap.get?_push_of_some _ e
  have eD : h3.get? s2.heap.objs.size = some (lstObj #[] 0) := by rw [← hl3]; exact Heap.get?_push_size _ rfl
  have sz3 : h3.objs.size = s2.heap.objs.size + 1 := by rw [← hl3]; exact Heap.size_push ..
  generalize hl4 : pushCells (h3.push { cls := .type "dict", data := .dict #[] }) scope.names = h4
  have g4 : ∀ b o, h3.get? b = some o → h4.get? b = some o := fun b o e => by rw [← hl4]; exact pushCells_keeps _ _ _ _ (Heap.get?_push_of_some _ e)
  have n4 : h4.Ns h3.objs.size fun _ => none := by
    rw [← hl4]
    exact (Heap.Ns.new h3 (.type "dict")).keeps fun b o e => pushCells_keeps _ _ _ _ e
  show codeAny (model X.prog X.w) X.A (.compStart (.ListComp (.Name x p1) [⟨.Name x p2, .Call (.Name nm p) (e :: es) [] pos, [], 0⟩] scope lpos) 0 (.ref a) (.ref s2.heap.objs.size) (compEnvC scope (cellsFrom (h3.objs.size + 1) scope.names (cloFrom X.env.cells scope.names [])) h3.objs.size X.env))
    (compPost (model X.prog X.w) X.A X.xe none (EP X pins σ Q) (.ref s2.heap.objs.size) h3.objs.size) { s2 with heap := h4 }
  generalize hce : compEnvC scope (cellsFrom (h3.objs.size + 1) scope.names (cloFrom X.env.cells scope.names [])) h3.objs.size X.env = ce
  have cL : ce.locals = h3.objs.size := by rw [← hce]; rfl
  have cK : ce.scope.kind = .function := by rw [← hce]; exact ok.kind
  have cX : ce.kindOf x = some .local := by rw [← hce]; exact lookup_relabel_local hxl
  generalize hD : s2.heap.objs.size = D at *
  generalize hC : h3.objs.size = Cc at *
  have hDC : D ≠ Cc := by omega
  let Z : Asker := ⟨[D, Cc], fun ys at_ => ∃ (acc : Array Value) (n : Nat), Vals ys acc.toList ∧ at_ D = some (lstObj acc n)⟩
  have loop : codeAny (model X.prog X.w) X.A (.compLoop (.ListComp (.Name x p1) [⟨.Name x p2, .Call (.Name nm p) (e :: es) [] pos, [], 0⟩] scope lpos) 0 (.ref a) (.ref D) ce) (compPost (model X.prog X.w) X.A X.xe none (EP X pins σ Q) (.ref D) Cc) { s2 with heap := h4 } := by
    refine compLoop_any (fun n s' => s'.os = sc.os ∧ AllBare s'.gens ∧ s'.heap.NoLimit ∧ s'.heap.IsGen a g ∧ (∃ m, s'.heap.Ns Cc m) ∧ (∃ acc n', s'.heap.get? D = some (lstObj acc n')) ∧
      ∃ gs, s'.gens[g]? = some gs ∧ gs.Goes (model X.prog X.w) X.A.in1 (EndY X.prog X.w X.stack H2 sc Z a g (fun ys H3 => ∃ G3, Rc [] H1 G1 H3 G3 ∧ Rels X.K G3 ys r) E0) (ItemY X.prog X.w X.stack H2 sc Z a g) n (.send .none) (s'.setGen g .running)) ?_ sizeLine ⟨hos, hbare, hlim.keeps fun b o e => g4 b o (g3 b o e), hgen.keeps fun b o e => g4 b o (g3 b o e), ⟨_, n4⟩, ⟨_, _, g4 _ _ eD⟩, _, hgs, rfl, ?_⟩
    · rintro n s5 ⟨b1, b2, b3, b4, ⟨m5, n5⟩, ⟨acc, na, e5⟩, gs, q5, go5⟩
      have hgl : g < s5.gens.size := (Array.getElem?_eq_some_iff.mp q5).1
      refine wpAny_gsz (n := g + 1) hgl (next_genG (A := X.A) (F := fun _ s₀ s1 => ∃ H' ys, s1.os = sc.os ∧ AllBare s1.gens ∧ Un (frs X.stack) [] H2 H' sc.heap s1.heap ∧ HOk X.prog X.w H' s1.heap ∧ (∀ b ∈ Z.own, H' b = none ∧ s1.heap.get? b = s₀.heap.get? b) ∧ Z.tell ys s₀.heap.get? ∧ ys.length ≤ sizeLine ∧ ∃ G3, Rc [] H1 G1 H' G3 ∧ Rels X.K G3 ys r)
        (Er := fun e s1 => CX X.prog X.w X.stack H2 sc E0 e s1 ∧ s1.heap.IsGen a g) hr.hd b3 hr.depth b4 q5 go5 (fun v s6 gs' hbare hv hsz => ?_) (fun s6 hp h' hk' _ => ?_) fun e s6 he => ?_)
      · obtain ⟨c1, c2, c3, c4, H', ys, y, _, _, hown, ⟨acc', na', hvs, eD'⟩, hn, rv, hgo⟩ := hv
        have hlt : ys.length < sizeLine := by omega
        have eD6 : s6.heap.get? D = some (lstObj acc' na') := ((hown D List.mem_cons_self).2).trans eD'
        have n6 : (s6.setGen g gs').heap.Ns Cc m5 := ns_same (h := s5.heap) n5 (hown Cc (List.mem_cons_of_mem _ List.mem_cons_self)).2
        have hasz : acc'.size < sizeLine := by
          have z1 : ys.length = acc'.toList.length := hvs.length
          have z2 : acc'.toList.length = acc'.size := by simp
          rw [← z2, ← z1]
          exact hlt
        refine wpAny_of_eq (a := ()) rfl ?_
        refine wpAny_assign_Name (wpAny_storeName_local cX (by rw [cL]; exact n6) (fun h7 n7 sb7 => ?_) (by rw [cK]; rfl))
        rw [cL] at n7 sb7
        refine wpAny_tests_nil ?_
        rw [if_pos rfl]
        refine wpAny_Name (wpAny_loadName_local (m := fun z => if z = x then some v else m5 z) cK cX (by rw [cL]; exact n7) (by rw [if_pos rfl]) ?_) hdx
        refine append_at (hsz := Nat.le_of_lt hasz) ((sb7.2 D hDC).trans eD6) fun h8 sb8 e8 => ?_
        have keep8 : ∀ b o, b ∉ [D, Cc] → s6.heap.get? b = some o → h8.get? b = some o := fun b o hb e => (sb8.2 b fun z => hb (by rw [z]; exact List.mem_cons_self)).trans ((sb7.2 b fun z => hb (by rw [z]; exact List.mem_cons_of_mem _ List.mem_cons_self)).trans e)
        have n8 : h8.Ns Cc fun z => if z = x then some v else m5 z := ns_same n7 (sb8.2 Cc (Ne.symm hDC))
        have hg6 : g < s6.gens.size := by
          have z : (s6.setGen g gs').gens.size = s6.gens.size := setGen_size _ _ _
          have z2 : g + 1 ≤ (s6.setGen g gs').gens.size := hsz
          omega
        have aD : a ∉ [D, Cc] := fun z => by
          rcases List.mem_cons.mp z with z | z
          · exact absurd z (Nat.ne_of_lt a2)
          · exact absurd (List.mem_singleton.mp z) (Nat.ne_of_lt (Nat.lt_of_lt_of_le a2 (by rw [sz3]; exact Nat.le_succ _)))
        have hrest : Rest Z (ys ++ [y]) s6 ({ s6.setGen g gs' with heap := h8, toks := (s6.setGen g gs').toks + 1 } : Shared) := ⟨rfl, allBare_setGen c2 hbare, keep8, fun b hb => by
          rcases List.mem_cons.mp hb with z | z
          · rw [z]
            exact ⟨_, e8, fun v q => by cases q⟩
          · rw [List.mem_singleton.mp z]
            exact ns_nocell n8, acc'.push v, na' + 1, by rw [Array.toList_push]; exact hvs.append (.cons rv .nil), e8⟩
        cases n with
        | zero => exact False.elim (hgo _ hrest)
        | succ n =>
          refine ⟨n, Nat.lt_succ_self n, c1, allBare_setGen c2 hbare, ?_, ?_, ⟨_, n8⟩, ⟨_, _, e8⟩, gs', setGen_at hg6, hgo _ ⟨hrest.os, allBare_setGen hrest.bare rfl, hrest.keep, hrest.own, hrest.tell⟩⟩
          · obtain ⟨mc, ⟨o, es, ep, ho, hz⟩, hmc⟩ := c3
            refine ⟨mc, ⟨o, es, ep, keep8 _ o (fun z => ?_) ho, hz⟩, hmc⟩
            obtain ⟨_, ⟨oz, _, _, hoz, _⟩, _⟩ := hlim
            have hlt2 := Heap.lt_size hoz
            rw [hD] at hlt2
            rcases List.mem_cons.mp z with z | z
            · exact absurd z (Nat.ne_of_lt hlt2)
            · exact absurd (List.mem_singleton.mp z) (Nat.ne_of_lt (Nat.lt_of_lt_of_le hlt2 (by rw [sz3]; exact Nat.le_succ _)))
          · obtain ⟨o, nm', qn, ho, hz⟩ := c4
            exact ⟨o, nm', qn, keep8 a o aD ho, hz⟩
      · obtain ⟨H', ys, c1, c2, un, hok, hown, ⟨acc', na', hvs, eD'⟩, hlen, G3, s3, r3⟩ := hp
        have nd : H' D = none := (hown D List.mem_cons_self).1
        have nC : upd H' D (.lst ys) Cc = none := (upd_ne (Ne.symm hDC)).trans (hown Cc (List.mem_cons_of_mem _ List.mem_cons_self)).1
        have eD6 : h'.get? D = some (lstObj acc' na') := hk' _ _ (((hown D List.mem_cons_self).2).trans eD')
        have scD : sc.heap.objs.size ≤ D := Nat.le_trans a1 (Nat.le_of_lt a2)
        have n6 : h'.Ns Cc m5 := (ns_same (h := s5.heap) (h' := s6.heap) n5 (hown Cc (List.mem_cons_of_mem _ List.mem_cons_self)).2).keeps hk'
        have J : Inv X pins σ (upd H' D (.lst ys)) ({ s6.setGen g .finished with heap := h' } : Shared) := I2.drained (S := D) scD hlen eD6 hvs ExOk.nil c1 (allBare_setGen c2 rfl) (un.trans (Un.kept hk')) (hok.kept hk') nd
        obtain ⟨f0, f1, f2, f3, f4, f5⟩ := I2.fpOk (b := Cc) (Nat.le_trans scD (by rw [sz3]; exact Nat.le_succ _)) nC
        refine ⟨m5, n6, fun h9 sb9 => ⟨.ref D, upd H' D (.lst ys), ?_, rfl, q D _ G3 (s3.trans (Rc.new s3.sub nd)) (none_back s3.exH nd) (Own.mk s3.sub nd r3)⟩⟩
        exact J.turned (t' := (s6.setGen g .finished).toks) (fun b o hb e => (sb9.2 b hb).trans e) f0 f1 f3 f4 f5
      · obtain ⟨⟨_, _, _, _, _, _, _, _, _, _, _, _, z⟩, _⟩ := he
        exact z.elim
    · refine wake Z X.A.in1 (({ s2 with heap := h4 } : Shared).setGen g .running) (Room.in1 (hr.mono (by omega))) I2.ok.frames (fun b hb => ?_) (fun b hb => ?_) (fun b o q => g4 b o (g3 b o q)) ⟨#[], 0, .nil, g4 _ _ eD⟩ hos (allBare_setGen (s := ({ s2 with heap := h4 } : Shared)) hbare rfl)
      · rcases List.mem_cons.mp hb with z | z
        · rw [z]
          exact Nat.le_refl _
        · rw [List.mem_singleton.mp z, sz3]
          exact Nat.le_succ _
      · rcases List.mem_cons.mp hb with z | z
        · rw [z]
          exact ⟨_, g4 _ _ eD, fun v q => by cases q⟩
        · rw [List.mem_singleton.mp z]
          exact ns_nocell n4
  exact codeAny_compStart_list loop (wpAny_pyIter_gen (hgen.keeps fun b o e => g4 b o (g3 b o e)) loop)
end
end PX

/-! PZ: rows in the same sequence, between two lesser entries, with a copy of an entry; how tall rows of different entries are. -/
namespace PX
open PySem L2
theorem IsT.same {row row' ts : List Int} (h : IsT row ts) (hl : row'.length = row.length) (hm : ∀ i j, i < row.length → j < row.length → (nth row i < nth row j ↔ nth row' i < nth row' j)) : IsT row' ts := by
  refine ⟨by rw [hl]; exact h.1, fun j hj => ?_⟩
  rw [hl] at hj ⊢
  have hs : ∀ k, Sees (nth row) row.length j k ↔ Sees (nth row') row.length j k := fun k => by
    unfold Sees
    constructor
    · rintro ⟨a, b, c⟩
      exact ⟨a, b, fun m hm' => (hm j m hj (by omega)).mp (c m hm')⟩
    · rintro ⟨a, b, c⟩
      exact ⟨a, b, fun m hm' => (hm j m hj (by omega)).mpr (c m hm')⟩
  obtain ⟨a, b, c⟩ := h.2 j hj
  exact ⟨a, fun k hk => b k ((hs k).mpr hk), c.imp id fun ⟨k, h1, h2⟩ => ⟨k, (hs k).mp h1, h2⟩⟩
theorem IsT.mapped {row ts : List Int} {f : Int → Int} (h : IsT row ts) (hf : ∀ x y, x ∈ row → y ∈ row → (x < y ↔ f x < f y)) : IsT (row.map f) ts := by
  refine h.same (List.length_map ..) fun i j hi hj => ?_
  rw [nth_map hi, nth_map hj]
  exact hf _ _ (nth_mem hi) (nth_mem hj)
/-- each entry has its blocks -/
theorem left_block {e : Nat → Int} {v : Int} : ∀ j : Nat, ∃ a, a ≤ j ∧ (∀ k, a ≤ k → k < j → v < e k) ∧ (a = 0 ∨ e (a - 1) ≤ v)
  | 0 => ⟨0, Nat.le_refl _, fun k _ hk => absurd hk (Nat.not_lt_zero _), Or.inl rfl⟩
  | j + 1 => by
    by_cases c : v < e j
    · obtain ⟨a, h1, h2, h3⟩ := left_block (e := e) (v := v) j
      refine ⟨a, by omega, fun k p q => ?_, h3⟩
      by_cases d : k = j
      · rw [d]
        exact c
      · exact h2 k p (by omega)
    · exact ⟨j + 1, Nat.le_refl _, fun k p q => by omega, Or.inr (by show e j ≤ v; omega)⟩
theorem right_block {e : Nat → Int} {v : Int} {n : Nat} : ∀ d i : Nat, i + d = n → ∃ b, i ≤ b ∧ b ≤ n ∧ (∀ k, i ≤ k → k < b → v < e k) ∧ (b = n ∨ e b ≤ v)
  | 0, i, h => ⟨i, Nat.le_refl _, by omega, fun k p q => by omega, Or.inl (by omega)⟩
  | d + 1, i, h => by
    by_cases c : v < e i
    · obtain ⟨b, h1, h2, h3, h4⟩ := right_block (e := e) (v := v) (n := n) d (i + 1) (by omega)
      refine ⟨b, by omega, h2, fun k p q => ?_, h4⟩
      by_cases z : k = i
      · rw [z]
        exact c
      · exact h3 k (by omega) q
    · exact ⟨i, Nat.le_refl _, by omega, fun k p q => by omega, Or.inr (by omega)⟩
theorem blocks_ex {row : List Int} {j : Nat} (hj : j < row.length) : ∃ a b, a ≤ j ∧ j < b ∧ b ≤ row.length ∧ (∀ k, a ≤ k → k < j → nth row j < nth row k) ∧ (∀ k, j < k → k < b → nth row j < nth row k) ∧ (a = 0 ∨ nth row (a - 1) ≤ nth row j) ∧ (b = row.length ∨ nth row b ≤ nth row j) := by
  obtain ⟨a, a1, a2, a3⟩ := left_block (e := nth row) (v := nth row j) j
  obtain ⟨b, b1, b2, b3, b4⟩ := right_block (e := nth row) (v := nth row j) (n := row.length) (row.length - (j + 1)) (j + 1) (by omega)
  exact ⟨a, b, a1, by omega, b2, a2, fun k p q => b3 k (by omega) q, a3, b4⟩
theorem part_nil {xs : List Int} {a b : Nat} (h : b ≤ a) : part xs a b = [] := by
  unfold part
  rw [Nat.sub_eq_zero_of_le h]
  rfl
theorem part_eq {xs ys : List Int} {a b c d : Nat} (h : b - a = d - c) (hb : b ≤ xs.length) (hd : d ≤ ys.length) (k : ∀ i, i < b - a → nth xs (a + i) = nth ys (c + i)) : part xs a b = part ys c d := by
  apply ext_nth
  · rw [part_len hb, part_len hd, h]
  · intro i hi
    rw [part_len hb] at hi
    rw [nth_part hi, nth_part (by omega)]
    exact k i hi
/-- between two entries that are equal, and less than all -/
theorem IsT.wrap {row ts tw : List Int} {s : Int} (h : IsT row ts) (hs : ∀ x ∈ row, s < x) (hw : IsT ([s] ++ row ++ [s]) tw) : tw = [maxD 0 ts + 1] ++ ts ++ [maxD 0 ts + 1] := by
  have hlen := h.1
  have hn : ([s] ++ row ++ [s]).length = row.length + 2 := by simp only [List.length_append, List.length_singleton]; omega
  have hwl := hw.1
  rw [hn] at hwl
  have e0 : nth ([s] ++ row ++ [s]) 0 = s := rfl
  have e1 : ∀ i, i < row.length → nth ([s] ++ row ++ [s]) (1 + i) = nth row i := fun i hi => by
    rw [nth_app (by simp only [List.length_append, List.length_singleton]; omega), nth_app2 (by simp only [List.length_singleton]; omega)]
    congr 1
    simp only [List.length_singleton]
    omega
  have e2 : nth ([s] ++ row ++ [s]) (row.length + 1) = s := by
    rw [nth_app2 (by simp only [List.length_append, List.length_singleton]; omega)]
    simp only [List.length_append, List.length_singleton]
    rw [show row.length + 1 - (1 + row.length) = 0 by omega]
    rfl
  have big : ∀ k, 1 ≤ k → k < row.length + 1 → s < nth ([s] ++ row ++ [s]) k := fun k p q => by
    rw [show k = 1 + (k - 1) by omega, e1 _ (by omega)]
    exact hs _ (nth_mem (by omega))
  have hpart : part ([s] ++ row ++ [s]) 1 (row.length + 1) = row := by
    apply ext_nth
    · rw [part_len (by omega)]
      omega
    · intro i hi
      rw [part_len (by omega)] at hi
      rw [nth_part (by omega), e1 _ (by omega)]
  obtain ⟨_, q1, q2⟩ := hw.blocks (j := 0) (a := 0) (b := row.length + 1) (by omega) (Nat.le_refl _) (by omega) (by omega) (fun k p q => by omega) (fun k p q => by rw [e0]; exact big k (by omega) q) (Or.inl rfl) (Or.inr (by rw [e0, e2]; exact Int.le_refl _))
  obtain ⟨r1, _, r2⟩ := hw.blocks (j := row.length + 1) (a := 1) (b := row.length + 2) (by omega) (by omega) (by omega) (by omega) (fun k p q => by rw [e2]; exact big k p q) (fun k p q => by omega) (Or.inr (by rw [e2]; exact Int.le_of_eq e0)) (Or.inl hn.symm)
  rw [show 0 + 1 = 1 from rfl, hpart] at q1
  have et : part tw 1 (row.length + 1) = ts := q1.unique h
  rw [show 0 + 1 = 1 from rfl, et, part_nil (Nat.le_refl 0)] at q2
  rw [et, part_nil (Nat.le_refl _)] at r2
  have top0 : 0 ≤ maxD 0 ts := by
    by_cases c : ts = []
    · rw [c]
      exact Int.le_refl _
    · have := h.pos _ (maxD_mem (d := 0) c)
      omega
  have z0 : maxD 0 ([] : List Int) = 0 := rfl
  rw [z0] at q2 r2
  apply ext_nth
  · simp only [List.length_append, List.length_singleton]
    omega
  · intro i hi
    by_cases c0 : i = 0
    · subst c0
      rw [q2]
      show _ = maxD 0 ts + 1
      omega
    · by_cases c1 : i = row.length + 1
      · subst c1
        rw [r2, nth_app2 (by simp only [List.length_append, List.length_singleton]; omega)]
        simp only [List.length_append, List.length_singleton]
        rw [show row.length + 1 - (1 + ts.length) = 0 by omega]
        show _ = maxD 0 ts + 1
        omega
      · rw [nth_app (by simp only [List.length_append, List.length_singleton]; omega), nth_app2 (by simp only [List.length_singleton]; omega)]
        have : nth tw i = nth (part tw 1 (row.length + 1)) (i - 1) := by
          rw [nth_part (by omega)]
          congr 1
          omega
        rw [this, et]
        rfl
/-- a copy of an entry beside it -/
theorem IsT.copy {row ts tw : List Int} {j : Nat} (h : IsT row ts) (hj : j < row.length) (hw : IsT (row.take (j + 1) ++ row.drop j) tw) : max (nth tw j) (nth tw (j + 1)) = nth ts j := by
  have hlen := h.1
  have hn : (row.take (j + 1) ++ row.drop j).length = row.length + 1 := by rw [List.length_append, List.length_take, List.length_drop]; omega
  have hwl := hw.1
  rw [hn] at hwl
  have e1 : ∀ i, i ≤ j → nth (row.take (j + 1) ++ row.drop j) i = nth row i := fun i hi => by
    rw [nth_app (by rw [List.length_take]; omega), nth_take (by omega)]
  have e2 : ∀ i, j < i → nth (row.take (j + 1) ++ row.drop j) i = nth row (i - 1) := fun i hi => by
    rw [nth_app2 (by rw [List.length_take]; omega), nth_drop, List.length_take]
    congr 1
    omega
  obtain ⟨a, b, ha, hb, hbn, h1, h2, h3, h4⟩ := blocks_ex hj
  obtain ⟨p1, p2, p3⟩ := h.blocks hj ha hb hbn h1 h2 h3 h4
  have w1 := e1 j (Nat.le_refl _)
  have w2 := e2 (j + 1) (by omega)
  rw [Nat.add_sub_cancel] at w2
  obtain ⟨q1, q2, q3⟩ := hw.blocks (j := j) (a := a) (b := j + 1) (by omega) ha (by omega) (by omega) (fun k p q => by rw [w1, e1 k (by omega)]; exact h1 k p q) (fun k p q => by omega) (h3.imp id fun h3 => by rw [w1, e1 _ (by omega)]; exact h3) (Or.inr (by rw [w1, w2]; exact Int.le_refl _))
  obtain ⟨r1, r2, r3⟩ := hw.blocks (j := j + 1) (a := j + 1) (b := b + 1) (by omega) (Nat.le_refl _) (by omega) (by omega) (fun k p q => by omega) (fun k p q => by rw [w2, e2 k (by omega)]; exact h2 (k - 1) (by omega) (by omega)) (Or.inr (by rw [Nat.add_sub_cancel, w1, w2]; exact Int.le_refl _)) (by
    rcases h4 with h4 | h4
    · exact Or.inl (by omega)
    · right
      rw [w2, e2 (b + 1) (by omega), Nat.add_sub_cancel]
      exact h4)
  rw [part_eq (ys := row) (c := a) (d := j) rfl (by omega) (by omega) (fun i hi => e1 _ (by omega))] at q1
  rw [part_eq (ys := row) (c := j + 1) (d := b) (by omega) (by omega) hbn (fun i hi => by rw [e2 _ (by omega)]; congr 1; omega)] at r2
  have g1 := q1.unique p1
  have g2 := r2.unique p2
  rw [g1, part_nil (Nat.le_refl _)] at q3
  rw [g2, part_nil (Nat.le_refl _)] at r3
  have z0 : maxD 0 ([] : List Int) = 0 := rfl
  rw [z0] at q3 r3
  have t1 : 0 ≤ maxD 0 (part ts a j) := by
    by_cases c : part ts a j = []
    · rw [c]
      exact Int.le_refl _
    · have := p1.pos _ (maxD_mem (d := 0) c)
      omega
  have t2 : 0 ≤ maxD 0 (part ts (j + 1) b) := by
    by_cases c : part ts (j + 1) b = []
    · rw [c]
      exact Int.le_refl _
    · have := p2.pos _ (maxD_mem (d := 0) c)
      omega
  rw [q3, r3, p3]
  omega
theorem min_at {row : List Int} (h : row ≠ []) : ∃ j, j < row.length ∧ ∀ k, k < row.length → nth row j ≤ nth row k := by
  have hm : minD 0 row ∈ row := by
    cases row with
    | nil => exact absurd rfl h
    | cons x r =>
      have key : ∀ (l : List Int) (y : Int), l.foldl min y = y ∨ l.foldl min y ∈ l := by
        intro l
        induction l with
        | nil => exact fun y => Or.inl rfl
        | cons z l ih =>
          intro y
          rw [List.foldl_cons]
          rcases ih (min y z) with e | e
          · rw [e]
            by_cases c : y ≤ z
            · left
              omega
            · right
              rw [show min y z = z by omega]
              exact List.mem_cons_self
          · exact Or.inr (List.mem_cons_of_mem _ e)
      rcases key r x with e | e
      · show List.foldl min x r ∈ _
        rw [e]
        exact List.mem_cons_self
      · exact List.mem_cons_of_mem _ e
  obtain ⟨j, hj, e⟩ := mem_nth hm
  exact ⟨j, hj, fun k hk => by rw [e]; exact minD_le (nth_mem hk)⟩
theorem topN_part {row ts : List Int} {m : Nat} (h : IsT row ts) (hm : maxD 0 ts ≤ m) : topN ts ≤ m := by
  have := topN_int h
  omega
/-- a row of different entries is not longer than its rounds allow -/
theorem tall_of : ∀ (n : Nat) (row ts : List Int), row.length ≤ n → IsT row ts → (∀ i j, i < j → j < row.length → nth row i ≠ nth row j) → row.length < 2 ^ topN ts
  | n, [], ts, _, _, _ => Nat.two_pow_pos _
  | 0, _ :: _, _, hl, _, _ => by
    rw [List.length_cons] at hl
    omega
  | n + 1, x :: r, ts, hl, h, hd => by
    generalize hrow : x :: r = row at hl h hd ⊢
    have hne : row ≠ [] := by rw [← hrow]; exact List.cons_ne_nil _ _
    obtain ⟨j, hj, hmin⟩ := min_at hne
    have hlt : ∀ k, k < row.length → k ≠ j → nth row j < nth row k := fun k hk hkj => by
      have h1 := hmin k hk
      have h2 : nth row j ≠ nth row k := by
        rcases Nat.lt_or_gt_of_ne hkj with c | c
        · exact (hd k j c hj).symm
        · exact hd j k c hk
      omega
    obtain ⟨p1, p2, p3⟩ := h.blocks (a := 0) (b := row.length) hj (Nat.zero_le _) hj (Nat.le_refl _) (fun k _ q => hlt k (by omega) (by omega)) (fun k p q => hlt k q (by omega)) (Or.inl rfl) (Or.inl rfl)
    have l1 : (part row 0 j).length = j := by rw [part_len (by omega)]; omega
    have l2 : (part row (j + 1) row.length).length = row.length - (j + 1) := part_len (Nat.le_refl _)
    have i1 := tall_of n _ _ (by omega) p1 fun i k hik hk => by
      rw [l1] at hk
      rw [nth_part (by omega), nth_part (by omega)]
      exact hd _ _ (by omega) (by omega)
    have i2 := tall_of n _ _ (by omega) p2 fun i k hik hk => by
      rw [l2] at hk
      rw [nth_part (by omega), nth_part (by omega)]
      exact hd _ _ (by omega) (by omega)
    rw [l1] at i1
    rw [l2] at i2
    have ht := topN_int h
    have t1 := topN_int p1
    have t2 := topN_int p2
    have hge := maxD_ge (d := 0) (nth_mem (xs := ts) (i := j) (by have := h.1; omega))
    have m1 : topN (part ts 0 j) ≤ topN ts - 1 := by omega
    have m2 : topN (part ts (j + 1) row.length) ≤ topN ts - 1 := by omega
    have hpos : 1 ≤ topN ts := by omega
    have s1 := Nat.pow_le_pow_right (show 0 < 2 by decide) m1
    have s2 := Nat.pow_le_pow_right (show 0 < 2 by decide) m2
    have s3 : 2 ^ topN ts = 2 ^ (topN ts - 1) * 2 := by
      rw [← Nat.pow_succ]
      congr 1
      omega
    omega
theorem same_len {d l : List Int} (hd : d.Nodup) (hm : ∀ y, y ∈ d ↔ y ∈ l) (hl : d.length = l.length) : ∀ i j, i < j → j < l.length → nth l i ≠ nth l j := by
  intro i j hij hj e
  have hle := nodup_len hd (l' := l.eraseIdx j) fun y hy => by
    obtain ⟨k, hk, ek⟩ := mem_nth ((hm y).mp hy)
    by_cases c : k = j
    · refine List.mem_eraseIdx_iff_getElem?.mpr ⟨i, by omega, ?_⟩
      rw [nth_some (by omega), e, ← c, ek]
    · exact List.mem_eraseIdx_iff_getElem?.mpr ⟨k, c, by rw [nth_some hk, ek]⟩
  rw [List.length_eraseIdx, if_pos hj] at hle
  omega
end PX

/-! PXu: data of any kind; their texts. -/
namespace PX
open PySem L2
/-! ### data of any kind -/
mutual
inductive DG (G : Hp) : V → PyData → Prop
  | non : DG G .non .none
  | bl (b : Bool) : DG G (.bl b) (.bool b)
  | int (i : Int) : DG G (.int i) (.int i)
  | str (x : Str) : DG G (.str x) (.str x)
  | lst {a : Addr} {xs : List V} {ds : List PyData} : G a = some (.lst xs) → DGs G xs ds → DG G (.ref a) (.list ds)
  | tup {a : Addr} {xs : List V} {ds : List PyData} : G a = some (.tup xs) → DGs G xs ds → DG G (.ref a) (.tuple ds)
  | dic0 {a : Addr} : G a = some (.dK []) → DG G (.ref a) (.dict [])
  | dic1 {a : Addr} (i j : Int) : G a = some (.dK [(Sum.inl i, .int j)]) → DG G (.ref a) (.dict [(.int i, .int j)])
inductive DGs (G : Hp) : List V → List PyData → Prop
  | nil : DGs G [] []
  | cons {v : V} {vs : List V} {d : PyData} {ds : List PyData} : DG G v d → DGs G vs ds → DGs G (v :: vs) (d :: ds)
end
mutual
theorem DG.mono {G G' : Hp} (e : Ex G G') : ∀ {v : V} {d : PyData}, DG G v d → DG G' v d
  | _, _, .non => .non
  | _, _, .bl b => .bl b
  | _, _, .int i => .int i
  | _, _, .str x => .str x
  | _, _, .lst h q => .lst (e _ _ h) (DGs.mono e q)
  | _, _, .tup h q => .tup (e _ _ h) (DGs.mono e q)
  | _, _, .dic0 h => .dic0 (e _ _ h)
  | _, _, .dic1 i j h => .dic1 i j (e _ _ h)
theorem DGs.mono {G G' : Hp} (e : Ex G G') : ∀ {vs : List V} {ds : List PyData}, DGs G vs ds → DGs G' vs ds
  | _, _, .nil => .nil
  | _, _, .cons h q => .cons (DG.mono e h) (DGs.mono e q)
end
instance : Rep PyData where
  rel := fun _ G v d => DG G v d
  mono := fun e h => DG.mono e h
theorem dgs_rels {K : PySem.W.Frag} {G : Hp} : ∀ {vs : List V} {ds : List PyData}, DGs G vs ds ↔ Rels K G vs ds := fun {vs ds} => by
  constructor
  · intro h
    induction ds generalizing vs with
    | nil => cases h; exact .nil
    | cons d ds ih =>
      cases h with
      | cons a b => exact .cons a (ih b)
  · intro h
    induction h with
    | nil => exact .nil
    | cons a _ ih => exact .cons a ih
def datTn : PyData → String
  | .none => "NoneType"
  | .bool _ => "bool"
  | .int _ => "int"
  | .str _ => "str"
  | .list _ => "list"
  | .tuple _ => "tuple"
  | .dict _ => "dict"
instance : DynTy PyData where
  tn := datTn
  ty := fun {K G v x} h => by
    cases (show DG G v x from h) with
    | non => exact .base .non
    | bl b => exact .base (.bl _)
    | int i => exact .base (.int _)
    | str s => exact .base (.str _)
    | lst q _ => exact .base (.lst q)
    | tup q _ => exact .base (.tup q)
    | dic0 q => exact .base (.dK q)
    | dic1 i j q => exact .base (.dK q)
theorem kitD (x : PyData) {N : String} (h : N = "list" ∨ N = "int" ∨ N = "bool") : ∃ b, kitB (DynTy.tn x) N = some b := kitS (by cases x <;> simp [DynTy.tn, datTn]) h
def asInt : PyData → Option Int
  | .int i => some i
  | _ => none
def asLst : PyData → Option (List PyData)
  | .list ds => some ds
  | _ => none
def intsOf : List PyData → Option (List Int)
  | [] => some []
  | d :: ds => (asInt d).bind fun i => (intsOf ds).bind fun is => some (i :: is)
def asInts : PyData → Option (List Int)
  | .list ds => intsOf ds
  | _ => none
theorem asInt_rel {K : PySem.W.Frag} {G : Hp} {v : V} {x : PyData} {i : Int} (h : asInt x = some i) (r : Rep.rel K G v x) : v = V.int i := by
  cases (show DG G v x from r) <;> cases h
  rfl
theorem asLst_rel {K : PySem.W.Frag} {G : Hp} {v : V} {x : PyData} {l : List PyData} (h : asLst x = some l) (r : Rep.rel K G v x) : Rep.rel K G v l := by
  cases (show DG G v x from r) with
  | lst q w =>
    cases h
    exact ⟨_, _, rfl, q, dgs_rels.mp w⟩
  | _ => cases h
theorem ints_rels {K : PySem.W.Frag} {G : Hp} : ∀ {ds : List PyData} {vs : List V} {is : List Int}, intsOf ds = some is → DGs G vs ds → Rels K G vs is
  | [], _, _, h, .nil => by cases h; exact .nil
  | d :: ds, _, _, h, .cons a b => by
    obtain ⟨i, h1, h⟩ := bind_some h
    obtain ⟨is, h2, h⟩ := bind_some h
    cases h
    exact .cons (asInt_rel (K := K) h1 a) (ints_rels h2 b)
theorem asInts_rel {K : PySem.W.Frag} {G : Hp} {v : V} {x : PyData} {l : List Int} (h : asInts x = some l) (r : Rep.rel K G v x) : Rep.rel K G v l := by
  cases (show DG G v x from r) with
  | lst q w => exact ⟨_, _, rfl, q, ints_rels h w⟩
  | _ => cases h
theorem ints_dgs {G : Hp} : ∀ (l : List Int), DGs G (l.map V.int) (l.map PyData.int)
  | [] => .nil
  | i :: r => .cons (.int i) (ints_dgs r)
section
variable {X : Cx} {σ : L2.St} {H G : Hp} {a b : Expr} {es : List Expr} {pos p : Pos}
theorem ev_dNon (h : EvX X a σ H G ()) : EvX X a σ H G PyData.none := h.to fun _ _ r => by rw [show _ = V.non from r]; exact .non
theorem ev_dBl {b : Bool} (h : EvX X a σ H G b) : EvX X a σ H G (PyData.bool b) := h.to fun _ _ r => by rw [show _ = V.bl b from r]; exact .bl b
theorem ev_dInt {i : Int} (h : EvX X a σ H G i) : EvX X a σ H G (PyData.int i) := h.to fun _ _ r => by rw [show _ = V.int i from r]; exact .int i
theorem ev_dStr {i : Str} (h : EvX X a σ H G i) : EvX X a σ H G (PyData.str i) := h.to fun _ _ r => by rw [show _ = V.str i from r]; exact .str i
theorem dat_ints {K : PySem.W.Frag} {G : Hp} {v : V} {l : List Int} (r : Rep.rel K G v l) : Rep.rel K G v (PyData.list (l.map PyData.int)) := by
  obtain ⟨d, vs, rfl, h2, h3⟩ := r
  rw [rels_int h3] at h2
  exact .lst h2 (ints_dgs l)
theorem ev_dInts {l : List Int} (h : EvX X a σ H G l) : EvX X a σ H G (PyData.list (l.map PyData.int)) := h.to fun _ _ r => dat_ints r
theorem ev_dLst {l : List PyData} (h : EvX X a σ H G l) : EvX X a σ H G (PyData.list l) := h.to fun _ _ ⟨d, vs, h1, h2, h3⟩ => by
  subst h1
  exact .lst h2 (dgs_rels.mpr h3)
theorem ev_dsInts {l : List Int} (h : EvX X a σ H G l) : EvX X a σ H G (l.map PyData.int) := h.to fun _ _ ⟨d, vs, h1, h2, h3⟩ => ⟨d, vs, h1, h2, by rw [rels_int h3]; exact dgs_rels.mp (ints_dgs l)⟩
theorem lls_rels {K : PySem.W.Frag} {G : Hp} : ∀ {vs : List V} {l : List (List Int)}, Rels K G vs l → Rels K G vs (l.map fun x => PyData.list (x.map PyData.int))
  | _, _, .nil => .nil
  | _, _, .cons a b => .cons (dat_ints (K := K) a) (lls_rels b)
theorem ev_dsLists {l : List (List Int)} (h : EvX X a σ H G l) : EvX X a σ H G (l.map fun x => PyData.list (x.map PyData.int)) := h.to fun _ _ ⟨d, vs, h1, h2, h3⟩ => ⟨d, vs, h1, h2, lls_rels h3⟩
theorem ev_dTup {l : List PyData} {k1} (h : EvL X es σ H G l) (hz : l.length ≤ 100000 := by decide) : EvX X (.Tuple es k1 pos) σ H G (PyData.tuple l) := fun H1 G1 s Q k =>
  toE (pe_tup pa_wp) (show wpA X es σ H1 _ from h H1 G1 s _ fun vs H2 G2 s2 r2 => ⟨by rw [Paired.len r2]; exact Nat.le_trans hz (by decide), fun d nd =>
    k _ _ (upd G2 d (.tup vs)) (s2.trans (Rc.newG s2.sub nd)) (.tup upd_same (DGs.mono (Ex.new (none_back s2.sub nd)) (dgs_rels.mpr r2)))⟩)
theorem ev_dTupI {l : List Int} (hm : X.mg "tuple" = none) (ha : EvX X a σ H G l) (hg : Gl X "tuple" := by rfl) (he : starEach [a] X.env = (false, eval a X.env) :: starEach [] X.env := by rfl) : EvX X (.Call (.Name "tuple" p) [a] [] pos) σ H G (PyData.tuple (l.map PyData.int)) :=
  (ev_tupleE hm ha hg he).to fun _ _ ⟨d, h1, h2⟩ => by
    subst h1
    exact .tup h2 (ints_dgs l)
theorem ev_dDic0 : EvX X (.Dict [] [] pos) σ H G (PyData.dict []) := fun H1 G1 s Q k =>
  toE pe_dnewK (fun d nd => k _ _ (upd G1 d (.dK [])) (Rc.newG s.sub nd) (.dic0 upd_same))
theorem ev_dDic1 {i j : Int} {k1 k2 : Nat} {q1 q2 : Pos} : EvX X (.Dict [some (.Constant (.int i) k1 q1)] [.Constant (.int j) k2 q2] pos) σ H G (PyData.dict [(.int i, .int j)]) := fun H1 G1 s Q k =>
  toE (pe_disp (pps_cons pe_int pe_int pps_nil) rfl rfl (fun z => nomatch z) (by show 1 ≤ 15; decide)) (fun d nd => ⟨upd_same, [(Sum.inl i, V.int j)], rfl, by show 1 ≤ 15; decide, by
    rw [upd_upd]
    exact k _ _ (upd G1 d (.dK [(Sum.inl i, V.int j)])) (Rc.newG s.sub nd) (.dic1 i j upd_same)⟩)
end
end PX

/-! PXv: texts of data of any kind; lists of texts compared. -/
namespace PX
open PySem L2
/-! ### reading -/
theorem keyIs_int {v : Value} {k : Key} (h : keyIs k v = true) : ∀ i, k = Sum.inl i → ∃ t, v = .int i t := by
  intro i e
  rcases keyIs_shape h with ⟨j, t, e1, e2⟩ | ⟨x, t, e1, e2⟩
  · subst e1
    subst e2
    cases e
    exact ⟨t, rfl⟩
  · subst e1
    subst e2
    cases e
section
variable {X : Cx} {pins : List (Addr × Obj)} {σ : L2.St} {H : Hp} {s : Shared}
mutual
theorem DG.reads (I : Inv X pins σ H s) (hm : H sysModules = none) : ∀ (d : PyData) (v : V) (u : Value), DG H v d → RelV v u → ∃ as, Reads s.heap u d as ∧ sysModules ∉ as
  | .none, _, _, h, r => by
    cases h
    cases r
    exact ⟨_, Reads.none, by simp⟩
  | .bool b, _, _, h, r => by
    cases h
    cases r
    exact ⟨_, Reads.bool b, by simp⟩
  | .int i, _, _, h, r => by
    cases h
    obtain ⟨t, rfl⟩ := r
    exact ⟨_, Reads.int i t, by simp⟩
  | .str x, _, _, h, r => by
    cases h
    obtain ⟨t, rfl⟩ := r
    exact ⟨_, Reads.str x t, by simp⟩
  | .list ds, _, _, h, r => by
    cases h with
    | lst hs ha =>
      cases r
      rename_i a xs
      obtain ⟨its, rv, ⟨o, n, ho, hc, _, hd⟩, _⟩ := I.list (.inl (.inl hs))
      obtain ⟨as, hr, hn⟩ := DGs.reads I hm ds _ its ha rv
      refine ⟨_, Reads.list ho hc hd hr, fun z => ?_⟩
      rcases List.mem_cons.mp z with z | z
      · rw [← z, hm] at hs
        cases hs
      · exact hn z
  | .tuple ds, _, _, h, r => by
    cases h with
    | tup hs ha =>
      cases r
      obtain ⟨its, rv, ⟨o, ho, hc, n, hd⟩, _⟩ := I.tuple (.inl (.inl hs))
      obtain ⟨as, hr, hn⟩ := DGs.reads I hm ds _ its ha rv
      exact ⟨_, Reads.tuple ho hc hd hr, hn⟩
  | .dict ds, _, _, h, r => by
    cases h with
    | dic0 hs =>
      cases r
      obtain ⟨_, hb, vs, kv, o, es, ep, ho, hx, hd, _, hp, _⟩ := dk_of I.hok hs
      cases kv
      have e : es.toList = [] := by cases hp' : es.toList with
        | nil => rfl
        | cons x t => rw [hp'] at hp; cases hp
      refine ⟨_, Reads.dict ho hx.1 hd (as := []) (bs := []) (by rw [e]; exact .nil) (by rw [e]; exact .nil), fun z => ?_⟩
      rcases List.mem_cons.mp z with z | z
      · rw [← z, hm] at hs
        cases hs
      · cases z
    | dic1 i j hs =>
      cases r
      obtain ⟨_, hb, vs, kv, o, es, ep, ho, hx, hd, _, hp, _⟩ := dk_of I.hok hs
      cases kv with
      | cons e1 e2 =>
        cases e2
        obtain ⟨e3, e4⟩ := e1
        cases hes : es.toList with
        | nil => rw [hes] at hp; cases hp
        | cons x t =>
          rw [hes] at hp
          cases hp with
          | cons q1 q2 q3 =>
            cases q3
            obtain ⟨t1, ek⟩ := keyIs_int q1 i e3.symm
            obtain ⟨t2, ev⟩ := e4
            refine ⟨_, Reads.dict ho hx.1 hd (as := [] ++ []) (bs := [] ++ []) (by rw [hes]; show ReadsAll _ [x.key] [_] _; rw [ek]; exact .cons (.int i t1) .nil) (by rw [hes]; show ReadsAll _ [x.val] [_] _; rw [q2, ev]; exact .cons (.int j t2) .nil), fun z => ?_⟩
            rcases List.mem_cons.mp z with z | z
            · rw [← z, hm] at hs
              cases hs
            · simp at z
theorem DGs.reads (I : Inv X pins σ H s) (hm : H sysModules = none) : ∀ (ds : List PyData) (vs : List V) (us : List Value), DGs H vs ds → Vals vs us → ∃ as, ReadsAll s.heap us ds as ∧ sysModules ∉ as
  | [], _, _, h, r => by
    cases h
    cases r
    exact ⟨_, ReadsAll.nil, by simp⟩
  | d :: ds, _, _, h, r => by
    cases h with
    | cons h1 h2 =>
      cases r with
      | cons r1 r2 =>
        obtain ⟨as, q1, n1⟩ := DG.reads I hm d _ _ h1 r1
        obtain ⟨bs, q2, n2⟩ := DGs.reads I hm ds _ _ h2 r2
        exact ⟨_, ReadsAll.cons q1 q2, fun z => (List.mem_append.mp z).elim n1 n2⟩
end
end
/-- what the boot has laid stands -/
def Mods (base : Heap) : Prop := ∃ o, base.get? sysModules = some o
def reprD (x : List PyData) : Option Str := if (PyData.list x).showable = true ∧ (PyData.list x).shown.length ≤ line ∧ (PyData.list x).depth ≤ 60 then some (PyData.list x).shown else none
theorem call_reprA {X : Cx} (hM : Mods X.base) (hG : X.A.guards = some []) (hu : X.A.units + 64 < cLine) : CallR X (.builtin "repr") (fun xs H Q => ∃ a d, xs = [.ref a] ∧ DG H (.ref a) d ∧ d.showable = true ∧ d.depth ≤ 60 ∧ d.shown.length ≤ sizeLine ∧ Q (.str d.shown) H) := by
  intro pins s σ H xs us Q I r h
  obtain ⟨a, d, rfl, hd, hs, hdp, hsz, q⟩ := h
  obtain ⟨o, ho⟩ := hM
  obtain ⟨u, rfl, rx⟩ := vals1 r
  obtain ⟨as, rd, hn⟩ := DG.reads I (I.bs _ _ ho).2 d (.ref a) u hd rx
  cases rx
  exact PySem.repr_of_reads' rd hs (fun _ => hn) hG (by omega) (fun _ _ e => e) (fun h' u tk hk => ⟨.str d.shown, H, I.kept hk, ⟨_, rfl⟩, q⟩) hsz
section
variable {X : Cx} {σ : L2.St} {H G : Hp} {a b : Expr} {pos p : Pos}
theorem ev_reprA {x : List PyData} {t : Str} (hM : Mods X.base) (hG : X.A.guards = some []) (hu : X.A.units + 64 < cLine) (hm : X.mg "repr" = none) (h : reprD x = some t) (ha : EvX X a σ H G x) (hg : Gl X "repr" := by rfl) (he : starEach [a] X.env = (false, eval a X.env) :: starEach [] X.env := by rfl) :
    EvX X (.Call (.Name "repr" p) [a] [] pos) σ H G t := by
  obtain ⟨⟨h1, h2, h4⟩, h3⟩ := dite_some h
  subst h3
  exact ev_bi (call_reprA hM hG hu) hm (by decide +kernel) (ea_cons ha ea_nil he) (fun vs H1 G1 s r Q k => by
    obtain ⟨v, rfl, d, ws, hv1, hv2, hv3⟩ := args1 r
    subst hv1
    exact ⟨d, _, rfl, .lst (s.sub _ _ hv2) (DGs.mono s.sub (dgs_rels.mpr hv3)), h1, h4, line_le h2, k _ H1 G1 (Rc.refl s.sub) rfl⟩) hg (by decide) (by decide) he
/-! ### lists of texts -/
def nesO (xs ys : List Str) : Option Bool := if xs.all PyData.strOk = true ∧ ys.all PyData.strOk = true then some (!decide (xs = ys)) else none
theorem strs_dp {K : PySem.W.Frag} {G : Hp} : ∀ {vs : List V} {xs : List Str}, Rels K G vs xs → DpAll K G vs (xs.map PyData.str)
  | _, _, .nil => .nil
  | _, _, .cons h t => by
    cases h
    exact .cons (.str _) (strs_dp t)
theorem strs_dep : ∀ xs : List Str, PyData.depthAll (xs.map PyData.str) = 0
  | [] => by simp [PyData.depthAll]
  | x :: t => by simp [PyData.depthAll, PyData.depth, strs_dep t]
theorem strs_lay : ∀ xs : List Str, xs.all PyData.strOk = true → PyData.canLayAll0 (xs.map PyData.str) = true
  | [], _ => by simp [PyData.canLayAll0]
  | x :: t, h => by
    rw [List.all_cons, Bool.and_eq_true] at h
    simp [PyData.canLayAll0, PyData.canLay0, h.1, strs_lay t h.2]
theorem strs_eqv : ∀ xs ys : List Str, PyData.eqvAll (xs.map PyData.str) (ys.map PyData.str) = decide (xs = ys)
  | [], [] => by simp [PyData.eqvAll]
  | [], _ :: _ => by simp [PyData.eqvAll]
  | _ :: _, [] => by simp [PyData.eqvAll]
  | x :: t, y :: u => by
    have h2 := strs_eqv t u
    simp only [List.map_cons, PyData.eqvAll, PyData.eqv, h2]
    rw [Bool.eq_iff_iff]
    simp
theorem strs_shaped {xs : List Str} (h : xs.all PyData.strOk = true) : SeqAt.shaped (.list (xs.map PyData.str)) = true := by
  unfold SeqAt.shaped
  rw [show (PyData.list (xs.map PyData.str)).canLay0 = true by simp only [PyData.canLay0]; exact strs_lay xs h, Bool.true_and, decide_eq_true_iff]
  simp only [PyData.depth, strs_dep]
  omega
theorem op_nes {X : Cx} {H G : Hp} {xs ys : List Str} {t : Bool} (h : nesO xs ys = some t) : Opv X.K (fun v w H Q => rNe v w H Q ∨ rNeD X.K v w H Q) H G xs ys t := fun v w H1 G1 s ⟨d, vs, e1, e2, e3⟩ ⟨d2, ws, f1, f2, f3⟩ Q k => by
  obtain ⟨⟨h1, h2⟩, h3⟩ := dite_some h
  subst e1
  subst f1
  refine .inr ⟨.list (xs.map PyData.str), .list (ys.map PyData.str), .lst (.inl (.inl (s.sub _ _ e2))) (strs_dp (Rels.mono s.sub e3)), .lst (.inl (.inl (s.sub _ _ f2))) (strs_dp (Rels.mono s.sub f3)), strs_shaped h1, strs_shaped h2, k _ H1 G1 (Rc.refl s.sub) ?_⟩
  subst h3
  refine congrArg (fun b => V.bl (!b)) ?_
  simp only [PyData.eqv]
  exact strs_eqv xs ys
theorem ev_nes {xs ys : List Str} {t : Bool} (hu : X.A.units + 64 < cLine) (h : nesO xs ys = some t) (ha : EvX X a σ H G xs) (hb : EvX X b σ H G ys) (hm : behindInMarks .NotEq b = false := by rfl) : EvX X (.Compare a [.NotEq] [b] pos) σ H G t := ev_cmp (op_neS hu) hm ha hb (op_nes h)
theorem et_nes {xs ys : List Str} {t : Bool} (hu : X.A.units + 64 < cLine) (h : nesO xs ys = some t) (ha : EvX X a σ H G xs) (hb : EvX X b σ H G ys) (hm : behindInMarks .NotEq b = false := by rfl) : EvT X (.Compare a [.NotEq] [b] pos) σ H G t := et_cmp (op_neS hu) hm ha hb (op_nes h)
end
end PX

/-! PXw: defs that raise; except X as e, the exception kept; isinstance of it. -/
namespace PX
open PySem L2
open PySem.Spec PyProof.Rows
/-! ### the classes -/
def RN : List Str := ["InvalidRow", "InvalidRounds", "InvalidTimes", "InvalidPlace"]
def AN : List Str := ["InvalidRow", "InvalidTimes", "InvalidPlace", "InvalidRounds", "InvalidNumber", "TooLarge", "InvalidEntry", "InvalidIndex", "InvalidText", "InvalidCommand", "NotClear", "NotOrder", "NotTimes", "NothingToUndo", "NoRidge"]
abbrev veMro : List Value := [.type "ValueError", .type "Exception", .type "BaseException", .type "object"]
structure ExAt (K : PySem.W.Frag) (mg : Str → Option Value) (n : Str) (C : Addr) : Prop where
  ns : PySem.W.nsIn K mainGlobals n = some (some (.ref C))
  g : mg n = some (.ref C)
  x : PySem.W.excIn K C veMro "ValueError.__new__" = true
  k : PySem.W.keepIn K (.ref C) = true
  b : PySem.W.subIn K (.ref C) (.type "BaseException") = some true
  t : PySem.W.typeIn K (.ref C) = some (.type "type")
  ec : ExcC K C
  p : ∃ P, mg "PeakError" = some (.ref P) ∧ PySem.W.exmOne K (.ref C) (.ref P) = some true
  v : PySem.W.kitOne K (.ref C) (.type "ValueError") = some true
  st : PySem.W.subIn K (.ref C) (.type "StopIteration") = some false
  i : ∀ d ∈ AN, ∃ D, mg d = some (.ref D) ∧ PySem.W.kitOne K (.ref C) (.ref D) = some (decide (n = d))
def ExF (K : PySem.W.Frag) (mg : Str → Option Value) : Prop := ∀ n ∈ RN, ∃ C, ExAt K mg n C
/-! ### what may raise -/
inductive Res (α : Type) where
  | ok (x : α)
  | er (c : Str)
def resB {α β : Type} (t : Res α) (k : α → Option (Res β)) : Option (Res β) := match t with
  | .ok a => k a
  | .er c => some (.er c)
/-- the object of an exception of the class cls -/
def ExE (cls : Value) (a : Addr) : HO := .ext fun h => ∃ (oe : Obj) (vs : Array Value), h.get? a = some oe ∧ Zc cls none oe ∧ oe.data = .fields vs
structure Exc where
  name : Str
instance : Rep Exc where
  rel := fun K G v x => ∃ a C, v = .ref a ∧ PySem.W.nsIn K mainGlobals x.name = some (some (.ref C)) ∧ G a = some (ExE (.ref C) a)
  mono := fun e ⟨a, C, h1, h2, h3⟩ => ⟨a, C, h1, h2, e _ _ h3⟩
instance : Rep (Option Exc) where
  rel := fun K G v x => match x with
    | none => v = .non
    | some y => Rep.rel K G v y
  mono := fun {K G G' v x} e h => by
    cases x with
    | none => exact h
    | some y => exact Rep.mono (α := Exc) e h
def resT {α : Type} (t : Res α) (k : α → Option (Option Exc)) : Option (Option Exc) := match t with
  | .ok a => k a
  | .er c => some (some ⟨c⟩)
section
variable {γ τ : Type} [Rep γ] [ArgsR τ]
def spX (f : τ → Option (Res γ)) (mg : Str → Option Value) (K : PySem.W.Frag) : Sp := fun vs H Q E => ∃ G w r, Ex G H ∧ ArgsR.rel K G vs w ∧ f w = some r ∧
  (∀ b, r = .ok b → ∀ v H2 G2, Rc [] H G H2 G2 → Rep.rel K G2 v b → Q v H2) ∧ (∀ c, r = .er c → ∀ C H2 G2, Rc [] H G H2 G2 → mg c = some (.ref C) → c ∈ RN → E (.ref C) none H2)
theorem lenX {f : τ → Option (Res γ)} {mg : Str → Option Value} {K : PySem.W.Frag} {n : Nat} (h : ArgsR.n τ = n) : ∀ vs H Q E, spX f mg K vs H Q E → vs.length = n := fun vs H Q E ⟨_, _, _, _, q, _⟩ => by rw [ArgsR.len q, h]
end
structure CalX (P : Program) (w : World) (K : PySem.W.Frag) (mg : Str → Option Value) (base : Heap) (nm : Str) (k : Nat) (ps : List Str) (sp : Sp) : Prop where
  ex : ∃ (f : Addr) (fd : FuncData), FnG P w K mg base (L2.CX P w) k f fd ps sp ∧ mg nm = some (.ref f) ∧ PySem.W.keepIn K (.ref f) = true ∧ Binds K fd ps []
section
variable {X : Cx} {σ : L2.St} {H G : Hp} {e : Expr} {es : List Expr} {pos p p2 : Pos} {k j : Nat} {ps : List Str} {nm : Str}
theorem runX {CX : CXT} {f : Addr} {fd : FuncData} {sp : Sp} {E : XK} {pins : List (Addr × Obj)} {s : Shared} {Q : VK} {us : List Value} {vs : List V} (F : FnG X.prog X.w X.K X.mg X.base CX k f fd ps sp) (hG : X.A.guards = some []) (hr : Room k X.A) (hb : Binds X.K fd ps []) (hx : PassesAt CX X σ E)
    (I : Inv X pins σ H s) (r : L2.Vals vs us) (h : sp vs H Q E) : wpAny (model X.prog X.w) X.A (call (.ref f) us) (EP X pins σ Q) X.xe s := by
  have hlen : us.length = ps.length := by
    rw [← r.length]
    exact F.len _ _ _ _ h
  have bd := hb s us I.kIn (by rw [List.append_nil]; exact hlen)
  rw [List.append_nil] at bd
  refine wpAny_call (codeAny_mono (F.run X.A X.stack s H ⟨us, []⟩ us vs Q E hG hr I.env0 bd r h) ?_)
  intro res s' hq
  match res, hq with
  | .error er, hq => exact hx pins H s er s' I hq
  | .ok (.ret u), ⟨v, H', q1, q2, q3, q4, q5, q6⟩ => exact ⟨v, H', I.call' (ch := []) q1 q3 q4 q2 (fun _ z => nomatch z), q5, q6⟩
theorem wcX {sp : Sp} {E : XK} {Q : VK} (C : CalX X.prog X.w X.K X.mg X.base nm k ps sp) (hG : X.A.guards = some []) (hr : Room j X.A) (hk : k ≤ j) (tk : PassesAt (L2.CX X.prog X.w) X σ E) (h : wpA X (e :: es) σ H fun vs H1 => sp vs H1 Q E)
    (hg : Gl X nm := by rfl) (hdb : (nm == ("__debug__" : Str)) = false := by decide) (he : starEach (e :: es) X.env = (false, eval e X.env) :: starEach es X.env := by rfl) (hpl : (backTo pos (starEach es X.env)).any (·.1) = false := by rfl) : wpE X (.Call (.Name nm p) (e :: es) [] pos) σ H Q := fun pins s I => by
  obtain ⟨f, fd, F, c1, c2, c3⟩ := C.ex
  refine wpAny_Call_Name_kw (ld_glob I hg c1 ?_ hdb)
  refine PySem.W.callWith_K (h₀ := X.base) I.ok.mod.kin c2 ?_ he hpl
  exact thn (h pos pins s I) fun us s1 ⟨vs, H1, I1, r, q⟩ => ⟨I1.kIn, runX F hG (hr.mono hk) c3 tk I1 r q⟩
/-- raise C('..') -/
theorem raises_at {n : Str} {C : Addr} (x : ExAt X.K X.mg n C) : Raises X (.ref C) := raises_own x.b x.t
theorem ws_raise {n m : Str} {j : Nat} {W : WX} {D : Ends} {pr : Pos} (xf : ExF X.K X.mg) (hn : n ∈ RN) (tk : Takes X W) (h : ∀ C, X.mg n = some (.ref C) → W (.ref C) none σ H) (hc : X.calm = true := by rfl) (hg : Gl X n := by rfl) (hdb : (n == ("__debug__" : Str)) = false := by decide) :
    wpS X (.Raise (some (.Call (.Name n p) [.Constant (.str m) j p2] [] pos)) none pr) D σ H := by
  obtain ⟨C, x⟩ := xf n hn
  exact toS (ps_raise hc tk (pmk_own PySem.F.excBase_ValueError x.x x.g x.k (raises_at x) hg hdb)) (h C x.g)
/-- raise C(f'.. {e} ..') -/
def fstrO (m1 : Str) (i : Int) (m2 : Str) : Option Unit := if i.natAbs.log2 < 1920 ∧ (Str.empty ++ m1 ++ (toString i : Str) ++ m2).length ≤ line ∧ (Str.empty ++ m1 ++ (toString i : Str)).length ≤ line ∧ (Str.empty ++ m1).length ≤ line then some () else none
theorem ws_raiseF {n m1 m2 : Str} {j1 j2 : Nat} {i : Int} {u : Unit} {W : WX} {D : Ends} {pr pf p3 p4 : Pos} (xf : ExF X.K X.mg) (hn : n ∈ RN) (tk : Takes X W) (hz : fstrO m1 i m2 = some u) (g0 : Ex G H) (ha : EvX X e σ H G i)
    (h : ∀ C H2 G2, Rc [] H G H2 G2 → X.mg n = some (.ref C) → W (.ref C) none σ H2) (hc : X.calm = true := by rfl) (hg : Gl X n := by rfl) (hdb : (n == ("__debug__" : Str)) = false := by decide)
    (hs : starEach [.JoinedStr [.Constant (.str m1) j1 p3, .FormattedValue e (-1) none pf, .Constant (.str m2) j2 p4] p2] X.env = (false, eval (.JoinedStr [.Constant (.str m1) j1 p3, .FormattedValue e (-1) none pf, .Constant (.str m2) j2 p4] p2) X.env) :: starEach [] X.env := by rfl) :
    wpS X (.Raise (some (.Call (.Name n p) [.JoinedStr [.Constant (.str m1) j1 p3, .FormattedValue e (-1) none pf, .Constant (.str m2) j2 p4] p2] [] pos)) none pr) D σ H := by
  obtain ⟨C, x⟩ := xf n hn
  obtain ⟨⟨h1, h2, h3, h4⟩, _⟩ := dite_some hz
  refine toS (ps_raise hc tk (SkE.pmk_own1 PySem.F.excBase_ValueError x.x x.g x.k (raises_at x) hg (pe_joined (.cons pe_str (.cons (pe_fmt pe_wp) (.cons pe_str .nil)))) hs hdb)) ?_
  refine ⟨m1, rfl, line_le h4, ?_⟩
  show wpE X e σ H _
  exact EvX.go ha g0 fun v H2 G2 s r => .inr ⟨i, r, h1, _, rfl, line_le h3, _, rfl, line_le h2, h C H2 G2 s x.g⟩
end
/-! ### isinstance of an exception -/
def excIs (x : Exc) (d : Str) : Option Bool := if x.name ∈ RN ∧ d ∈ AN then some (decide (x.name = d)) else none
def excV (x : Exc) : Option Bool := if x.name ∈ RN then some true else none
def excAny (x : Exc) (ds : List Str) : Option Bool := if x.name ∈ RN ∧ ∀ d ∈ ds, d ∈ AN then some (decide (x.name ∈ ds)) else none
/-- no exception of ours has a field -/
def deadO {α : Type} : Option α := none
section
variable {X : Cx} {σ : L2.St} {H G : Hp} {a : Expr} {pos p pT : Pos}
theorem exc_inst {n : Str} {C a : Addr} (x : ExAt X.K X.mg n C) : PySem.W.KitX X.K (.ref a) (.ref C) (fun h => ∃ ox, PySem.W.InstAt h a ox C none) where
  ty := fun M h k ⟨ox, i⟩ => (PySem.W.handS_kitx_exc (x := a) (ox := ox) x.ec.hg x.ec.hk x.ec.hs x.ec.hd x.ec.ha x.ec.hn x.ec.ht x.ec.hm).ty M h k i
  it := fun M h k ⟨ox, i⟩ => (PySem.W.handS_kitx_exc (x := a) (ox := ox) x.ec.hg x.ec.hk x.ec.hs x.ec.hd x.ec.ha x.ec.hn x.ec.ht x.ec.hm).it M h k i
  ne := (PySem.W.handS_kitx_exc (x := a) (ox := default) x.ec.hg x.ec.hk x.ec.hs x.ec.hd x.ec.ha x.ec.hn x.ec.ht x.ec.hm).ne
  ca := fun k ⟨ox, i⟩ q => (PySem.W.handS_kitx_exc (x := a) (ox := ox) x.ec.hg x.ec.hk x.ec.hs x.ec.hd x.ec.ha x.ec.hn x.ec.ht x.ec.hm).ca k i q
theorem exe_inst {pins : List (Addr × Obj)} {s : Shared} {C a : Addr} (I : Inv X pins σ H s) (h : H a = some (ExE (.ref C) a)) : ∃ ox, PySem.W.InstAt s.heap a ox C none := by
  obtain ⟨⟨oe, vs, hg, hz, hv⟩, _⟩ := (show ObjOk X.prog X.w H s.heap a (ExE (.ref C) a) from I.hok a _ h)
  obtain ⟨oc, od, oda, osl⟩ := oe
  obtain ⟨h1, h2⟩ := hz
  dsimp only at h1 h2 hv
  subst h1 h2 hv
  exact ⟨_, hg, rfl, rfl, trivial⟩
theorem call_isX (xf : ExF X.K X.mg) : CallR X (.builtin "isinstance") (fun xs H Q => ∃ (n : Str) (C a : Addr) (c : V) (cv : Value) (b : Bool), xs = [.ref a, c] ∧ n ∈ RN ∧ PySem.W.nsIn X.K mainGlobals n = some (some (.ref C)) ∧ H a = some (ExE (.ref C) a) ∧ ClsV c cv ∧ PySem.W.kitOne X.K (.ref C) cv = some b ∧ Q (.bl b) H) := by
  intro pins s σ H xs us Q I r h
  obtain ⟨n, C, a, c, cv, b, rfl, hn, hC, hH, k, e, q⟩ := h
  obtain ⟨C', x⟩ := xf n hn
  have ee := x.ns.symm.trans hC
  cases ee
  obtain ⟨u1, u2, rfl, r1, r2⟩ := vals2 r
  have e2 := k.eq r2
  subst e2
  cases (show u1 = Value.ref a from r1)
  exact PySem.W.kia_one (exc_inst x) I.kIn (exe_inst I hH) e (fun z => nomatch z) fun tk => ⟨.bl b, H, I.tok tk, rfl, q⟩
theorem call_isXT (xf : ExF X.K X.mg) : CallR X (.builtin "isinstance") (fun xs H Q => ∃ (n : Str) (C a tp : Addr) (cs : List V) (us : List Value) (b : Bool), xs = [.ref a, .ref tp] ∧ n ∈ RN ∧ PySem.W.nsIn X.K mainGlobals n = some (some (.ref C)) ∧ H a = some (ExE (.ref C) a) ∧ H tp = some (.tup cs) ∧ Paired ClsV cs us ∧ PySem.W.kitAny X.K (.ref C) us = some b ∧ Q (.bl b) H) := by
  intro pins s σ H xs us Q I r h
  obtain ⟨n, C, a, tp, cs, ws, b, rfl, hn, hC, hH, hT, k, e, q⟩ := h
  obtain ⟨C', x⟩ := xf n hn
  have ee := x.ns.symm.trans hC
  cases ee
  obtain ⟨u1, u2, rfl, r1, r2⟩ := vals2 r
  cases (show u1 = Value.ref a from r1)
  cases (show u2 = Value.ref tp from r2)
  obtain ⟨_, its, rv, o, h1, h2, m, h3⟩ := (show ObjOk X.prog X.w H s.heap tp (.tup cs) from I.hok tp _ hT)
  have e3 := ClsV.all k rv
  subst e3
  obtain ⟨oc, od, dt, sl⟩ := o
  simp only at h2 h3
  subst h2 h3
  exact PySem.W.kia_tup (exc_inst x) I.kIn (exe_inst I hH) h1 e (fun z => nomatch z) fun tk => ⟨.bl b, H, I.tok tk, rfl, q⟩
/-- isinstance(e, D) -/
theorem ev_isX {x : Exc} {d : Str} {r : Bool} (xf : ExF X.K X.mg) (hm : X.mg "isinstance" = none) (h : excIs x d = some r) (ha : EvX X a σ H G x) (hg : Gl X "isinstance" := by rfl) (hgT : Gl X d := by rfl) (hd : (d == ("__debug__" : Str)) = false := by decide)
    (he : starEach [a, .Name d pT] X.env = (false, eval a X.env) :: starEach [.Name d pT] X.env := by rfl) (he2 : starEach [.Name d pT] X.env = (false, eval (.Name d pT) X.env) :: starEach [] X.env := by rfl) (hpl : (backTo pos (starEach [.Name d pT] X.env)).any (·.1) = false := by rfl) :
    EvX X (.Call (.Name "isinstance" p) [a, .Name d pT] [] pos) σ H G r := fun H1 G1 s Q k => by
  obtain ⟨⟨h1, h2⟩, h3⟩ := dite_some h
  obtain ⟨C', x'⟩ := xf _ h1
  obtain ⟨D, gD, iD⟩ := x'.i d h2
  refine toE (pe_callB (call_isX xf) hg hm (by decide +kernel) (pa_cons pe_wp (pa_cons (pe_glob (v := .ref D) hgT gD rfl hd) pa_nil he2) he) (by decide) (by decide) he hpl) (show wpE X a σ H1 _ from ha H1 G1 s _ fun v H2 G2 s2 r2 => ?_)
  obtain ⟨b, C, rfl, hC, hb⟩ := r2
  have ee := x'.ns.symm.trans hC
  cases ee
  subst h3
  exact ⟨x.name, _, b, .ref D, .ref D, _, rfl, h1, hC, s2.sub _ _ hb, .own D, iD, k _ H2 G2 s2 rfl⟩
/-- isinstance(e, ValueError) -/
theorem ev_isXV {x : Exc} {r : Bool} (xf : ExF X.K X.mg) (hm : X.mg "isinstance" = none) (hmT : X.mg "ValueError" = none) (h : excV x = some r) (ha : EvX X a σ H G x) (hg : Gl X "isinstance" := by rfl) (hgT : Gl X "ValueError" := by rfl)
    (he : starEach [a, .Name "ValueError" pT] X.env = (false, eval a X.env) :: starEach [.Name "ValueError" pT] X.env := by rfl) (he2 : starEach [.Name "ValueError" pT] X.env = (false, eval (.Name "ValueError" pT) X.env) :: starEach [] X.env := by rfl) (hpl : (backTo pos (starEach [.Name "ValueError" pT] X.env)).any (·.1) = false := by rfl) :
    EvX X (.Call (.Name "isinstance" p) [a, .Name "ValueError" pT] [] pos) σ H G r := fun H1 G1 s Q k => by
  obtain ⟨h1, h3⟩ := dite_some h
  obtain ⟨C', x'⟩ := xf _ h1
  refine toE (pe_callB (call_isX xf) hg hm (by decide +kernel) (pa_cons pe_wp (pa_cons (pe_bltn (v := .ty "ValueError") hgT hmT (by decide +kernel) rfl (by decide) (by decide)) pa_nil he2) he) (by decide) (by decide) he hpl) (show wpE X a σ H1 _ from ha H1 G1 s _ fun v H2 G2 s2 r2 => ?_)
  obtain ⟨b, C, rfl, hC, hb⟩ := r2
  have ee := x'.ns.symm.trans hC
  cases ee
  subst h3
  exact ⟨x.name, _, b, .ty "ValueError", .type "ValueError", _, rfl, h1, hC, s2.sub _ _ hb, .ty _, x'.v, k _ H2 G2 s2 rfl⟩
/-- what a list of names of classes gives -/
inductive ClsL (X : Cx) : List Expr → List Str → Prop
  | nil : ClsL X [] []
  | cons {d : Str} {pT : Pos} {es : List Expr} {ds : List Str} (h : Gl X d) (hd : (d == ("__debug__" : Str)) = false) (hs : starEach (.Name d pT :: es) X.env = (false, eval (.Name d pT) X.env) :: starEach es X.env) (r : ClsL X es ds) : ClsL X (.Name d pT :: es) (d :: ds)
theorem clsL_go {n : Str} {C : Addr} (x : ExAt X.K X.mg n C) : ∀ {es : List Expr} {ds : List Str}, ClsL X es ds → (∀ d ∈ ds, d ∈ AN) → ∃ (cs : List V) (us : List Value), Paired ClsV cs us ∧ PySem.W.kitAny X.K (.ref C) us = some (decide (n ∈ ds)) ∧ cs.length = ds.length ∧ ∀ (σ : L2.St) (H : Hp) (Q : List V → Hp → Prop), Q cs H → wpA X es σ H Q := by
  intro es ds c
  induction c with
  | nil => exact fun _ => ⟨[], [], .nil, rfl, rfl, fun σ H Q q => wpA_nil q⟩
  | @cons d pT es ds hg hd hs c ih =>
    intro ha
    obtain ⟨cs, us, p1, p2, p3, p4⟩ := ih fun d hd => ha d (List.mem_cons_of_mem _ hd)
    obtain ⟨D, gD, iD⟩ := x.i _ (ha _ List.mem_cons_self)
    refine ⟨.ref D :: cs, .ref D :: us, .cons (.own D) p1, ?_, congrArg (· + 1) p3, fun σ H Q q => wpA_cons (toE (pe_glob (v := .ref D) hg gD rfl hd) (p4 σ H _ q)) hs⟩
    unfold PySem.W.kitAny
    rw [iD]
    by_cases e : n = d
    · rw [decide_eq_true e]
      simp [e]
    · rw [decide_eq_false e]
      simp only
      rw [p2]
      simp [e]
theorem ev_isXT {x : Exc} {ds : List Str} {r : Bool} {es : List Expr} {k1 : Nat} (xf : ExF X.K X.mg) (hm : X.mg "isinstance" = none) (h : excAny x ds = some r) (c : ClsL X es ds) (hl : ds.length ≤ 1000) (ha : EvX X a σ H G x) (hg : Gl X "isinstance" := by rfl)
    (he : starEach [a, .Tuple es k1 pT] X.env = (false, eval a X.env) :: starEach [.Tuple es k1 pT] X.env := by rfl) (he2 : starEach [.Tuple es k1 pT] X.env = (false, eval (.Tuple es k1 pT) X.env) :: starEach [] X.env := by rfl) (hpl : (backTo pos (starEach [.Tuple es k1 pT] X.env)).any (·.1) = false := by rfl) :
    EvX X (.Call (.Name "isinstance" p) [a, .Tuple es k1 pT] [] pos) σ H G r := fun H1 G1 s Q k => by
  obtain ⟨⟨h1, h2⟩, h3⟩ := dite_some h
  obtain ⟨C', x'⟩ := xf _ h1
  obtain ⟨cs, us, p1, p2, p3, p4⟩ := clsL_go x' c h2
  refine toE (pe_callB (call_isXT xf) hg hm (by decide +kernel) (pa_cons pe_wp (pa_cons (pe_tup (t := wpA X es) pa_wp) pa_nil he2) he) (by decide) (by decide) he hpl) (show wpE X a σ H1 _ from ha H1 G1 s _ fun v H2 G2 s2 r2 => ?_)
  obtain ⟨b, C, rfl, hC, hb⟩ := r2
  have ee := x'.ns.symm.trans hC
  cases ee
  subst h3
  refine p4 σ H2 _ ⟨by rw [p3]; exact Nat.le_trans hl (by decide), fun d nd => ?_⟩
  have eb := Ex.new (o := .tup cs) nd _ _ (s2.sub _ _ hb)
  exact ⟨x.name, _, b, d, cs, us, _, rfl, h1, hC, eb, upd_same, p1, p2, k _ _ (upd G2 d (.tup cs)) (s2.trans (Rc.newG s2.sub nd)) rfl⟩
/-! ### None or an exception -/
theorem ev_someX {x : Option Exc} {y : Exc} (h : x = some y) (ha : EvX X a σ H G x) : EvX X a σ H G y := by
  subst h
  exact fun H1 G1 s Q k => ha H1 G1 s Q k
theorem opIsN {x : Option Exc} : Opv X.K (fun v w H Q => w = .non ∧ Q (.bl (decide (v = .non))) H) H G x () x.isNone := fun v w H1 G1 s hv hw Q k => by
  refine ⟨hw, k _ H1 G1 (Rc.refl s.sub) ?_⟩
  cases x with
  | none =>
    rw [show v = .non from hv]
    rfl
  | some y =>
    obtain ⟨b, C, rfl, _⟩ := (show Rep.rel (α := Exc) X.K G1 v y from hv)
    rfl
theorem et_isN {b : Expr} {x : Option Exc} (ha : EvX X a σ H G x) (hb : EvX X b σ H G ()) : EvT X (.Compare a [.Is] [b] pos) σ H G x.isNone := et_cmp op_isN (nomark _) ha hb opIsN
end
end PX

/-! PXx: try: .. except D as e: caught = e; the law's end where the boot's modules stand. -/
namespace PX
open PySem L2
open PySem.Spec PyProof.Rows
section
variable {X : Cx} {pins : List (Addr × Obj)} {σ : L2.St} {H : Hp} {s : Shared}
/-- an object that is pinned is tracked from here on -/
theorem Inv.track {a : Addr} {oe : Obj} {cls : Value} (I : Inv X ((a, oe) :: pins) σ H s) (h0 : X.s_0.heap.get? a = none) (hp : ∀ p ∈ X.pn ++ pins, p.1 ≠ a) (z : Zc cls none oe) (d : ∃ vs, oe.data = .fields vs) : Inv X pins σ (upd H a (ExE cls a)) s := by
  obtain ⟨hg, na, nL, nF, nC⟩ := I.pin (a, oe) (List.mem_append.mpr (.inr List.mem_cons_self))
  obtain ⟨vs, hd⟩ := d
  refine ⟨I.ok, I.os, I.bare, ⟨I.base.keep, I.base.slot, fun b o e n hx => ?_, I.base.there, fun b xs e => ?_, fun b o u e => ?_, fun b ps e => ?_⟩, I.loc, I.cell, ?_, fun x c e => ?_, fun p q => ?_, fun b u e => ?_, I.len⟩
  · rw [upd_ne fun z => by rw [z, h0] at e; cases e]
    exact I.base.free b o e n hx
  · have q := I.base.tups b xs e
    rw [upd_ne fun z => by rw [z, na] at q; cases q]
    exact q
  · have q := I.base.frzs b o u e
    rw [upd_ne fun z => by rw [z, na] at q; cases q]
    exact q
  · obtain ⟨m, q⟩ := I.base.tbls b ps e
    refine ⟨m, ?_⟩
    rw [upd_ne fun z => by rw [z, na] at q; cases q]
    exact q
  · rw [upd_ne (Ne.symm nL)]
    exact I.free
  · obtain ⟨v, o, ho, hc⟩ := I.cell x c e
    rw [upd_ne fun z => by
      rw [z, hg] at ho
      cases ho
      exact nC v hc]
    exact I.freeC x c e
  · obtain ⟨q1, q2, q3, q4, q5⟩ := I.pin p (by
      rcases List.mem_append.mp q with q | q
      · exact List.mem_append.mpr (.inl q)
      · exact List.mem_append.mpr (.inr (List.mem_cons_of_mem _ q)))
    exact ⟨q1, by rw [upd_ne (hp p q)]; exact q2, q3, q4, q5⟩
  · by_cases hb : b = a
    · subst hb
      rw [upd_same] at e
      cases e
      exact ⟨⟨oe, vs, hg, z, hd⟩, ⟨oe, hg⟩, fun _ _ ⟨o, v, q, r⟩ k => ⟨o, v, k o q, r⟩⟩
    · rw [upd_ne hb] at e
      exact (I.hok b u e).stay (fun c v _ q => q) (fun c q => by rw [upd_ne (ne_of_none q na)]; exact q) fun c xs q => by rw [upd_ne (ne_of_none q na)]; exact q
end
/-- what is wished of an exception of the body: it is the clause's, and is kept -/
def wTry (K : PySem.W.Frag) (c : Value) (i j : Nat) (D : Ends) : WX := fun cls d σ H =>
  d = none ∧ PySem.W.exmOne K cls c = some true ∧ ∀ a, H a = none → D.nx (((σ.set i (some (.ref a))).set j (some (.ref a))).set i none) (upd H a (ExE cls a))
section
variable {X : Cx} {σ : L2.St} {H : Hp} {x n m : Str} {c : Value} {i j : Nat} {body : List Stmt} {np pos pos' p1 p2 p3 : Pos} {D : Ends}
theorem ws_tryAs (hc : Names X x c) (hij : i ≠ j) (hN : X.N.Nodup) (hb : ∀ (pn : List (Addr × Obj)) (xe : Value → Shared → Prop), Takes (X.tr pn xe) (wTry X.K c i j D) → PassesOwn (model X.prog X.w) X.A X.env xe → wpB (X.tr pn xe) body D σ H)
    (hs : X.stack = X.env :: X.outer := by rfl) (hf : X.env.frame = some X.env.locals := by rfl) (hex : X.ex = [] := by rfl) (hi : X.N[i]? = some n := by rfl) (hj : X.N[j]? = some m := by rfl) (hln : X.env.kindOf n = some .local := by rfl) (hlm : Loc X.env.scope m := by first | exact Or.inl rfl | exact Or.inr rfl) (hvn : Vis X.env.scope n := by exact Or.inl rfl) (hfm : X.fn m = true ∨ X.env.scope.names.lookup m = some .local := by first | exact .inl rfl | exact .inr rfl)
    (hd1 : (n == ("__debug__" : Str)) = false := by decide) (hd2 : (n == ("__classdict__" : Str)) = false := by decide) (hsw : ∀ Y : Env, swapsWith (.Name n p2) (some (.Name m p1)) p3.line Y = pure false := by intro _; rfl) :
    wpS X (.Try body [.ExceptHandler (some (.Name x np)) (some n) [.Assign [.Name m p1] (.Name n p2) p3] pos'] [] [] pos) D σ H := by
  intro pins s I
  have ok := I.ok
  have hfr : X.A.frames = some (X.env :: X.outer) := by rw [ok.frames, hs]
  have hloc : Loc X.env.scope n := .inl hln
  refine wpAny_Try_except ?_
  refine wpAny_mono ((hb (X.pn ++ pins) (fun e s₁ => wpAny (model X.prog X.w) X.A (noteFrame e X.env) (fun _ s₂ => wpAny (model X.prog X.w) X.A (setFlight e none) (fun _ s₃ =>
    wpAny (model X.prog X.w) X.A (handleBy e X.env [.ExceptHandler (some (.Name x np)) (some n) [.Assign [.Name m p1] (.Name n p2) p3] pos']) (SP X pins D) X.xe s₃) X.xe s₂) X.xe s₁) (fun u s' xx => ?_) PassesOwn.looking) [] s (I.toTry _)) (fun f s1 hsp => ?_) (fun e s1 he => he)
  · obtain ⟨a, B, sI, pins', σ', H', cls, d, rfl, J', nb, up, sky, na, os, ag, hd0, hb1, hyes⟩ := xx
    subst hd0
    have J : Inv X pins σ' H' sI := J'.ofTry ok
    have sky' : Sky B (X.env :: X.outer) a (Zc cls none) X.env.locals s'.heap := by rw [← hs]; exact sky
    show wpAny (model X.prog X.w) X.A (noteFrame (.ref a) X.env) _ _ _
    refine Sky.land Zc.steady hfr hf sky' fun h3 fl3 up3 => ?_
    have J3 : Inv X pins σ' H' { s' with heap := h3 } := J.landed nb fl3.1 (up.trans up3) os ag
    obtain ⟨oe3, vs3, he3, hz3, hd3⟩ := fl3.there
    have notFr : ∀ {h : Heap} {o : Obj} {vs : Array Value}, h.FunFrames B (X.env :: X.outer) → h.get? a = some o → o.data = .fields vs → a ∉ frs (X.env :: X.outer) := fun {h o vs} ff e dd hm => by
      obtain ⟨_, o', e', hnf⟩ := ff.mem hm
      rw [e] at e'; cases e'
      exact hnf _ dd
    have nfr := notFr fl3.2.2.1 he3 hd3
    have nL : a ≠ X.env.locals := fun z => nfr (List.mem_filterMap.mpr ⟨X.env, List.mem_cons_self, by rw [hf, z]⟩)
    have nF : a ∉ X.fs := fun hm => by
      obtain ⟨e, he, q⟩ := List.mem_filterMap.mp hm
      exact nfr (List.mem_filterMap.mpr ⟨e, List.mem_cons_of_mem _ he, q⟩)
    have nI : sI.heap.get? a = none := by
      cases e : sI.heap.get? a with
      | none => rfl
      | some o =>
        have q := nb a o e (by rw [hs]; exact nfr)
        rw [fl3.2.1] at q
        cases q
    have n0 : X.s_0.heap.get? a = none := by
      cases e : X.s_0.heap.get? a with
      | none => rfl
      | some o =>
        obtain ⟨o', q⟩ := J.base.there a o e (by rw [hex]; exact fun z => nomatch z)
        rw [nI] at q
        cases q
    have hp : ∀ p ∈ X.pn ++ pins, p.1 ≠ a := fun p q z => by
      have w := (J.pin p q).1
      rw [z, nI] at w
      cases w
    have S3 := J3.suite he3 hd3 na nL nF
    refine wpAny_handleBy_cons (codeAny_handlers_test ?_) (by intro q; cases q)
    have LT : PySem.W.Looks (model X.prog X.w) h3 (typeOf (.ref a)) cls := fun A Q E s k q => wpAny_typeOf_ref (k _ _ he3) (by rw [hz3.1]; exact q)
    have LM := PySem.W.exm_one (M := model X.prog X.w) (J3.kIn) LT hb1
    have test : ∀ {Q : Value → Shared → Prop} {E : Value → Shared → Prop}, Q c { s' with heap := h3 } → wpAny (model X.prog X.w) (X.A.mark (some (.ref a))) (eval (.Name x np) X.env) Q E { s' with heap := h3 } := fun {Q E} q => by
      obtain ⟨hg, hdbg, hm | ⟨hm, hv, hnn⟩⟩ := hc
      · exact ld_glob (X := X.suite a ((a, oe3) :: (X.pn ++ pins))) S3 hg hm q hdbg
      · exact ld_blt (X := X.suite a ((a, oe3) :: (X.pn ++ pins))) S3 hg hm hv q hnn hdbg
    refine test (LM.here ?_)
    refine codeAny_handlers_suite_as ?_
    refine HandSPX.lands_againZ fl3 fun h4 fl4 up4 => ?_
    have J4 : Inv X pins σ' H' { s' with heap := h4 } := J.landed nb fl4.1 ((up.trans up3).trans up4) os ag
    obtain ⟨oe4, vs4, he4, hz4, hd4⟩ := fl4.there
    have S4 := J4.suite he4 hd4 na nL nF
    refine store_ok (X := X.suite a ((a, oe4) :: (X.pn ++ pins))) (v := .ref a) S4 hN hi hloc rfl (fun s5 S5 => ?_) (.inr hln)
    have hlen : i < σ'.length := by
      rw [J.len]
      exact (List.getElem?_eq_some_iff.mp hi).1
    have run : wpB (X.suite a ((a, oe4) :: (X.pn ++ pins))) [.Assign [.Name m p1] (.Name n p2) p3] { nx := fun σ6 H6 => σ6 = (σ'.set i (some (.ref a))).set j (some (.ref a)) ∧ H6 = H', rt := fun _ _ => False } (σ'.set i (some (.ref a))) H' :=
      wb_one (ws_set (X := X.suite a ((a, oe4) :: (X.pn ++ pins))) hN (wp_var (X := X.suite a ((a, oe4) :: (X.pn ++ pins))) (i := i) (by rw [List.getElem?_set_self hlen]) ⟨rfl, rfl⟩ hi hvn hd1 hd2) hj hlm (hsw _) hfm)
    refine wpAny_mono (run [] s5 S5) (fun f s6 hsp => ?_) (fun _ _ z => False.elim z)
    cases f with
    | next =>
      obtain ⟨σ6, H6, S6, rfl, rfl⟩ := hsp
      have K6 : Inv X ((a, oe4) :: pins) _ H6 s6 := ⟨ok, S6.os, S6.bare, S6.base, S6.loc, S6.cell, S6.free, S6.freeC, fun p q => S6.pin p (by
        refine List.mem_append.mpr (.inl ?_)
        rcases List.mem_append.mp q with q | q
        · exact List.mem_cons_of_mem _ (List.mem_append.mpr (.inl q))
        · rcases List.mem_cons.mp q with q | q
          · rw [q]
            exact List.mem_cons_self
          · exact List.mem_cons_of_mem _ (List.mem_append.mpr (.inr q))), S6.hok, S6.len⟩
      exact gone_ok K6 hN hi hln fun s7 J7 => ⟨_, _, Inv.track J7 n0 hp hz4 ⟨_, hd4⟩, hyes a na⟩
    | brk =>
      obtain ⟨_, _, _, z⟩ := hsp
      exact z.elim
    | cont =>
      obtain ⟨_, _, _, z⟩ := hsp
      exact z.elim
    | ret u =>
      obtain ⟨_, _, _, _, _, z⟩ := hsp
      exact z.elim
  · cases f with
    | next =>
      obtain ⟨σ', H', J', q⟩ := hsp
      exact wpAny_execs_nil ⟨σ', H', J'.ofTry ok, q⟩
    | brk =>
      obtain ⟨σ', H', J', q⟩ := hsp
      exact ⟨σ', H', J'.ofTry ok, q⟩
    | cont =>
      obtain ⟨σ', H', J', q⟩ := hsp
      exact ⟨σ', H', J'.ofTry ok, q⟩
    | ret u =>
      obtain ⟨v, σ', H', J', r, q⟩ := hsp
      exact ⟨v, σ', H', J'.ofTry ok, r, q⟩
end
/-! ### the law's end -/
section
variable {P : Program} {w : World} {K : PySem.W.Frag} {mg mb : Str → Option Value} {CX : CXT} {k : Nat} {fa a : Addr} {fd : FuncData} {x : Str} {sp : Sp} {s₁ : Shared} {vs : List Value} {ns : List Int}
theorem law_callM (KX : K.In s₁.heap) (hns : s₁.heap.Ns mainGlobals mg) (hb : s₁.heap.Ns builtinsNs mb) (hbb : ∀ x : Str, x ≠ "__name__" → mb x = bootBuiltins x) (hlim : s₁.heap.NoLimit) (hmod : ∃ mm, s₁.heap.Ns sysModules mm) (hg : s₁.gens = #[])
    (ha : s₁.heap.get? a = some { cls := .type "list", data := .seq vs.toArray }) (hi : IntsAre vs ns) (hl : ns.length ≤ sizeLine) (hr : Room k callerA)
    (F : ∀ base : Heap, K.In base → base.Ns mainGlobals mg → Mods base → FnG P w K mg base CX k fa fd [x] sp) (hbind : ∀ (s : Shared) (u : Value), BindsTo s fd ⟨[u], []⟩ [(x, u)])
    (hsp : ∀ H : Hp, Only H → SqL K H a (ns.map V.int) → sp [.ref a] H (fun v _ => v = .bl true) fun _ _ _ => False)
    (hCX : ∀ H e s', CX [] H s₁ (fun _ _ _ => False) e s' → False) :
    codeAny (model P w) callerA (.call (.ref fa) ⟨[.ref a], []⟩) (fun r s' => r = .ok (.ret (.bool true)) ∧ OldK s₁.heap s'.heap ∧ s'.os = s₁.os ∧ AllBare s'.gens) s₁ := by
  have rv := vals_ints hi
  have sized := hi.length
  -- told for a heap that tracks the script at most
  suffices core : ∀ H : Hp, Only H → SqL K H a (ns.map V.int) → HOk P w H s₁.heap → (∀ b, H b ≠ none → b = a) → (H a ≠ none → K.lookup a = none) →
      codeAny (model P w) callerA (.call (.ref fa) ⟨[.ref a], []⟩) (fun r s' => r = .ok (.ret (.bool true)) ∧ OldK s₁.heap s'.heap ∧ s'.os = s₁.os ∧ AllBare s'.gens) s₁ by
    cases known : K.lookup a with
    | some o =>
      have same := KX a o known
      rw [ha] at same
      cases same
      exact core (fun _ => none) (fun _ => .inl rfl) (.inr ⟨_, vs.toArray, _, known, rfl, rfl, rfl, by rw [List.size_toArray, sized]; exact hl, by simpa using rv⟩) (fun _ _ z => nomatch z) (fun _ z => absurd rfl z) (fun z => absurd rfl z)
    | none =>
      let H0 : Hp := fun b => if b = a then some (.frz { cls := .type "list", data := .seq vs.toArray } (.lst (ns.map V.int))) else none
      have at_a : H0 a = some (.frz { cls := .type "list", data := .seq vs.toArray } (.lst (ns.map V.int))) := if_pos rfl
      have off : ∀ b, b ≠ a → H0 b = none := fun b hb => if_neg hb
      refine core H0 (fun b => ?_) (.inl (.inr ⟨_, at_a⟩)) (fun b u z => ?_) (fun b z => ?_) fun _ => known
      · by_cases c : b = a
        · rw [c]
          exact .inr ⟨_, _, at_a⟩
        · exact .inl (off b c)
      · by_cases c : b = a
        · rw [c, at_a] at z
          cases z
          rw [c]
          exact ⟨ha, by rw [List.length_map]; exact hl, vs, _, rv, ha⟩
        · rw [off b c] at z
          cases z
      · by_cases c : b = a
        · exact c
        · exact absurd (off b c) z
  intro H only hS hok hA hK
  have seen : ∀ {b : Addr} {o : Obj}, s₁.heap.get? b = some o → H b = none → (hidT s₁.heap H).get? b = some o := fun q n => hidT_get q n
  have untr : ∀ {b : Addr} {o : Obj} {es : Array DictEntry} {ep : Nat}, s₁.heap.get? b = some o → o.data = .dict es ep → H b = none := by
    intro b o es ep q d
    cases c : H b with
    | none => rfl
    | some u =>
      have same : b = a := hA b (by rw [c]; exact fun z => nomatch z)
      rw [same, ha] at q
      cases q
      cases (show Data.seq vs.toArray _ = Data.dict es ep from d)
  have spaces : ∀ {b : Addr} {m : Str → Option Value}, s₁.heap.Ns b m → (hidT s₁.heap H).Ns b m := by
    rintro b m ⟨o, es, ep, q, d, r⟩
    exact ⟨o, es, ep, seen q (untr q d), d, r⟩
  have KB : K.In (hidT s₁.heap H) := by
    intro b o q
    refine seen (KX b o q) ?_
    cases c : H b with
    | none => rfl
    | some u =>
      have same : b = a := hA b (by rw [c]; exact fun z => nomatch z)
      rw [same, hK (by rw [← same, c]; exact fun z => nomatch z)] at q
      cases q
  obtain ⟨mc, l1, l2⟩ := hlim
  have M : Mod K mg (hidT s₁.heap H) := ⟨KB, spaces hns, ⟨mb, spaces hb, hbb⟩, ⟨mc, spaces l1, l2⟩⟩
  have e0 : Env0 P w K mg (hidT s₁.heap H) callerA [] s₁ H := ⟨rfl, M, fun b o q => of_hidT q, Nat.le_of_eq (hidT_size _ _), trivial, fun b q => absurd (show b ∈ ([] : List Addr) from q) (by simp), hok, .of_eq hg⟩
  refine codeAny_mono ((F _ KB (spaces hns) (by obtain ⟨mm, q⟩ := hmod; obtain ⟨o, _, _, q2, _⟩ := spaces q; exact ⟨o, q2⟩)).run callerA [] s₁ H ⟨[.ref a], []⟩ [.ref a] [.ref a] _ _ rfl hr e0 (hbind s₁ (.ref a)) (.cons rfl .nil) (hsp H only hS)) ?_
  intro res s' told
  match res, told with
  | .error er, told => exact (hCX H er s' told).elim
  | .ok (.ret u), ⟨v, H', q1, q2, q3, q4, q5, q6⟩ =>
    cases (show v = .bl true from q6)
    cases (show u = Value.bool true from q5)
    refine ⟨rfl, OldK.of_keep fun b o q => ?_, q1, q2⟩
    cases c : H b with
    | none => exact q3.keep b o q c (by intro z; exact absurd (show b ∈ ([] : List Addr) from z) (by simp)) (by simp)
    | some u =>
      rcases only b with z | ⟨ob, xs, z⟩
      · rw [c] at z
        cases z
      · obtain ⟨w1, _⟩ := hok b _ z
        obtain ⟨w2, _⟩ := q4 b _ (q3.frzs b ob _ z)
        rw [q] at w1
        cases w1
        exact w2
end
theorem walkM {l : PySem.W.OpenLaw} {n k : Nat} {q : Program} {loose : List Str} {XP : (Str → Option Value) → Heap → Prop} {YP : World → Heap → Prop} {d : DefRec} {K : Params → PySem.W.Frag} {CX : World → CXT} {sp : World → Sp} {x : Str}
    (hi0 : importsNone q = true) (hn : l.most = some n) (hn2 : n ≤ sizeLine) (hdf : d.params.defaults = []) (hr : Room k callerA)
    (hY : ∀ (w : World) (h : Heap), YP w h → (K w.params).In h)
    (F : ∀ (w : World) (mg : Str → Option Value) (fa : Addr) (h : Heap), (K w.params).In h → h.Ns mainGlobals mg → mg d.name = some (.ref fa) →
      ∃ fd : FuncData, (∀ (s : Shared) (u : Value), BindsTo s fd ⟨[u], []⟩ [(x, u)]) ∧
        ∀ base : Heap, (K w.params).In base → base.Ns mainGlobals mg → Mods base → FnG l.prog w (K w.params) mg base (CX w) k fa fd [x] (sp w))
    (hsp : ∀ (w : World) (H : Hp) (a : Addr) (ns : List Int), ns.length ≤ n → (∀ z ∈ ns, Builtin.Int.intBits z ≤ 1048576) → Only H → SqL (K w.params) H a (ns.map V.int) → sp w [.ref a] H (fun v _ => v = .bl true) fun _ _ _ => False)
    (hCX : ∀ (w : World) (H : Hp) (s : Shared) (e : Value) (s' : Shared), CX w [] H s (fun _ _ _ => False) e s' → False) :
    PySem.W.WalkO q loose XP YP l.row.toRowW d [] (fun f vs => PySem.call f vs) := by
  refine Att.attach_callB hn hdf fun w s₀ s₁ mg mb fa o pm cd doc a vs ns G Y ho hd hcd hmg hobj hints hlen hbits hg => ?_
  obtain ⟨fd, hb, hF⟩ := F w mg fa _ (hY w _ Y) G.T.g hmg
  exact law_callM (hY w _ Y) G.T.g G.T.b G.T.builtins G.T.nolimit (let ⟨mm, q, _⟩ := (G.T.seer hi0).mods; ⟨mm, q⟩) hg hobj hints (Nat.le_trans hlen hn2) hr hF hb (fun H h1 h2 => hsp w H a ns hlen hbits h1 h2) fun H e s' => hCX w H s₁ e s'
end PX

/-! PXy: loops over what a call gives; data of any kind narrowed. -/
namespace PX
open PySem L2
section
variable {X : Cx} {σ : L2.St} {H G : Hp} {ι S ρ : Type} {a tg : Expr} {sts : List Stmt} {pos p : Pos} {D : Ends} {i j : Nat}
theorem ev_asInt {x : PyData} {n : Int} (h : asInt x = some n) (ha : EvX X a σ H G x) : EvX X a σ H G n := ha.to fun _ _ r => asInt_rel (K := X.K) h r
theorem ev_asLst {x : PyData} {l : List PyData} (h : asLst x = some l) (ha : EvX X a σ H G x) : EvX X a σ H G l := ha.to fun _ _ r => asLst_rel (K := X.K) h r
theorem ev_asInts {x : PyData} {l : List Int} (h : asInts x = some l) (ha : EvX X a σ H G x) : EvX X a σ H G l := ha.to fun _ _ r => asInts_rel (K := X.K) h r
theorem wi_listE {α : Type} [Rep α] {Rk : It → Hp → Prop} (ha : wpE X a σ H fun v H1 => ∃ (xs : List α) (G1 : Hp), Rep.rel X.K G1 v xs ∧ Ex G1 H1 ∧ ∀ J, IsWalk (gName j) J G1 xs (rOne X.K j) → Rk J H1) : wpI X tg a σ H Rk :=
  toI (pi_list pe_wp) (show wpE X a σ H _ from wpE_post (wpE_mono (fun v H2 ⟨xs, G2, ⟨d, vs, q1, q2, q3⟩, g2, k⟩ hl => ⟨d, q1, ⟨vs, .inl (.inl (g2 _ _ q2))⟩, k _ ⟨fun i x H' G' hx e1 e2 => by
    obtain ⟨v', k1, k2⟩ := Paired.get q3 hx
    have sq : SqL X.K H' d vs := .inl (.inl (e2 _ _ (e1 _ _ q2)))
    refine ⟨⟨vs, v', sq, k1⟩, fun w H'' ⟨eH, y⟩ σ' Q kk => ?_⟩
    subst eH
    have ew : w = v' := Option.some.inj ((y vs sq).symm.trans k1)
    subst ew
    exact kk (fun σ => σ.set j (some w)) G' (Rc.refl e2) ⟨w, Rep.mono e1 k2, rfl⟩, fun H' G' e1 e2 => ⟨vs, .inl (.inl (e2 _ _ (e1 _ _ q2))), by rw [Paired.len q3]; exact Nat.le_refl _⟩, by rw [← Paired.len q3]; exact hl _ _ (g2 _ _ q2), rOne_mono⟩⟩) ha))
theorem ws_forE (α S ρ : Type) [Rep α] (hp : PassesOwn (model X.prog X.w) X.A X.env X.xe) (hc : X.calm = true) (hg : PG X tg (gName j))
    (h : wpE X a σ H fun v H1 => ∃ (items : List α) (body : α → S → Option (Ctl ρ S)) (s0 : S) (cc : Ctl ρ S) (G : Hp) (I : Hp → S → L2.St → Hp → Hp → Prop) (RT : ρ → V → Hp → Prop), Rep.rel X.K G v items ∧ Ex G H1 ∧ forL body items s0 = some cc ∧
      (∀ H2 G2, Rc [] H1 G H2 G2 → I G2 s0 σ H2 G2) ∧ (∀ Gs s σ H G, I Gs s σ H G → Ex Gs G ∧ Ex G H) ∧
      (∀ Gs s σ1 H1 G1 x c' u H2 G2, body x s = some c' → I Gs s σ1 H1 G1 → Rc [] H1 G1 H2 G2 → rOne X.K j x G2 u →
        wpB X sts { nx := fun σ H => ∃ s' G, c' = .nx s' ∧ I Gs s' σ H G, rt := fun v H => ∃ r, c' = .rt r ∧ RT r v H, bk := fun σ H => ∃ s' G, c' = .bk s' ∧ I Gs s' σ H G, ct := fun σ H => ∃ s' G, c' = .nx s' ∧ I Gs s' σ H G } (u σ1) H2) ∧
      (∀ Gs s σ1 H1 G1, cc = .nx s → I Gs s σ1 H1 G1 → D.nx σ1 H1) ∧ (∀ r v H1, cc = .rt r → RT r v H1 → D.rt v H1))
    (hs : ∀ x, foldedSetIterable a X.env x = pure x := by intro _; rfl) : wpS X (.For tg a sts [] pos) D σ H := by
  refine toS (ps_for hp hc pi_wp hg pss_wp hs) (wi_listE (α := α) (j := j) (wpE_mono (fun v H1 ⟨items, body, s0, cc, G, I, RT, hv, g0, h, h0, hx, hb, hd, hr⟩ => ⟨items, G, hv, g0, fun J W => ?_⟩) h))
  refine ⟨fun i m σ' H' => m = items.length - i ∧ i ≤ items.length ∧ ∃ s G', I G s σ' H' G' ∧ forL body (items.drop i) s = some cc, ⟨items.length, by omega, Nat.zero_le _, s0, G, h0 H1 G (Rc.refl g0), h⟩, ?_⟩
  rintro i m σ' H' ⟨rfl, hle, s, G', hI, hf⟩
  obtain ⟨e1, e2⟩ := hx _ _ _ _ _ hI
  by_cases hlt : i < items.length
  · refine .inr ?_
    have hxi : items[i]? = some items[i] := List.getElem?_eq_getElem hlt
    obtain ⟨go, step⟩ := W.go i items[i] H' G' hxi e1 e2
    rw [List.drop_eq_getElem_cons hlt] at hf
    obtain ⟨c', hc', hf⟩ := bind_some hf
    refine ⟨go, fun σ'' H'' => ∃ s G', I G s σ'' H'' G' ∧ forL body (items.drop (i + 1)) s = some cc, fun σ'' H'' ⟨s, G', k1, k2⟩ => ⟨items.length - (i + 1), by omega, rfl, hlt, s, G', k1, k2⟩, fun v H'' y => ?_⟩
    refine step v H'' y _ _ fun uu G'' s3 r3 => ?_
    refine wpB_imp (hb G s σ' H' G' items[i] c' uu H'' G'' hc' hI s3 r3) ?_ ?_ ?_ ?_
    · rintro σ1 H1 ⟨s', G1, ec, k⟩
      subst ec
      exact ⟨s', G1, k, hf⟩
    · rintro v H1 ⟨r, ec, k⟩
      subst ec
      exact hr r v H1 (Option.some.inj hf).symm k
    · rintro σ1 H1 ⟨s', G1, ec, k⟩
      subst ec
      exact hd G s' σ1 H1 G1 (Option.some.inj hf).symm k
    · rintro σ1 H1 ⟨s', G1, ec, k⟩
      subst ec
      exact ⟨s', G1, k, hf⟩
  · have ei : i = items.length := by omega
    subst ei
    rw [List.drop_length] at hf
    exact .inl ⟨W.stop H' G' e1 e2, hd G s σ' H' G' (Option.some.inj hf).symm hI⟩
/-! ### lists of texts, equal -/
def eqsO (xs ys : List Str) : Option Bool := if xs.all PyData.strOk = true ∧ ys.all PyData.strOk = true then some (decide (xs = ys)) else none
theorem op_eqsL {X : Cx} {H G : Hp} {xs ys : List Str} {t : Bool} (h : eqsO xs ys = some t) : Opv X.K (fun v w H Q => rEq v w H Q ∨ rEqD X.K v w H Q) H G xs ys t := fun v w H1 G1 s ⟨d, vs, e1, e2, e3⟩ ⟨d2, ws, f1, f2, f3⟩ Q k => by
  obtain ⟨⟨h1, h2⟩, h3⟩ := dite_some h
  subst e1
  subst f1
  refine .inr ⟨.list (xs.map PyData.str), .list (ys.map PyData.str), .lst (.inl (.inl (s.sub _ _ e2))) (strs_dp (Rels.mono s.sub e3)), .lst (.inl (.inl (s.sub _ _ f2))) (strs_dp (Rels.mono s.sub f3)), strs_shaped h1, strs_shaped h2, k _ H1 G1 (Rc.refl s.sub) ?_⟩
  subst h3
  refine congrArg V.bl ?_
  simp only [PyData.eqv]
  exact strs_eqv xs ys
theorem ev_eqsL {b : Expr} {xs ys : List Str} {t : Bool} (hu : X.A.units + 64 < cLine) (h : eqsO xs ys = some t) (ha : EvX X a σ H G xs) (hb : EvX X b σ H G ys) (hm : behindInMarks .Eq b = false := by rfl) : EvX X (.Compare a [.Eq] [b] pos) σ H G t := ev_cmp (op_eqS hu) hm ha hb (op_eqsL h)
theorem et_eqsL {b : Expr} {xs ys : List Str} {t : Bool} (hu : X.A.units + 64 < cLine) (h : eqsO xs ys = some t) (ha : EvX X a σ H G xs) (hb : EvX X b σ H G ys) (hm : behindInMarks .Eq b = false := by rfl) : EvT X (.Compare a [.Eq] [b] pos) σ H G t := et_cmp (op_eqS hu) hm ha hb (op_eqsL h)
theorem dead_ev {y : Str} (h : (deadO : Option Str) = some y) : EvX X a σ H G y := nomatch (show none = some y from h)
/-! ### displays of many items -/
theorem wpE_lst {es : List Expr} {Q : VK} (h : ∀ e, Expr.List es p = e → wpE X e σ H Q) : wpE X (.List es p) σ H Q := h _ rfl
theorem ws_forL {es : List Expr} (h : ∀ e, Expr.List es p = e → wpS X (.For tg e sts [] pos) D σ H) : wpS X (.For tg (.List es p) sts [] pos) D σ H := h _ rfl
/-! ### the clause's class -/
theorem xf_P {K : PySem.W.Frag} {mg : Str → Option Value} (xf : ExF K mg) : ∃ P, mg "PeakError" = some (.ref P) := by
  obtain ⟨C, x⟩ := xf "InvalidRow" (by decide +kernel)
  obtain ⟨P, h, _⟩ := x.p
  exact ⟨P, h⟩
theorem xf_exm {K : PySem.W.Frag} {mg : Str → Option Value} {n : Str} {P C : Addr} (xf : ExF K mg) (hP : mg "PeakError" = some (.ref P)) (hn : n ∈ RN) (hC : mg n = some (.ref C)) : PySem.W.exmOne K (.ref C) (.ref P) = some true := by
  obtain ⟨C', x⟩ := xf n hn
  have e := x.g.symm.trans hC
  cases e
  obtain ⟨P', h, q⟩ := x.p
  have e := h.symm.trans hP
  cases e
  exact q
theorem xf_ns {K : PySem.W.Frag} {mg : Str → Option Value} {n : Str} {C : Addr} (xf : ExF K mg) (hn : n ∈ RN) (hC : mg n = some (.ref C)) : PySem.W.nsIn K mainGlobals n = some (some (.ref C)) := by
  obtain ⟨C', x⟩ := xf n hn
  have e := x.g.symm.trans hC
  cases e
  exact x.ns
theorem xf_st {K : PySem.W.Frag} {mg : Str → Option Value} {n : Str} {C : Addr} (xf : ExF K mg) (hn : n ∈ RN) (hC : mg n = some (.ref C)) : PySem.W.subIn K (.ref C) (.type "StopIteration") = some false := by
  obtain ⟨C', x⟩ := xf n hn
  have e := x.g.symm.trans hC
  cases e
  exact x.st
theorem resB_ok {α β : Type} {b : α} {k : α → Option (Res β)} {r : Res β} (h : resB (.ok b) k = some r) : k b = some r := h
theorem resT_ok {α : Type} {b : α} {k : α → Option (Option Exc)} {r : Option Exc} (h : resT (.ok b) k = some r) : k b = some r := h
end
end PX

/-! PYk: tuples of ints as keys; a dict of lists, each grown in its place. -/
namespace PX
open PySem L2
/-! ### tuples of ints -/
structure TupI where
  l : List Int
instance : Rep TupI where
  rel := fun K G v x => ∃ t, v = .ref t ∧ G t = some (.tup (x.l.map V.int))
  mono := fun e ⟨t, h1, h2⟩ => ⟨t, h1, e _ _ h2⟩
section
variable {X : Cx} {σ : L2.St} {H G : Hp} {a b : Expr} {p pos : Pos}
theorem ev_tupI {l : List Int} (hm : X.mg "tuple" = none) (ha : EvX X a σ H G l) (hg : Gl X "tuple" := by rfl) (he : starEach [a] X.env = (false, eval a X.env) :: starEach [] X.env := by rfl) : EvX X (.Call (.Name "tuple" p) [a] [] pos) σ H G (TupI.mk l) :=
  (ev_tupleE hm ha hg he).to fun _ _ ⟨d, h1, h2⟩ => ⟨d, h1, h2⟩
theorem ev_listT {l : TupI} (hm : X.mg "list" = none) (ha : EvX X a σ H G l) (hg : Gl X "list" := by rfl) (he : starEach [a] X.env = (false, eval a X.env) :: starEach [] X.env := by rfl) : EvN X (.Call (.Name "list" p) [a] [] pos) σ H G l.l :=
  ev_tyN call_list_of hm (by decide +kernel) (ea_cons ha ea_nil he) (fun vs H1 G1 s r Q k => by
    obtain ⟨v, rfl, t, q1, q2⟩ := args1 r
    exact ⟨t, _, by rw [q1], .inr (.inl (.inl (s.sub _ _ q2))), fun l nl => k l _ G1 (Rc.new s.sub nl) nl (Own.mk s.sub nl (rels_of_int _))⟩) hg (by decide) (by decide) he
end
/-! ### the keys -/
abbrev Lot := List (List Int × List (List Int))
def kk (l : List Int) : List Key := l.map Sum.inl
theorem kk_V (l : List Int) : (kk l).map kV = l.map V.int := by
  unfold kk
  rw [List.map_map]
  rfl
theorem kk_inj : ∀ {l l' : List Int}, kk l = kk l' → l = l'
  | [], [], _ => rfl
  | [], _ :: _, h => by cases h
  | _ :: _, [], h => by cases h
  | x :: l, y :: l', h => by
    unfold kk at h
    rw [List.map_cons, List.map_cons] at h
    have h1 := List.cons.inj h
    rw [Sum.inl.inj h1.1, kk_inj h1.2]
theorem int_inj : ∀ {l l' : List Int}, l.map V.int = l'.map V.int → l = l'
  | [], [], _ => rfl
  | [], _ :: _, h => by cases h
  | _ :: _, [], h => by cases h
  | x :: l, y :: l', h => by
    rw [List.map_cons, List.map_cons] at h
    have h1 := List.cons.inj h
    rw [V.int.inj h1.1, int_inj h1.2]
theorem kk_of {k : List Key} {l : List Int} (h : k.map kV = l.map V.int) : k = kk l := by
  induction k generalizing l with
  | nil =>
    cases l with
    | nil => rfl
    | cons x l => cases h
  | cons a k ih =>
    cases l with
    | nil => cases h
    | cons x l =>
      rw [List.map_cons, List.map_cons] at h
      have h1 := List.cons.inj h
      cases a with
      | inl i =>
        have : i = x := V.int.inj h1.1
        rw [this, ih h1.2]
        rfl
      | inr z => cases h1.1
/-! ### a dict that stands for good -/
structure Lots where
  m : Lot
def LotOf (K : PySem.W.Frag) (G : Hp) (p : List Key × V) (q : List Int × List (List Int)) : Prop := p.1 = kk q.1 ∧ Rep.rel K G p.2 q.2
instance : Rep Lots where
  rel := fun K G v x => ∃ d o kvs, v = .ref d ∧ G d = some (.frz o (.dT kvs)) ∧ Paired (LotOf K G) kvs x.m
  mono := fun e ⟨d, o, kvs, h1, h2, h3⟩ => ⟨d, o, kvs, h1, e _ _ h2, Paired.imp (fun _ _ ⟨q1, q2⟩ => ⟨q1, Rep.mono e q2⟩) h3⟩
def lotO (x : Lots) (k : TupI) : Option (List (List Int)) := (x.m.find? fun q => decide (q.1 = k.l)).map (·.2)
theorem lot_val {K : PySem.W.Frag} {G : Hp} {ks : List Int} {r : List (List Int)} : ∀ {kvs : List (List Key × V)} {m : Lot}, Paired (LotOf K G) kvs m → (m.find? fun q => decide (q.1 = ks)).map (·.2) = some r → ∃ v, valV kvs (kk ks) = some v ∧ Rep.rel K G v r
  | _, _, .nil, h => by cases h
  | p :: kvs, q :: m, .cons ⟨h1, h2⟩ t, h => by
    by_cases c : q.1 = ks
    · rw [List.find?_cons, decide_eq_true c] at h
      cases h
      exact ⟨p.2, valV_pos (by rw [h1, c]), h2⟩
    · rw [List.find?_cons, decide_eq_false c] at h
      obtain ⟨v, e1, e2⟩ := lot_val t h
      exact ⟨v, by rw [valV_neg (fun z => c (kk_inj (h1.symm.trans z)))]; exact e1, e2⟩
section
variable {X : Cx} {σ : L2.St} {H G : Hp} {a b tg : Expr} {p pos : Pos}
/-- lots[some] -/
theorem ev_lotsIx {x : Lots} {k : TupI} {r : List (List Int)} (hu : X.A.units + 1 < cLine) (h : lotO x k = some r) (ha : EvX X a σ H G x) (hb : EvX X b σ H G k) (hs : NoSl b) : EvX X (.Subscript a b pos) σ H G r := fun H1 G1 s Q q =>
  toE (pe_dget hu pe_wp pe_wp hs) (show wpE X a σ H1 _ from ha H1 G1 s _ fun v H2 G2 s2 r2 => hb H2 G2 (s.trans s2) _ fun w H3 G3 s3 r3 => by
    obtain ⟨d, o, kvs, q1, q2, q3⟩ := Rep.mono s3.ex r2
    obtain ⟨t, t1, t2⟩ := r3
    obtain ⟨u, u1, u2⟩ := lot_val q3 h
    subst t1
    exact ⟨d, u, q1, .inr ⟨kvs, kk k.l, t, .inr ⟨o, s3.sub _ _ q2⟩, rfl, by rw [kk_V]; exact s3.sub _ _ t2, u1.symm⟩, q u H3 G3 (s2.trans s3) u2⟩)
/-- for some in lots -/
theorem ei_lots {x : Lots} {j : Nat} (hz : x.m.length ≤ sizeLine) (ha : EvX X a σ H G x) : EvI X tg a (gName j) σ H G (x.m.map fun q => TupI.mk q.1) (rOne X.K j) := fun H1 G1 s Rk q =>
  toI (pi_keys pe_wp) (show wpE X a σ H1 _ from ha H1 G1 s _ fun v H2 G2 s2 ⟨d, o, kvs, q1, q2, q3⟩ => ⟨d, o, q1, .inr ⟨kvs, s2.sub _ _ q2, q _ H2 G2 s2 ⟨fun i y H' G' hy e1 e2 => by
    have fz : H' d = some (.frz o (.dT kvs)) := e2 _ _ (e1 _ _ q2)
    rw [List.getElem?_map] at hy
    obtain ⟨qq, hq, rfl⟩ := Option.map_eq_some_iff.mp hy
    obtain ⟨pp, k1, k2, k3⟩ := Paired.get q3 hq
    refine ⟨⟨fz, (List.getElem?_eq_some_iff.mp k1).1⟩, fun w H'' ⟨eH, kx, vx, t, g1, g2, g3⟩ σ' Q kq => ?_⟩
    subst eH
    subst g2
    rw [k1] at g1
    have e3 : pp.1 = kx := congrArg Prod.fst (Option.some.inj g1)
    rw [← e3, k2, kk_V] at g3
    exact kq (fun σ => σ.set j (some (.ref t))) _ ((Rc.refl e2).adopt g3) ⟨.ref t, ⟨t, rfl, upd_same⟩, rfl⟩, fun H' G' e1 e2 => ⟨e2 _ _ (e1 _ _ q2), by rw [Paired.len q3, List.length_map]; exact Nat.le_refl _⟩, by rw [List.length_map]; exact hz, rOne_mono⟩⟩⟩)
end
/-! ### a dict that grows -/
def addLot : Lot → List Int → List Int → Lot
  | [], k, r => [(k, [r])]
  | (q, rs) :: m, k, r => if q = k then (q, rs ++ [r]) :: m else (q, rs) :: addLot m k r
def kvsOf (as : List Addr) (m : Lot) : List (List Key × V) := List.zipWith (fun a q => (kk q.1, V.ref a)) as m
def LR (K : PySem.W.Frag) (H0 H G : Hp) (a : Addr) (q : List Int × List (List Int)) : Prop := ∃ vs, H a = some (.lst vs) ∧ G a = none ∧ H0 a = none ∧ Rels K G vs q.2
theorem addLot_miss {k r : List Int} : ∀ {m : Lot}, k ∉ m.map (·.1) → addLot m k r = m ++ [(k, [r])]
  | [], _ => rfl
  | (q, rs) :: m, h => by
    rw [List.map_cons, List.mem_cons] at h
    have h1 : ¬ q = k := fun z => h (.inl z.symm)
    unfold addLot
    rw [if_neg h1, addLot_miss fun z => h (.inr z)]
    rfl
theorem addLot_keys {k r : List Int} : ∀ {m : Lot}, k ∈ m.map (·.1) → (addLot m k r).map (·.1) = m.map (·.1)
  | [], h => by cases h
  | (q, rs) :: m, h => by
    unfold addLot
    by_cases c : q = k
    · rw [if_pos c]
      rfl
    · rw [if_neg c, List.map_cons, List.map_cons]
      rw [List.map_cons, List.mem_cons] at h
      rw [addLot_keys (h.resolve_left fun z => c z.symm)]
theorem addLot_nodup {k r : List Int} {m : Lot} (h : (m.map (·.1)).Nodup) : ((addLot m k r).map (·.1)).Nodup := by
  by_cases c : k ∈ m.map (·.1)
  · rw [addLot_keys c]
    exact h
  · rw [addLot_miss c, List.map_append]
    refine List.nodup_append.mpr ⟨h, by simp, fun a ha b hb => ?_⟩
    rw [List.map_cons, List.map_nil, List.mem_singleton] at hb
    rw [hb]
    intro z
    rw [z] at ha
    exact c ha
theorem kvs_miss {k : List Int} : ∀ {as : List Addr} {m : Lot}, k ∉ m.map (·.1) → valV (kvsOf as m) (kk k) = none
  | [], m, _ => by
    unfold kvsOf
    rw [List.zipWith_nil_left]
    rfl
  | _ :: _, [], _ => rfl
  | a :: as, q :: m, h => by
    rw [List.map_cons, List.mem_cons] at h
    show valV ((kk q.1, V.ref a) :: kvsOf as m) (kk k) = none
    rw [valV_neg (fun z => h (.inl (kk_inj z).symm))]
    exact kvs_miss fun z => h (.inr z)
theorem put_none {k : List Key} {v : V} : ∀ {kvs : List (List Key × V)}, valV kvs k = none → kvs.map (fun kv => if kv.1 = k then (kv.1, v) else kv) = kvs
  | [], _ => rfl
  | p :: r, h => by
    by_cases c : p.1 = k
    · rw [valV_pos c] at h
      cases h
    · rw [valV_neg c] at h
      rw [List.map_cons, if_neg c, put_none h]
theorem LR.upd {K : PySem.W.Frag} {H0 H G : Hp} {a b : Addr} {o : HO} {q : List Int × List (List Int)} (h : LR K H0 H G a q) (n : a ≠ b) : LR K H0 (upd H b o) G a q := by
  obtain ⟨vs, h1, h2⟩ := h
  exact ⟨vs, by rw [upd_ne n]; exact h1, h2⟩
theorem LRs.upd {K : PySem.W.Frag} {H0 H G : Hp} {b : Addr} {o : HO} : ∀ {as : List Addr} {m : Lot}, Paired (LR K H0 H G) as m → b ∉ as → Paired (LR K H0 (L2.upd H b o) G) as m
  | _, _, .nil, _ => .nil
  | _, _, .cons x t, n => .cons (x.upd fun z => n (by rw [z]; exact List.mem_cons_self)) (LRs.upd t fun z => n (List.mem_cons_of_mem _ z))
theorem lot_hit {K : PySem.W.Frag} {H0 H G : Hp} {k : List Int} : ∀ {as : List Addr} {m : Lot}, Paired (LR K H0 H G) as m → as.Nodup → (m.map (·.1)).Nodup → k ∈ m.map (·.1) →
    ∃ a vs rs, a ∈ as ∧ valV (kvsOf as m) (kk k) = some (.ref a) ∧ H a = some (.lst vs) ∧ G a = none ∧ H0 a = none ∧ Rels K G vs rs ∧ (∃ q ∈ m, q.2 = rs) ∧ putK (kvsOf as m) (kk k) (.ref a) = kvsOf as m ∧
      ∀ w r, Rep.rel K G w r → Paired (LR K H0 (upd H a (.lst (vs ++ [w]))) G) as (addLot m k r) ∧ kvsOf as (addLot m k r) = kvsOf as m
  | [], [], .nil, _, _, h => by cases h
  | a :: as, q :: m, .cons x t, n1, n2, h => by
    obtain ⟨n1a, n1b⟩ := List.nodup_cons.mp n1
    rw [List.map_cons] at n2 h
    obtain ⟨n2a, n2b⟩ := List.nodup_cons.mp n2
    have hk : kvsOf (a :: as) (q :: m) = (kk q.1, V.ref a) :: kvsOf as m := rfl
    by_cases c : q.1 = k
    · obtain ⟨vs, h1, h2, h3, h4⟩ := x
      refine ⟨a, vs, q.2, List.mem_cons_self, by rw [hk]; exact valV_pos (by rw [c]), h1, h2, h3, h4, ⟨q, List.mem_cons_self, rfl⟩, ?_, fun w r hw => ?_⟩
      · rw [hk]
        unfold putK
        rw [valV_any, valV_pos (by rw [c]), Option.isSome_some, if_pos rfl, List.map_cons, if_pos (by rw [c]), put_none (kvs_miss (by rw [← c]; exact n2a))]
      · have e : addLot (q :: m) k r = (q.1, q.2 ++ [r]) :: m := by
          show (if q.1 = k then _ else _) = _
          rw [if_pos c]
        rw [e]
        exact ⟨.cons ⟨_, upd_same, h2, h3, Paired.append h4 (.cons hw .nil)⟩ (LRs.upd t n1a), rfl⟩
    · have h' := (List.mem_cons.mp h).resolve_left fun z => c z.symm
      obtain ⟨b, vs, rs, i1, i2, i3, i4, i5, i6, ⟨q', i7, i8⟩, i9, i10⟩ := lot_hit t n1b n2b h'
      have nab : a ≠ b := fun z => n1a (z ▸ i1)
      have nk : ¬ kk q.1 = kk k := fun z => c (kk_inj z)
      refine ⟨b, vs, rs, List.mem_cons_of_mem _ i1, by rw [hk, valV_neg nk]; exact i2, i3, i4, i5, i6, ⟨q', List.mem_cons_of_mem _ i7, i8⟩, ?_, fun w r hw => ?_⟩
      · rw [hk]
        unfold putK at i9 ⊢
        rw [valV_any, i2, Option.isSome_some, if_pos rfl] at i9
        rw [valV_any, valV_neg nk, i2, Option.isSome_some, if_pos rfl, List.map_cons, if_neg nk, i9]
      · have e : addLot (q :: m) k r = q :: addLot m k r := by
          show (if q.1 = k then _ else _) = _
          rw [if_neg c]
        obtain ⟨j1, j2⟩ := i10 w r hw
        rw [e]
        exact ⟨.cons (x.upd nab) j1, by rw [show kvsOf (a :: as) (q :: addLot m k r) = (kk q.1, V.ref a) :: kvsOf as (addLot m k r) from rfl, j2, hk]⟩
theorem kvs_snoc {k : List Int} {r : List (List Int)} {p : Addr} : ∀ {as : List Addr} {m : Lot}, as.length = m.length → kvsOf (as ++ [p]) (m ++ [(k, r)]) = kvsOf as m ++ [(kk k, V.ref p)]
  | [], [], _ => rfl
  | [], _ :: _, h => by cases h
  | _ :: _, [], h => by cases h
  | a :: as, q :: m, h => by
    show _ :: kvsOf (as ++ [p]) (m ++ [(k, r)]) = _ :: (kvsOf as m ++ _)
    rw [kvs_snoc (Nat.succ.inj h)]
/-- the dict at d that is ours, its lists too, all new since H0 -/
structure LotsAt (K : PySem.W.Frag) (H0 H G : Hp) (d : Addr) (m : Lot) : Prop where
  ex : ∃ as, H d = some (.dT (kvsOf as m)) ∧ as.Nodup ∧ d ∉ as ∧ Paired (LR K H0 H G) as m
  g : G d = none
  n : H0 d = none
  kn : (m.map (·.1)).Nodup
section
variable {K : PySem.W.Frag} {H0 G0 H G H1 G1 : Hp} {d : Addr} {m : Lot}
theorem LR.step0 {a : Addr} {q : List Int × List (List Int)} (h : LR K H0 H G a q) (S : Rc [] H G H1 G1) : LR K H0 H1 G1 a q := by
  obtain ⟨vs, h1, h2, h3, h4⟩ := h
  exact ⟨vs, S.exH _ _ h1, S.fr _ _ h1 (fun _ z => by cases z) h2, h3, Rels.mono S.ex h4⟩
theorem LotsAt.step0 (h : LotsAt K H0 H G d m) (S : Rc [] H G H1 G1) : LotsAt K H0 H1 G1 d m := by
  obtain ⟨⟨as, h1, h2, h3, h4⟩, g, n, kn⟩ := h
  exact ⟨⟨as, S.exH _ _ h1, h2, h3, Paired.imp (fun _ _ x => x.step0 S) h4⟩, S.fr _ _ h1 (fun _ z => by cases z) g, n, kn⟩
theorem LotsAt.new (g : Ex G H) (hd : H d = none) (h0 : H0 d = none) : LotsAt K H0 (upd H d (.dT [])) G d [] := ⟨⟨[], upd_same, List.nodup_nil, by simp, .nil⟩, none_back g hd, h0, List.nodup_nil⟩
theorem LotsAt.keys (h : LotsAt K H0 H G d m) : ∃ kvs, H d = some (.dT kvs) := by
  obtain ⟨⟨as, h1, _⟩, _⟩ := h
  exact ⟨_, h1⟩
theorem LotsAt.frz0 {p : Addr} {vs : List V} (h : LotsAt K H0 H G d []) (hp : H p = some (.lst vs)) : LotsAt K H0 H (upd G p (.lst vs)) d [] := by
  obtain ⟨⟨as, h1, h2, h3, h4⟩, g, n, kn⟩ := h
  cases h4
  have ne : d ≠ p := fun z => by
    rw [z, hp] at h1
    cases h1
  exact ⟨⟨[], h1, h2, h3, .nil⟩, by rw [upd_ne ne]; exact g, n, kn⟩
theorem LotsAt.step1 {p : Addr} {α : Type} [Rep α] {xs : List α} (h : LotsAt K H0 H G d []) (w : Own K H G p xs) (S : Rc [p] H G H1 G1) : LotsAt K H0 H1 G1 d [] := by
  obtain ⟨⟨as, h1, h2, h3, h4⟩, g, n, kn⟩ := h
  cases h4
  obtain ⟨vs, hp, _⟩ := w
  have ne : d ≠ p := fun z => by
    rw [z, hp] at h1
    cases h1
  exact ⟨⟨[], S.keep _ _ (fun z => ne (List.mem_singleton.mp z)) h1, h2, h3, .nil⟩, S.fr _ _ h1 (fun _ z => by cases z) g, n, kn⟩
theorem upd_id {H : Hp} {a : Addr} {o : HO} (h : H a = some o) : upd H a o = H := by
  funext b
  by_cases c : b = a
  · rw [c, upd_same, h]
  · rw [upd_ne c]
/-- some is there: its list grows -/
theorem LotsAt.hit {ms : List Addr} {k : List Int} (h : LotsAt K H0 H G d m) (R : Rc ms H0 G0 H G) (c : k ∈ m.map (·.1)) : ∃ kvs a vs, H d = some (.dT kvs) ∧ kvs.length = m.length ∧ valV kvs (kk k) = some (.ref a) ∧ H a = some (.lst vs) ∧ (∃ q ∈ m, q.2.length = vs.length) ∧
    ∀ w r, Rep.rel K G w r → upd H a (.lst (vs ++ [w])) d = some (.dT kvs) ∧ Rc ms H0 G0 (upd (upd H a (.lst (vs ++ [w]))) d (.dT (putK kvs (kk k) (.ref a)))) G ∧ LotsAt K H0 (upd (upd H a (.lst (vs ++ [w]))) d (.dT (putK kvs (kk k) (.ref a)))) G d (addLot m k r) := by
  obtain ⟨⟨as, h1, h2, h3, h4⟩, g, n, kn⟩ := h
  obtain ⟨a, vs, rs, i1, i2, i3, i4, i5, i6, ⟨q, i7, i8⟩, i9, i10⟩ := lot_hit h4 h2 kn c
  have nda : d ≠ a := fun z => h3 (by rw [z]; exact i1)
  refine ⟨_, a, vs, h1, ?_, i2, i3, ⟨q, i7, by rw [i8]; exact (Paired.len i6).symm⟩, fun w r hw => ?_⟩
  · unfold kvsOf
    rw [List.length_zipWith, Paired.len h4, Nat.min_self]
  obtain ⟨j1, j2⟩ := i10 w r hw
  have hd : upd H a (.lst (vs ++ [w])) d = some (.dT (kvsOf as m)) := by
    rw [upd_ne nda]
    exact h1
  rw [i9, upd_id hd]
  exact ⟨hd, R.write (.inl i5) i4, ⟨as, by rw [j2]; exact hd, h2, h3, j1⟩, g, n, addLot_nodup kn⟩
/-- some is not there: a new list is put -/
theorem LotsAt.miss {ms : List Addr} {k : List Int} {p : Addr} (h : LotsAt K H0 H G d m) (R : Rc ms H0 G0 H G) (c : k ∉ m.map (·.1)) (np : H p = none) (S : Rc [] H G H1 G1) (op : Own K H1 G1 p ([] : List (List Int))) : ∃ kvs, H1 d = some (.dT kvs) ∧ kvs.length = m.length ∧ valV kvs (kk k) = none ∧ H1 p = some (.lst []) ∧
    ∀ w r, Rep.rel K G1 w r → upd H1 p (.lst [w]) d = some (.dT kvs) ∧ Rc ms H0 G0 (upd (upd H1 p (.lst [w])) d (.dT (putK kvs (kk k) (.ref p)))) G1 ∧ LotsAt K H0 (upd (upd H1 p (.lst [w])) d (.dT (putK kvs (kk k) (.ref p)))) G1 d (addLot m k r) := by
  have h' := h.step0 S
  have R' := R.then S
  obtain ⟨⟨as, h1, h2, h3, h4⟩, g, n, kn⟩ := h
  have h1' := S.exH _ _ h1
  have h4' := Paired.imp (fun _ _ x => LR.step0 x S) h4
  have g' := S.fr _ _ h1 (fun _ z => by cases z) g
  have ndp : d ≠ p := fun z => by
    rw [← z, h1] at np
    cases np
  have npa : p ∉ as := by
    have all : ∀ {as : List Addr} {m : Lot}, Paired (LR K H0 H G) as m → p ∉ as := by
      intro as m t
      induction t with
      | nil => exact fun z => nomatch z
      | cons x t ih =>
        intro z
        rcases List.mem_cons.mp z with z | z
        · obtain ⟨vs, q, _⟩ := x
          rw [← z, np] at q
          cases q
        · exact ih z
    exact all h4
  have n0 : H0 p = none := R.back np
  obtain ⟨vs, o1, o2, o3⟩ := op
  cases o3
  have km := kvs_miss (as := as) c
  refine ⟨_, h1', ?_, km, o1, fun w r hw => ?_⟩
  · unfold kvsOf
    rw [List.length_zipWith, Paired.len h4, Nat.min_self]
  have hd : upd H1 p (.lst [w]) d = some (.dT (kvsOf as m)) := by
    rw [upd_ne ndp]
    exact h1'
  have Rp := R'.write (o := .lst [w]) (.inl n0) o2
  rw [putK_new _ km, addLot_miss c, ← kvs_snoc (Paired.len h4)]
  refine ⟨hd, Rp.write (.inl n) g', ⟨as ++ [p], upd_same, ?_, ?_, ?_⟩, g', n, ?_⟩
  · refine List.nodup_append.mpr ⟨h2, by simp, fun a ha b hb => ?_⟩
    rw [List.mem_singleton.mp hb]
    intro z
    rw [z] at ha
    exact npa ha
  · intro z
    rcases List.mem_append.mp z with z | z
    · exact h3 z
    · exact ndp (List.mem_singleton.mp z)
  · refine Paired.append (LRs.upd (LRs.upd h4' npa) h3) (.cons ⟨[w], ?_, o2, n0, .cons hw .nil⟩ .nil)
    rw [upd_ne (Ne.symm ndp), upd_same]
  · have := addLot_nodup (k := k) (r := r) kn
    rw [addLot_miss c] at this
    exact this
/-- all of it may stand for good -/
theorem lists_freeze {ms : List Addr} : ∀ {as : List Addr} {m : Lot} {G : Hp}, Rc ms H0 G0 H G → Paired (LR K H0 H G) as m → as.Nodup → ∃ G', Rc ms H0 G0 H G' ∧ Ex G G' ∧ Paired (LotOf K G') (kvsOf as m) m ∧ ∀ b, b ∉ as → G' b = G b
  | [], [], G, R, .nil, _ => ⟨G, R, Ex.refl G, .nil, fun _ _ => rfl⟩
  | a :: as, q :: m, G, R, .cons ⟨vs, h1, h2, h3, h4⟩ t, nd => by
    obtain ⟨n1, n2⟩ := List.nodup_cons.mp nd
    have t' : Paired (LR K H0 H (upd G a (.lst vs))) as m := by
      have all : ∀ {as : List Addr} {m : Lot}, Paired (LR K H0 H G) as m → a ∉ as → Paired (LR K H0 H (upd G a (.lst vs))) as m := by
        intro as m t
        induction t with
        | nil => exact fun _ => .nil
        | @cons b q' _ _ x t ih =>
          intro n
          obtain ⟨ws, k1, k2, k3, k4⟩ := x
          exact .cons ⟨ws, k1, by rw [upd_ne fun z => n (by rw [z]; exact List.mem_cons_self)]; exact k2, k3, Rels.mono (Ex.new h2) k4⟩ (ih fun z => n (List.mem_cons_of_mem _ z))
      exact all t n1
    obtain ⟨G', r1, r2, r3, r4⟩ := lists_freeze (R.freeze h3 h2 h1) t' n2
    have e := r2 _ _ (show upd G a (.lst vs) a = some (.lst vs) from upd_same)
    refine ⟨G', r1, (Ex.new h2).trans r2, .cons ⟨rfl, a, vs, rfl, e, Rels.mono ((Ex.new h2).trans r2) h4⟩ r3, fun b hb => ?_⟩
    rw [r4 b fun z => hb (List.mem_cons_of_mem _ z), upd_ne fun z => hb (by rw [z]; exact List.mem_cons_self)]
theorem LotsAt.fin {ms : List Addr} (h : LotsAt K H0 H G d m) (R : Rc ms H0 G0 H G) : ∃ kvs, H d = some (.dT kvs) ∧ ∀ o, ∃ G', Rc ms H0 G0 (upd H d (.frz o (.dT kvs))) G' ∧ Rep.rel K G' (.ref d) (Lots.mk m) := by
  obtain ⟨⟨as, h1, h2, h3, h4⟩, g, n, kn⟩ := h
  obtain ⟨G', r1, r2, r3, r4⟩ := lists_freeze R h4 h2
  have g' : G' d = none := by
    rw [r4 d h3]
    exact g
  refine ⟨_, h1, fun o => ⟨upd G' d (.frz o (.dT (kvsOf as m))), (r1.write (o := .frz o (.dT (kvsOf as m))) (.inl n) g').freeze n g' upd_same, d, o, _, rfl, upd_same, ?_⟩⟩
  exact Paired.imp (fun _ _ ⟨q1, q2⟩ => ⟨q1, Rep.mono (Ex.new g') q2⟩) r3
end
def growO (s : Lot × Nat) (k r : List Int) : Option (Lot × Nat) := if s.2 < 100000 then some (addLot s.1 k r, s.2 + 1) else none
def Sz (s : Lot × Nat) : Prop := s.1.length ≤ s.2 ∧ ∀ q ∈ s.1, q.2.length ≤ s.2
theorem sz_len {k r : List Int} : ∀ m : Lot, (addLot m k r).length ≤ m.length + 1 := by
  intro m
  induction m with
  | nil => exact Nat.le_refl _
  | cons p m ih =>
    obtain ⟨p1, p2⟩ := p
    unfold addLot
    by_cases c : p1 = k
    · rw [if_pos c]
      exact Nat.le_succ _
    · rw [if_neg c]
      exact Nat.succ_le_succ ih
theorem sz_add {k r : List Int} : ∀ {m : Lot} {n : Nat}, Sz (m, n) → Sz (addLot m k r, n + 1)
  | [], n, _ => ⟨by show 1 ≤ n + 1; omega, fun q hq => by rw [List.mem_singleton.mp hq]; show 1 ≤ n + 1; omega⟩
  | (q, rs) :: m, n, ⟨h1, h2⟩ => by
    unfold addLot
    by_cases c : q = k
    · rw [if_pos c]
      refine ⟨by show m.length + 1 ≤ n + 1; have : m.length + 1 ≤ n := h1; omega, fun p hp => ?_⟩
      rcases List.mem_cons.mp hp with rfl | hp
      · have := h2 _ List.mem_cons_self
        show (rs ++ [r]).length ≤ n + 1
        rw [List.length_append]
        exact Nat.succ_le_succ this
      · exact Nat.le_succ_of_le (h2 p (List.mem_cons_of_mem _ hp))
    · rw [if_neg c]
      have h1' : m.length + 1 ≤ n := h1
      obtain ⟨n', rfl⟩ : ∃ n', n = n' + 1 := ⟨n - 1, by omega⟩
      have len := sz_len (k := k) (r := r) m
      refine ⟨by show (addLot m k r).length + 1 ≤ n' + 1 + 1; omega, fun p hp => ?_⟩
      rcases List.mem_cons.mp hp with rfl | hp
      · exact Nat.le_succ_of_le (h2 _ List.mem_cons_self)
      · have mem : ∀ (m : Lot), (∀ q ∈ m, q.2.length ≤ n' + 1) → ∀ p ∈ addLot m k r, p.2.length ≤ n' + 1 + 1 := by
          intro m
          induction m with
          | nil =>
            intro _ p hp
            rw [List.mem_singleton.mp hp]
            show 1 ≤ _
            omega
          | cons p0 m ih =>
            obtain ⟨p1, p2⟩ := p0
            intro hh p hp
            unfold addLot at hp
            by_cases c : p1 = k
            · rw [if_pos c] at hp
              rcases List.mem_cons.mp hp with rfl | hp
              · have := hh _ List.mem_cons_self
                show (p2 ++ [r]).length ≤ _
                rw [List.length_append]
                exact Nat.succ_le_succ this
              · exact Nat.le_succ_of_le (hh p (List.mem_cons_of_mem _ hp))
            · rw [if_neg c] at hp
              rcases List.mem_cons.mp hp with rfl | hp
              · exact Nat.le_succ_of_le (hh _ List.mem_cons_self)
              · exact ih (fun q hq => hh q (List.mem_cons_of_mem _ hq)) p hp
        exact mem m (fun q hq => h2 q (List.mem_cons_of_mem _ hq)) p hp
/-- lots as it is walked -/
def lotsW (x : Lots) : Option (List TupI) := if x.m.length ≤ 1000000 then some (x.m.map fun q => TupI.mk q.1) else none
section
variable {X : Cx} {σ : L2.St} {H G : Hp} {a tg : Expr}
theorem ei_lotsW {x : Lots} {items : List TupI} {j : Nat} (h : lotsW x = some items) (ha : EvX X a σ H G x) : EvI X tg a (gName j) σ H G items (rOne X.K j) := by
  obtain ⟨h1, h2⟩ := dite_some h
  subst h2
  exact ei_lots (Nat.le_trans h1 (by decide)) ha
/-- a dict is locked for good -/
theorem wp_varLock {d : Addr} {kvs : List (List Key × V)} {i : Nat} {nm : Str} {pos : Pos} {Q : VK} (hs : σ[i]? = some (some (.ref d))) (hd : H d = some (.dT kvs)) (k : ∀ o, Q (.ref d) (upd H d (.frz o (.dT kvs)))) (hN : X.N[i]? = some nm := by rfl) (hv : Vis X.env.scope nm := by first | exact Or.inl rfl | exact Or.inr (Or.inl rfl) | exact Or.inr (Or.inr rfl))
    (hdb : (nm == ("__debug__" : Str)) = false := by decide) (hcd : (nm == ("__classdict__" : Str)) = false := by decide) : wpE X (.Name nm pos) σ H Q := fun pins s I => by
  obtain ⟨o, I'⟩ := I.lock hd True.intro
  exact wp_var hs (k o) hN hv hdb hcd pins s I'
end
end PX

/-! PYl: booleans in lists; keys in a dict; for k05. -/
namespace PX
open PySem L2
theorem inV_bl {i : Bool} : ∀ {xs : List Bool}, inV (.bl i) (xs.map .bl) = decide (i ∈ xs)
  | [] => by simp [inV]
  | x :: r => by
    have ih := inV_bl (i := i) (xs := r)
    unfold inV at ih ⊢
    rw [List.map_cons, List.any_cons, ih]
    have e : eqV (.bl x) (.bl i) = decide (x = i) := by cases x <;> cases i <;> rfl
    rw [e, Bool.eq_iff_iff, Bool.or_eq_true, decide_eq_true_iff, decide_eq_true_iff, decide_eq_true_iff, List.mem_cons]
    constructor
    · rintro (h | h)
      · exact .inl h.symm
      · exact .inr h
    · rintro (h | h)
      · exact .inl h.symm
      · exact .inr h
theorem flat_bl : ∀ {xs : List Bool}, (xs.map V.bl).all flatV = true
  | [] => rfl
  | x :: r => by
    rw [List.map_cons, List.all_cons, flat_bl (xs := r)]
    rfl
section
variable {X : Cx} {σ : L2.St} {H G : Hp} {a b : Expr} {pos : Pos} {i : Bool} {xs : List Bool}
theorem opInLB {neg : Bool} {f : Bool} (hf : f = if neg then !decide (i ∈ xs) else decide (i ∈ xs)) : Opv X.K (rIn X.K neg) H G i xs f := fun v w H1 G1 s hv hw Q k => by
  obtain ⟨p, ws, w1, w2, w3⟩ := hw
  rw [rels_bl w3] at w2
  subst hf
  refine ⟨p, _, w1, .inl (.inl (.inl (s.sub _ _ w2))), by rw [show v = V.bl i from hv]; rfl, flat_bl, k _ H1 G1 (Rc.refl s.sub) ?_⟩
  rw [show v = V.bl i from hv, inV_bl]
  cases neg <;> rfl
theorem et_inLB (ha : EvX X a σ H G i) (hb : EvX X b σ H G xs) (hm : behindInMarks .In b = false := by rfl) : EvT X (.Compare a [.In] [b] pos) σ H G (decide (i ∈ xs)) := et_cmp op_in_seq hm ha hb (opInLB rfl)
theorem et_ninLB (ha : EvX X a σ H G i) (hb : EvX X b σ H G xs) (hm : behindInMarks .NotIn b = false := by rfl) : EvT X (.Compare a [.NotIn] [b] pos) σ H G (!decide (i ∈ xs)) := et_cmp op_notIn_seq hm ha hb (opInLB rfl)
end
/-! ### data of any kind against a list of ints -/
mutual
theorem DG.dp {K : PySem.W.Frag} {G : Hp} : ∀ {d : PyData} {v : V}, d.canLay0 = true → DG G v d → Dp K G v d
  | .none, _, _, h => by cases h; exact .non
  | .bool b, _, _, h => by cases h; exact .bl b
  | .int i, _, _, h => by cases h; exact .int i
  | .str x, _, _, h => by cases h; exact .str x
  | .list ds, _, c, h => by
    cases h with
    | lst q w => exact .lst (.inl (.inl q)) (DGs.dp (by simpa [PyData.canLay0] using c) w)
  | .tuple ds, _, c, h => by
    cases h with
    | tup q w => exact .tup (.inl (.inl q)) (DGs.dp (by simpa [PyData.canLay0] using c) w)
  | .dict _, _, c, _ => by simp [PyData.canLay0] at c
theorem DGs.dp {K : PySem.W.Frag} {G : Hp} : ∀ {ds : List PyData} {vs : List V}, PyData.canLayAll0 ds = true → DGs G vs ds → DpAll K G vs ds
  | [], _, _, h => by cases h; exact .nil
  | d :: ds, _, c, h => by
    rw [PyData.canLayAll0, Bool.and_eq_true] at c
    cases h with
    | cons a b => exact .cons (DG.dp c.1 a) (DGs.dp c.2 b)
end
theorem ld_declines (l b : Addr) (items : Array Value) (n : Nat) (dd : Option Addr) (sl : Array (Option Value)) (ob : Obj) (hc : ob.cls = .type "dict") :
    Meets (Builtin.«list.__eq__» ⟨[.ref l, .ref b], []⟩) (fun _ R s => s.heap.get? l = some { cls := .type "list", dict := dd, data := .seq items n, slots := sl } ∧ s.heap.get? b = some ob ∧ R (.ok (.ret .notImplemented)) s) :=
  .of_wp fun prog w A R s h => by
    obtain ⟨hp, g, d, tk, os⟩ := s
    obtain ⟨cls, dict, data, slots⟩ := ob
    obtain rfl : cls = .type "dict" := hc
    obtain ⟨hl, hb, h⟩ := h
    have f1 := F.sub_dict_list
    wp_walk using AutoSeq1.wpAny_loadPart' hl, AutoSeq1.wpAny_loadPart' hb
    exact ⟨_, rfl, h⟩
def rEqDL : R2 := fun x y H Q => ∃ a b ls, x = .ref a ∧ y = .ref b ∧ H a = some (.dK []) ∧ H b = some (.lst ls) ∧ Q (.bl false) H
theorem op_eqDL {X : Cx} (hu : X.A.units < cLine) : OpR X (compareOp .Eq) rEqDL := by
  intro pins s σ H x y v u Q I rx ry h
  obtain ⟨a, b, ls, rfl, rfl, ea, eb, q⟩ := h
  obtain rfl : v = Value.ref a := rx
  obtain rfl : u = Value.ref b := ry
  obtain ⟨_, ya, va, ra, da⟩ := (show ObjOk X.prog X.w H s.heap a (.dK []) from I.hok a _ ea)
  obtain ⟨_, its, n, rb, db⟩ := (show ObjOk X.prog X.w H s.heap b (.lst ls) from I.hok b _ eb)
  obtain ⟨od, es, ep, ho, hx, hd⟩ := da
  have hne : a ≠ b := fun e => by
    subst e
    rw [ea] at eb
    cases eb
  have ta : s.TypeIs (.ref a) "dict" := ⟨_, ho, hx.1⟩
  have tb : s.TypeIs (.ref b) "list" := ⟨_, db, rfl⟩
  refine SeqAt.rc_eq_decline_or (k := false) ta tb (by decide) F.sub_list_dict F.slot_dict_eq F.slot_list_eq_refl ?_ ?_ ?_ (.inr hu) ⟨.bl _, H, I, rfl, q⟩
  · intro Q' hq
    refine wpAny_call_entry PySem.F.slot_dict_eq ta PySem.F.entry_dict_eq ?_ (PySem.F.args_dict_eq_2 _ _)
    show wpAny _ _ (Builtin.Dict.dictSlotArgs "__eq__" ⟨[.ref a, .ref b], []⟩ >>= _) _ _ s
    refine wpAny_bind ?_
    unfold Builtin.Dict.dictSlotArgs
    refine wpAny_bind (wpAny_notOrdered_dict ta ?_)
    show wpAny _ _ (pure (Value.ref a, Value.ref b)) _ _ s
    refine wpAny_pure ?_
    refine wpAny_bind (wpAny_isInstance (T := "list") tb F.sub_list_dict ?_)
    simp only [Bool.not_false, if_true]
    refine wpAny_bind (wpAny_rule ?_)
    exact wpAny_pure ⟨_, rfl, hq⟩
  · intro Q' hq
    exact call_meets F.slot_list_eq_refl tb F.entry_list_eq (F.args_list_eq_2 _ _) (ld_declines b a _ _ _ _ od hx.1) ⟨db, ho, hq⟩
  · intro Q' hq
    exact wpAny_isSame_ref_other hne ho db (by rw [hx.1]; simp) hq
def isD0 : PyData → Bool
  | .dict [] => true
  | _ => false
theorem isD0_eq : ∀ {x : PyData}, isD0 x = true → x = .dict []
  | .dict [], _ => rfl
def eqLD (x : PyData) (ys : List Int) : Option Bool :=
  if isD0 x = true then some false
  else if SeqAt.shaped x = true then some (PyData.eqv x (.list (ys.map PyData.int))) else none
def rEqDT (K : PySem.W.Frag) : R2 := fun v w H Q => rEqD K v w H Q ∨ rEqDL v w H Q
theorem op_eqDT {X : Cx} (hu : X.A.units + 64 < cLine) : OpR X (compareOp .Eq) (rEqDT X.K) := by
  intro pins s σ H x y v u Q I rx ry h
  rcases h with h | h
  · exact op_eqD hu pins s σ H x y v u Q I rx ry h
  · exact op_eqDL (Nat.lt_of_le_of_lt (Nat.le_add_right _ _) hu) pins s σ H x y v u Q I rx ry h
section
variable {X : Cx} {σ : L2.St} {H G : Hp} {a b : Expr} {pos : Pos} {x : PyData} {ys : List Int} {t : Bool}
theorem opEqLD (h : eqLD x ys = some t) : Opv X.K (rEqDT X.K) H G x ys t := fun v w H1 G1 s hv hw Q k => by
  unfold eqLD at h
  have hw1 := hw
  obtain ⟨d, vs, e1, e2, e3⟩ := hw1
  subst e1
  split at h
  · rename_i hd
    cases h
    have hx := isD0_eq hd
    subst hx
    cases (show DG G1 v (.dict []) from hv) with
    | dic0 q => exact .inr ⟨_, _, _, rfl, rfl, s.sub _ _ q, s.sub _ _ e2, k _ H1 G1 (Rc.refl s.sub) rfl⟩
  · obtain ⟨h1, h2⟩ := dite_some h
    subst h2
    refine .inl ⟨x, _, DG.dp (K := X.K) (SeqAt.canLay_of_shaped h1) (DG.mono s.sub hv), PyD.dp (α := List Int) (Rep.mono s.sub hw), h1, shaped_py (α := List Int) (by decide) ys, k _ H1 G1 (Rc.refl s.sub) ?_⟩
    rfl
theorem ev_eqLD (hu : X.A.units + 64 < cLine) (h : eqLD x ys = some t) (ha : EvX X a σ H G x) (hb : EvX X b σ H G ys) (hm : behindInMarks .Eq b = false := by rfl) : EvX X (.Compare a [.Eq] [b] pos) σ H G t := ev_cmp (op_eqDT hu) hm ha hb (opEqLD h)
theorem et_eqLD (hu : X.A.units + 64 < cLine) (h : eqLD x ys = some t) (ha : EvX X a σ H G x) (hb : EvX X b σ H G ys) (hm : behindInMarks .Eq b = false := by rfl) : EvT X (.Compare a [.Eq] [b] pos) σ H G t := et_cmp (op_eqDT hu) hm ha hb (opEqLD h)
end
/-! ### a dict whose keys are lists, every value 1 -/
structure Keys where
  m : List (List Int)
def kv1 (m : List (List Int)) : List (List Key × V) := m.map fun k => (kk k, V.int 1)
instance : Rep Keys where
  rel := fun _ G v x => ∃ d, v = .ref d ∧ G d = some (.dT (kv1 x.m))
  mono := fun e ⟨d, h1, h2⟩ => ⟨d, h1, e _ _ h2⟩
def putO (s : List (List Int)) (k : List Int) : Option (List (List Int)) := if s.length < 100000 then some (if k ∈ s then s else s ++ [k]) else none
theorem kv1_any {k : List Int} : ∀ m : List (List Int), ((kv1 m).any fun kv => decide (kv.1 = kk k)) = decide (k ∈ m)
  | [] => by simp [kv1]
  | q :: m => by
    have ih := kv1_any (k := k) m
    unfold kv1 at ih ⊢
    rw [List.map_cons, List.any_cons, ih, Bool.eq_iff_iff, Bool.or_eq_true, decide_eq_true_iff, decide_eq_true_iff, decide_eq_true_iff, List.mem_cons]
    constructor
    · rintro (h | h)
      · exact .inl (kk_inj h).symm
      · exact .inr h
    · rintro (h | h)
      · exact .inl (by rw [h])
      · exact .inr h
theorem kv1_map {k : List Int} : ∀ m : List (List Int), (kv1 m).map (fun kv => if kv.1 = kk k then (kv.1, V.int 1) else kv) = kv1 m
  | [] => rfl
  | q :: m => by
    have ih := kv1_map (k := k) m
    unfold kv1 at ih ⊢
    rw [List.map_cons, List.map_cons, ih]
    split <;> rfl
theorem kv1_put {k : List Int} {m t : List (List Int)} (h : putO m k = some t) : putK (kv1 m) (kk k) (V.int 1) = kv1 t ∧ (kv1 m).length < sizeLine := by
  obtain ⟨h1, h2⟩ := dite_some h
  subst h2
  refine ⟨?_, by unfold kv1; rw [List.length_map, sizeLine_eq]; omega⟩
  unfold putK
  rw [kv1_any]
  by_cases c : k ∈ m
  · rw [if_pos (decide_eq_true c), if_pos c, kv1_map]
  · rw [if_neg (by simpa using c), if_neg c]
    unfold kv1
    rw [List.map_append]
    rfl
theorem kv1_val {k : List Int} : ∀ m : List (List Int), (valV (kv1 m) (kk k)).isSome = decide (k ∈ m)
  | [] => rfl
  | q :: m => by
    have ih := kv1_val (k := k) m
    by_cases c : q = k
    · subst c
      rw [show kv1 (q :: m) = (kk q, V.int 1) :: kv1 m from rfl, valV_pos rfl, decide_eq_true (List.mem_cons_self)]
      rfl
    · rw [show kv1 (q :: m) = (kk q, V.int 1) :: kv1 m from rfl, valV_neg (fun z => c (kk_inj z)), ih]
      simp [Ne.symm c]
structure KeysAt (H0 H G : Hp) (d : Addr) (m : List (List Int)) : Prop where
  h : H d = some (.dT (kv1 m))
  g : G d = none
  n : H0 d = none
theorem KeysAt.step0 {H0 H G H1 G1 : Hp} {d : Addr} {m : List (List Int)} (h : KeysAt H0 H G d m) (S : Rc [] H G H1 G1) : KeysAt H0 H1 G1 d m :=
  ⟨S.exH _ _ h.h, S.fr _ _ h.h (fun _ z => by cases z) h.g, h.n⟩
theorem KeysAt.put {H0 G0 H G : Hp} {ms : List Addr} {d : Addr} {m t : List (List Int)} {k : List Int} (h : KeysAt H0 H G d m) (R : Rc ms H0 G0 H G) (e : putO m k = some t) : Rc ms H0 G0 (upd H d (.dT (putK (kv1 m) (kk k) (V.int 1)))) G ∧ KeysAt H0 (upd H d (.dT (putK (kv1 m) (kk k) (V.int 1)))) G d t :=
  ⟨R.write (.inl h.n) h.g, by rw [(kv1_put e).1]; exact upd_same, h.g, h.n⟩
theorem KeysAt.fin {H0 G0 H G : Hp} {ms : List Addr} {d : Addr} {m : List (List Int)} (h : KeysAt H0 H G d m) (R : Rc ms H0 G0 H G) : Rc ms H0 G0 H (upd G d (.dT (kv1 m))) ∧ ∀ K, Rep.rel K (upd G d (.dT (kv1 m))) (.ref d) (Keys.mk m) :=
  ⟨R.freeze h.n h.g h.h, fun _ => ⟨d, rfl, upd_same⟩⟩
section
variable {X : Cx} {σ : L2.St} {H G : Hp} {a b : Expr} {pos : Pos}
theorem ev_inKeys {x : Keys} {k : TupI} (hu : X.A.units + 1 < cLine) (ha : EvX X a σ H G k) (hb : EvX X b σ H G x) (hm : behindInMarks .In b = false := by rfl) : EvX X (.Compare a [.In] [b] pos) σ H G (decide (k.l ∈ x.m)) := fun H1 G1 s Q q =>
  toE (pe_cmp (pc_din hu pe_wp pe_wp) hm) (show wpE X a σ H1 _ from ha H1 G1 s _ fun v H2 G2 s2 r2 => hb H2 G2 (s.trans s2) _ fun w H3 G3 s3 r3 => by
    obtain ⟨t, t1, t2⟩ := Rep.mono s3.ex r2
    obtain ⟨d, d1, d2⟩ := r3
    subst t1
    exact ⟨d, _, d1, .inr ⟨_, kk k.l, t, .inl (s3.sub _ _ d2), rfl, by rw [kk_V]; exact s3.sub _ _ t2, rfl⟩, q _ H3 G3 (s2.trans s3) (by rw [kv1_val]; rfl)⟩)
end
end PX

namespace Cl
open PySem L2 PX
def topS (i : Nat) : Stmt := PySem.Challenge.pw_peakpeel_k05_times_judged.main.body.getD i (.Pass ⟨0, 0, 0, 0⟩)

abbrev s_is_an_integer : Stmt := topS 1
theorem sc_is_an_integer : FnScope ["value"] ["value"] (defScope s_is_an_integer) := ⟨rfl, rfl, rfl, by decide +kernel, rfl, by decide +kernel, by decide +kernel⟩
abbrev s_is_row : Stmt := topS 3
theorem sc_is_row : FnScope ["value", "item"] ["value"] (defScope s_is_row) := ⟨rfl, rfl, rfl, by decide +kernel, rfl, by decide +kernel, by decide +kernel⟩
abbrev s_rounds_of : Stmt := topS 4
theorem sc_rounds_of : FnScope ["row", "entries", "rounds", "waiting", "place", "entry", "greatest", "ended"] ["row"] (defScope s_rounds_of) := ⟨rfl, rfl, rfl, by decide +kernel, rfl, by decide +kernel, by decide +kernel⟩
abbrev s_is_times : Stmt := topS 6
theorem sc_is_times : FnScope ["value", "item"] ["value"] (defScope s_is_times) := ⟨rfl, rfl, rfl, by decide +kernel, rfl, by decide +kernel, by decide +kernel⟩
abbrev s_law_pot : Stmt := topS 8
theorem sc_law_pot : FnScope ["script", "k", "cell"] ["script", "k"] (defScope s_law_pot) := ⟨rfl, rfl, rfl, by decide +kernel, rfl, by decide +kernel, by decide +kernel⟩
abbrev s_law_take : Stmt := topS 9
theorem sc_law_take : FnScope ["pot", "many", "found", "mixed"] ["pot", "many"] (defScope s_law_take) := ⟨rfl, rfl, rfl, by decide +kernel, rfl, by decide +kernel, by decide +kernel⟩
abbrev s_law_row : Stmt := topS 10
theorem sc_law_row : FnScope ["pot", "most", "way", "many", "wide", "found", "last", "at", "some"] ["pot", "most"] (defScope s_law_row) := ⟨rfl, rfl, rfl, by decide +kernel, rfl, by decide +kernel, by decide +kernel⟩
abbrev s_law_times : Stmt := topS 11
theorem sc_law_times : FnScope ["row", "found", "left", "number", "gone", "spot", "place_here", "near", "other"] ["row"] (defScope s_law_times) := ⟨rfl, rfl, rfl, by decide +kernel, rfl, by decide +kernel, by decide +kernel⟩
abbrev s_law_is_times : Stmt := topS 12
theorem sc_law_is_times : FnScope ["value", "at", "item", "steps_here", "part", "near", "spot", "other"] ["value"] (defScope s_law_is_times) := ⟨rfl, rfl, rfl, by decide +kernel, rfl, by decide +kernel, by decide +kernel⟩
abbrev s_law_tall : Stmt := topS 13
theorem sc_law_tall : FnScope ["pot", "most", "row", "at", "found"] ["pot", "most"] (defScope s_law_tall) := ⟨rfl, rfl, rfl, by decide +kernel, rfl, by decide +kernel, by decide +kernel⟩
abbrev s_law_lists : Stmt := topS 14
theorem sc_law_lists : FnScope ["size", "low", "high", "found", "at", "longer", "some", "one"] ["size", "low", "high"] (defScope s_law_lists) := ⟨rfl, rfl, rfl, by decide +kernel, rfl, by decide +kernel, by decide +kernel⟩
abbrev s_law_small_right : Stmt := topS 15
theorem sc_law_small_right : FnScope ["size", "known", "row", "some"] ["size"] (defScope s_law_small_right) := ⟨rfl, rfl, rfl, by decide +kernel, rfl, by decide +kernel, by decide +kernel⟩
abbrev s_law : Stmt := topS 16
theorem sc_law : FnScope ["script", "size", "some", "k", "pot", "turn", "kept", "time", "at", "one", "bent", "value", "wide", "odd"] ["script"] (defScope s_law) := ⟨rfl, rfl, rfl, by decide +kernel, rfl, by decide +kernel, by decide +kernel⟩
/-! ### mirrors -/
def m_is_an_integer (value : PyData) : Option Bool :=
  some ((isD "int" value) && (!(isD "bool" value)))
def m_is_row (value : PyData) : Option Bool :=
  (Option.bind (cond (isD "list" value) (Option.bind (asLst value) fun t1 => (Option.bind (lcO (fun (x2 : PyData) => some true) (fun (x2 : PyData) => (Option.bind (m_is_an_integer x2) fun t4 => some t4)) t1) fun t5 => some (((t5).all id)))) (some false)) fun t6 => some t6)
def m_rounds_of (row : (List Int)) : Option (List Int) :=
  (Option.bind (catO row ([((minD (0 : Int) row) - (1 : Int))] : (List Int))) fun t1 => (Option.bind (repO ([(0 : Int)] : (List Int)) ((t1).length : Int)) fun t3 => (Option.bind (forL (ρ := Unit) (S := ((List Int) × (List Int))) (fun (x9 : (Int × Int)) (s6 : ((List Int) × (List Int))) => (Option.bind (whl (ρ := Unit) (S := (Int × (List Int) × (List Int))) (fun (s11 : (Int × (List Int) × (List Int))) => (Option.bind (cond (!s11.2.2.isEmpty) (Option.bind (ix s11.2.2 (-1 : Int)) fun t27 => (Option.bind (ix t1 t27) fun t28 => some ((decide (x9.2 < t28))))) (some false)) fun t29 => some t29)) (fun (s11 : (Int × (List Int) × (List Int))) => (Option.bind (popO s11.2.2) fun t15 => (Option.bind (ix s11.2.1 t15.1) fun t16 => (Option.bind (cond (!t15.2.isEmpty) (Option.bind (ix t15.2 (-1 : Int)) fun t18 => (Option.bind (ix t1 t18) fun t19 => (Option.bind (ix t1 t15.1) fun t20 => some ((decide (t19 < t20)))))) (some false)) fun t21 => cond t21 ((Option.bind (ix t15.2 (-1 : Int)) fun t23 => (Option.bind (ix s11.2.1 t23) fun t24 => (Option.bind (ix t15.2 (-1 : Int)) fun t25 => (Option.bind (setO s11.2.1 t25 (max t24 ((max s11.1 t16) + (1 : Int)))) fun t26 => some (Ctl.nx ((max s11.1 t16), t26, t15.2))))))) (some (Ctl.nx ((max s11.1 t16), s11.2.1, t15.2))))))) ((s6.2).length + 1) ((0 : Int), s6.1, s6.2)) fun c12 => aft c12 (fun (s11 : (Int × (List Int) × (List Int))) => (Option.bind (setO s11.2.1 x9.1 (s11.1 + (1 : Int))) fun t30 => (Option.bind (appO s11.2.2 x9.1) fun t31 => some (Ctl.nx (t30, t31))))) (fun y => none))) (enumI t1) (t3, ([] : (List Int)))) fun c7 => aft c7 (fun (s6 : ((List Int) × (List Int))) => some (cut s6.1 none (some (-1 : Int)))) (fun y => none))))
def m_is_times (value : PyData) : Option Bool :=
  (Option.bind (m_is_row value) fun t1 => (Option.bind (cond t1 (Option.bind (asInts value) fun t2 => (Option.bind (lcO (fun (x3 : Int) => some true) (fun (x3 : Int) => some (-x3)) t2) fun t4 => (Option.bind (m_rounds_of t4) fun t5 => (Option.bind (asInts value) fun t6 => some ((eqs t5 t6)))))) (some false)) fun t7 => some t7))
def m_law_pot (script : Scr) (k : Int) : Option (List Int) :=
  (Option.bind (cond (decide (k < ((script).l.length : Int))) ((Option.bind (ix (script).l k) fun t4 => some t4)) (some (0 : Int))) fun t2 => (Option.bind (mulO (999133 : Int) k) fun t6 => some ([(max (0 : Int) (t2 - (1000000000000000000 : Int))), ((t2 % (100000000000000000000000000000000000133 : Int)) + t6), (0 : Int)] : (List Int))))
def m_law_take (pot : (List Int)) (many : Int) : Option (Int × (List Int)) :=
  (Option.bind (ix pot (0 : Int)) fun t1 => cond (decide ((0 : Int) < t1)) ((Option.bind (ix pot (0 : Int)) fun t3 => (Option.bind (modO t3 many) fun t4 => (Option.bind (ix pot (0 : Int)) fun t6 => (Option.bind (fdivO t6 many) fun t7 => (Option.bind (setO pot (0 : Int) t7) fun t8 => some (t4, t8))))))) ((Option.bind (ix pot (2 : Int)) fun t10 => (Option.bind (setO pot (2 : Int) (t10 + (1 : Int))) fun t11 => (Option.bind (ix t11 (1 : Int)) fun t12 => (Option.bind (ix t11 (2 : Int)) fun t13 => (Option.bind (mulO (14472334024676221 : Int) t13) fun t14 => (Option.bind (powO (t12 + t14) (3 : Int)) fun t15 => (Option.bind (ix t11 (2 : Int)) fun t17 => (Option.bind (mulO (14472334024676221 : Int) t17) fun t18 => (Option.bind (powO ((t15 % (100000000000000000000000000000000000000037 : Int)) + t18) (3 : Int)) fun t19 => (Option.bind (modO ((t19 % (10000000000000000000000000000000000000121 : Int)) / (1000003 : Int)) many) fun t21 => some (t21, t11)))))))))))))
def m_law_row (pot : (List Int)) (most : Int) : Option ((List Int) × (List Int)) :=
  (Option.bind (m_law_take pot (7 : Int)) fun t2 => (Option.bind (m_law_take t2.2 (most + (1 : Int))) fun t5 => (Option.bind (m_law_take t5.2 (4 : Int)) fun t10 => (Option.bind (ix ([t5.1, most] : (List Int)) (if (eqs t10.1 (0 : Int)) then 1 else 0 : Int)) fun t16 => (Option.bind (m_law_take t10.2 (6 : Int)) fun t20 => (Option.bind (rngO 0 t16) fun t26 => (Option.bind (forL (ρ := Unit) (S := ((List Int) × Int × (List Int))) (fun (x29 : Int) (s25 : ((List Int) × Int × (List Int))) => (Option.bind (m_law_take s25.2.2 (3 : Int)) fun t33 => (Option.bind (ix ([(1 : Int), (-1 : Int), (0 : Int)] : (List Int)) t33.1) fun t35 => (Option.bind (m_law_take t33.2 ((1 : Int) + t20.1)) fun t39 => (Option.bind (m_law_take t39.2 (2000000000000000000000000000001 : Int)) fun t42 => (Option.bind (modO (x29 / (3 : Int)) ((1 : Int) + t20.1)) fun t51 => (Option.bind (m_law_take t42.2 (2 : Int)) fun t55 => (Option.bind (catO ([t39.1, (t42.1 - (1000000000000000000000000000000 : Int)), x29, ((0 : Int) - x29), (s25.2.1 + t35)] : (List Int)) ([t51, ((9999999999999999999999999999999 : Int) - t55.1)] : (List Int))) fun t59 => (Option.bind (ix t59 t2.1) fun t61 => (Option.bind (appO s25.1 t61) fun t62 => some (Ctl.nx (t62, (s25.2.1 + t35), t55.2)))))))))))) t26 (([] : (List Int)), (0 : Int), t20.2)) fun c27 => aft c27 (fun (s25 : ((List Int) × Int × (List Int))) => some (s25.1, s25.2.2)) (fun y => none))))))))
def m_law_times (row : (List Int)) : Option (List Int) :=
  (Option.bind (repO ([(0 : Int)] : (List Int)) ((row).length : Int)) fun t1 => (Option.bind (rngO 0 ((row).length : Int)) fun t3 => (Option.bind (whl (ρ := Unit) (S := ((List Int) × (List Int) × Int)) (fun (s6 : ((List Int) × (List Int) × Int)) => some (!eqs s6.2.1 ([] : (List Int)))) (fun (s6 : ((List Int) × (List Int) × Int)) => (Option.bind (forL (ρ := Unit) (S := ((List Int))) (fun (x15 : (Int × Int)) (s12 : ((List Int))) => (Option.bind (catO (cut s6.2.1 (some (max (0 : Int) (x15.1 - (1 : Int)))) (some x15.1)) (cut s6.2.1 (some (x15.1 + (1 : Int))) (some (x15.1 + (2 : Int))))) fun t16 => (Option.bind (lcO (fun (x18 : Int) => (Option.bind (ix row x18) fun t19 => (Option.bind (ix row x15.2) fun t20 => some (decide (t20 < t19))))) (fun (x18 : Int) => some x18) t16) fun t21 => cond (eqs t21 ([] : (List Int))) ((Option.bind (appO s12 x15.2) fun t23 => some (Ctl.nx t23))) (some (Ctl.nx s12))))) (enumI s6.2.1) ([] : (List Int))) fun c13 => aft c13 (fun (s12 : ((List Int))) => (Option.bind (forL (ρ := Unit) (S := ((List Int))) (fun (x27 : Int) (s24 : ((List Int))) => (Option.bind (setO s24 x27 (s6.2.2 + (1 : Int))) fun t28 => some (Ctl.nx t28))) s12 s6.1) fun c25 => aft c25 (fun (s24 : ((List Int))) => (Option.bind (lcO (fun (x29 : Int) => some (!decide (x29 ∈ s12))) (fun (x29 : Int) => some x29) s6.2.1) fun t30 => some (Ctl.nx (s24, t30, (s6.2.2 + (1 : Int)))))) (fun y => none))) (fun y => none))) ((row).length + 1) (t1, t3, (0 : Int))) fun c7 => aft c7 (fun (s6 : ((List Int) × (List Int) × Int)) => some s6.1) (fun y => none))))
def m_law_is_times (value : (List Int)) : Option Bool :=
  (Option.bind (forL (ρ := Bool) (S := Unit) (fun (x4 : (Int × Int)) (s1 : Unit) => (Option.bind (forL (ρ := Unit) (S := ((List Bool))) (fun (x9 : (List Int)) (s6 : ((List Bool))) => (Option.bind (lcO (fun (x11 : (Int × Int)) => some (decide (x4.2 ≤ x11.2))) (fun (x11 : (Int × Int)) => some x11.1) (enumI x9)) fun t12 => (Option.bind (catO t12 ([((x9).length : Int)] : (List Int))) fun t13 => (Option.bind (ix t13 (0 : Int)) fun t14 => (Option.bind (appO s6 (decide ((x4.2 - (1 : Int)) ∈ (cut x9 none (some t14))))) fun t16 => some (Ctl.nx t16)))))) ([(List.reverse (cut value none (some x4.1))), (cut value (some (x4.1 + (1 : Int))) none)] : (List (List Int))) ([(eqs x4.2 (1 : Int))] : (List Bool))) fun c7 => aft c7 (fun (s6 : ((List Bool))) => cond ((decide (x4.2 < (1 : Int))) || (!decide (true ∈ (s6 : List Bool)))) (some (Ctl.rt false)) (some (Ctl.nx ()))) (fun y => none))) (enumI value) ()) fun c2 => aft c2 (fun (s1 : Unit) => some true) (fun y => some y))
def m_law_tall (pot : (List Int)) (most : Int) : Option ((List Int) × (List Int)) :=
  (Option.bind (m_law_row pot most) fun t2 => (Option.bind ((Option.bind (m_law_take t2.2 (3 : Int)) fun t6 => cond (eqs t6.1 (0 : Int)) ((Option.bind (m_law_take t6.2 (most + (1 : Int))) fun t12 => (Option.bind (rngO 0 t12.1) fun t14 => (Option.bind (lcM (fun (x15 : Int) (pt : (List Int)) => (Option.bind (m_law_take pt (3 : Int)) fun t17 => some (t17.1, t17.2))) t14 t12.2) fun t19 => some (t19.2, t19.1))))) (some (t6.2, t2.1)))) fun t4 => (Option.bind (m_law_times t4.2) fun t21 => (Option.bind ((Option.bind (m_law_take t4.1 (3 : Int)) fun t25 => (Option.bind (cond (eqs t25.1 (0 : Int)) (Option.bind (mulO (2 : Int) ((t21).length : Int)) fun t30 => some ((decide (t30 < most)))) (some false)) fun t31 => cond t31 ((Option.bind (catO t21 ([(0 : Int)] : (List Int))) fun t33 => (Option.bind (maxO t33) fun t34 => (Option.bind (catO t21 ([(t34 + (1 : Int))] : (List Int))) fun t35 => (Option.bind (catO t35 (List.reverse t21)) fun t36 => some (t36, t25.2)))))) (some (t21, t25.2))))) fun t23 => some (t23.1, t23.2)))))
def m_law_lists (size : Int) (low : Int) (high : Int) : Option (List (List Int)) :=
  (Option.bind (rngO 0 size) fun t3 => (Option.bind (forL (ρ := Unit) (S := ((List (List Int)))) (fun (x6 : Int) (s2 : ((List (List Int)))) => (Option.bind (forL (ρ := Unit) (S := ((List (List Int)))) (fun (x11 : (List Int)) (s8 : ((List (List Int)))) => (Option.bind (rngO low (high + (1 : Int))) fun t13 => (Option.bind (lcO (fun (x14 : Int) => some true) (fun (x14 : Int) => (Option.bind (catO x11 ([x14] : (List Int))) fun t15 => some t15)) t13) fun t16 => (Option.bind (extO s8 t16) fun t17 => some (Ctl.nx t17))))) s2 ([] : (List (List Int)))) fun c9 => aft c9 (fun (s8 : ((List (List Int)))) => some (Ctl.nx s8)) (fun y => none))) t3 ([([] : (List Int))] : (List (List Int)))) fun c4 => aft c4 (fun (s2 : ((List (List Int)))) => some s2) (fun y => none)))
def m_law_small_right (size : Int) : Option Bool :=
  (Option.bind (m_law_lists size (0 : Int) (size - (1 : Int))) fun t3 => (Option.bind (forL (ρ := Unit) (S := ((List (List Int)))) (fun (x6 : (List Int)) (s2 : ((List (List Int)))) => (Option.bind (m_law_times x6) fun t8 => (Option.bind (putO s2 t8) fun t9 => some (Ctl.nx t9)))) t3 ([] : (List (List Int)))) fun c4 => aft c4 (fun (s2 : ((List (List Int)))) => (Option.bind (m_law_lists size (1 : Int) (min (4 : Int) (size + (1 : Int)))) fun t11 => (Option.bind (forL (ρ := Bool) (S := Unit) (fun (x14 : (List Int)) (s10 : Unit) => (Option.bind (m_is_times (PyData.list (List.map PyData.int x14))) fun t16 => cond (!eqs t16 (decide (x14 ∈ s2))) (some (Ctl.rt false)) (some (Ctl.nx ())))) t11 ()) fun c12 => aft c12 (fun (s10 : Unit) => some true) (fun y => some y)))) (fun y => none)))
def m_law (script : Scr) : Option Bool :=
  (Option.bind (rngO 0 (5 : Int)) fun t2 => (Option.bind (forL (ρ := Bool) (S := Unit) (fun (x5 : Int) (s1 : Unit) => (Option.bind (m_law_small_right x5) fun t6 => cond (!t6) (some (Ctl.rt false)) (some (Ctl.nx ())))) t2 ()) fun c3 => aft c3 (fun (s1 : Unit) => (Option.bind (m_law_lists (6 : Int) (1 : Int) (3 : Int)) fun t10 => (Option.bind (forL (ρ := Bool) (S := Unit) (fun (x13 : (List Int)) (s9 : Unit) => (Option.bind (m_is_times (PyData.list (List.map PyData.int x13))) fun t15 => (Option.bind (m_law_is_times x13) fun t16 => cond (!eqs t15 t16) (some (Ctl.rt false)) (some (Ctl.nx ()))))) t10 ()) fun c11 => aft c11 (fun (s9 : Unit) => (Option.bind (rngO 0 (max (1 : Int) (min (6 : Int) ((script).l.length : Int)))) fun t20 => (Option.bind (forL (ρ := Bool) (S := Unit) (fun (x23 : Int) (s19 : Unit) => (Option.bind (m_law_pot script x23) fun t24 => (Option.bind (rngO 0 (3 : Int)) fun t27 => (Option.bind (forL (ρ := Bool) (S := ((List Int))) (fun (x30 : Int) (s26 : ((List Int))) => (Option.bind (ix ([(9 : Int), (30 : Int), (60 : Int)] : (List Int)) x30) fun t31 => (Option.bind (m_law_tall s26 t31) fun t33 => (Option.bind (reprO t33.1) fun t35 => (Option.bind (m_is_times (PyData.list (List.map PyData.int t33.1))) fun t37 => (Option.bind (cond (!decide (t37 = true)) (some true) (Option.bind (reprO t33.1) fun t38 => some ((!eqs t38 t35)))) fun t39 => cond t39 (some (Ctl.rt false)) ((Option.bind (rngO 0 (12 : Int)) fun t44 => (Option.bind (forL (ρ := Bool) (S := ((List Int))) (fun (x47 : Int) (s43 : ((List Int))) => (Option.bind (m_law_take s43 ((((cut t33.1 none (some (59 : Int)))).length : Int) + (1 : Int))) fun t49 => (Option.bind (catO (cut t33.1 none (some (59 : Int))) ([(0 : Int)] : (List Int))) fun t52 => (Option.bind (maxO t52) fun t53 => (Option.bind (m_law_take t49.2 (t53 + (2 : Int))) fun t55 => (Option.bind (catO (cut (cut t33.1 none (some (59 : Int))) none (some t49.1)) ([((1 : Int) + t55.1)] : (List Int))) fun t58 => (Option.bind (catO t58 (cut (cut t33.1 none (some (59 : Int))) (some (t49.1 + (1 : Int))) none)) fun t59 => (Option.bind (catO (cut (cut t33.1 none (some (59 : Int))) none (some t49.1)) ([((1 : Int) + t55.1)] : (List Int))) fun t60 => (Option.bind (catO t60 (cut (cut t33.1 none (some (59 : Int))) (some t49.1) none)) fun t61 => (Option.bind (catO (cut (cut t33.1 none (some (59 : Int))) none (some t49.1)) (cut (cut t33.1 none (some (59 : Int))) (some (t49.1 + (1 : Int))) none)) fun t64 => (Option.bind (catO ([t59, t61] : (List (List Int))) ([t64] : (List (List Int)))) fun t65 => (Option.bind (forL (ρ := Bool) (S := Unit) (fun (x68 : (List Int)) (s63 : Unit) => (Option.bind (m_is_times (PyData.list (List.map PyData.int x68))) fun t70 => (Option.bind (m_law_is_times x68) fun t71 => cond (!eqs (reprB t70) (reprB t71)) (some (Ctl.rt false)) (some (Ctl.nx ()))))) t65 ()) fun c66 => aft c66 (fun (s63 : Unit) => some (Ctl.nx t55.2)) (fun y => some (Ctl.rt y)))))))))))))) t44 t33.2) fun c45 => aft c45 (fun (s43 : ((List Int))) => (Option.bind (ix ([(2 : Int), (3 : Int), (9 : Int)] : (List Int)) x30) fun t74 => (Option.bind (m_law_take s43 (61 : Int)) fun t77 => (Option.bind (rngO 0 t77.1) fun t79 => (Option.bind (lcM (fun (x80 : Int) (pt : (List Int)) => (Option.bind (m_law_take pt t74) fun t83 => some (((1 : Int) + t83.1), t83.2))) t79 t77.2) fun t86 => (Option.bind (m_is_times (PyData.list (List.map PyData.int t86.1))) fun t88 => (Option.bind (m_law_is_times t86.1) fun t89 => cond (!eqs t88 t89) (some (Ctl.rt false)) ((Option.bind (forL (ρ := Bool) (S := ((List Int))) (fun (x96 : PyData) (s92 : ((List Int))) => (Option.bind (m_law_take s92 ((((cut t33.1 none (some (59 : Int)))).length : Int) + (1 : Int))) fun t99 => (Option.bind (catO (List.map PyData.int (cut (cut t33.1 none (some (59 : Int))) none (some t99.1))) ([x96] : (List PyData))) fun t101 => (Option.bind (catO t101 (List.map PyData.int (cut (cut t33.1 none (some (59 : Int))) (some t99.1) none))) fun t102 => (Option.bind (m_is_times (PyData.list t102)) fun t103 => (Option.bind (cond t103 (some true) (Option.bind (m_is_times (PyData.tuple (List.map PyData.int (cut t33.1 none (some (59 : Int)))))) fun t104 => some (t104))) fun t105 => cond t105 (some (Ctl.rt false)) ((Option.bind (m_is_times x96) fun t108 => (Option.bind (eqLD x96 ([(1 : Int)] : (List Int))) fun t109 => cond (!eqs t108 t109) (some (Ctl.rt false)) (some (Ctl.nx t99.2))))))))))) ([PyData.none, (PyData.bool true), (PyData.int (0 : Int)), (PyData.int (-1 : Int)), (PyData.str ("1" : Str)), (PyData.tuple [(PyData.int (1 : Int))]), (PyData.list ([(PyData.int (1 : Int))] : (List PyData))), (PyData.int (1000000000000000000000000000000 : Int)), (PyData.dict [])] : (List PyData)) t86.2) fun c94 => aft c94 (fun (s92 : ((List Int))) => some (Ctl.nx s92)) (fun y => some (Ctl.rt y))))))))))) (fun y => some (Ctl.rt y))))))))))) t27 t24) fun c28 => aft c28 (fun (s26 : ((List Int))) => some (Ctl.nx ())) (fun y => some (Ctl.rt y)))))) t20 ()) fun c21 => aft c21 (fun (s19 : Unit) => (Option.bind (m_is_times (PyData.list ([] : (List PyData)))) fun t112 => (Option.bind (cond t112 (Option.bind (m_is_times (PyData.list ([(PyData.int (2 : Int)), (PyData.int (1 : Int)), (PyData.int (2 : Int))] : (List PyData)))) fun t113 => (Option.bind (cond t113 (Option.bind (m_is_times (PyData.list ([(PyData.int (1 : Int)), (PyData.int (2 : Int)), (PyData.int (2 : Int))] : (List PyData)))) fun t114 => (Option.bind (cond (!t114) (Option.bind (m_is_times (PyData.str ("" : Str))) fun t115 => some ((!t115))) (some false)) fun t116 => some (t116))) (some false)) fun t117 => some (t117))) (some false)) fun t118 => some t118))) (fun y => some y)))) (fun y => some y)))) (fun y => some y)))
/-! ### the defs keep them -/
section
variable {P : Program} {w : World} {K : PySem.W.Frag} {mg : Str → Option Value} {base : Heap}
theorem ok_is_an_integer {f : Addr} {fd : FuncData} (F : Fun K "is_an_integer" "is_an_integer" s_is_an_integer f fd) (z_isinstance : mg "isinstance" = none) (z_int : mg "int" = none) (z_bool : mg "bool" = none) :
    FnG P w K mg base CX0 1 f fd ["value"] ((spV (fun (w : PyData × Unit) => m_is_an_integer w.1)) K) := by
  refine defG F sc_is_an_integer (lenV rfl) (fun cdv A outer s H0 vs Q E hG hr hsp => ?_)
  obtain ⟨G0, wz, r, g0, ra, h, q0⟩ := hsp
  obtain ⟨value, ⟨⟩⟩ := wz
  obtain ⟨v_value, _, rfl, f_value, rfl⟩ := ra
  have R : Rc [] H0 G0 H0 G0 := Rc.refl g0
  replace h : m_is_an_integer value = some r := h
  unfold m_is_an_integer at h
  clear g0
  refine wb_cons (ws_ret ?_)
  refine EvX.go (ev_andP (ev_isiD (N := "int") (kitD _ (by first | exact Or.inl rfl | exact Or.inr (Or.inl rfl) | exact Or.inr (Or.inr rfl))) z_isinstance z_int (by decide +kernel) (ev_var (i := 0) rfl f_value)) (ev_one (ev_not (ev_isiD (N := "bool") (kitD _ (by first | exact Or.inl rfl | exact Or.inr (Or.inl rfl) | exact Or.inr (Or.inr rfl))) z_isinstance z_bool (by decide +kernel) (ev_var (i := 0) rfl f_value))))) R.sub (fun v_q1 H G S f_q1 => ?_)
  replace R := R.then S; replace f_value := Rep.mono S.ex f_value
  obtain rfl : v_q1 = V.bl (((isD "int" value) && (!(isD "bool" value)))) := f_q1
  obtain rfl := Option.some.inj h
  exact q0 _ _ _ R rfl
theorem ok_is_row {f : Addr} {fd : FuncData} (F : Fun K "is_row" "is_row" s_is_row f fd) (c_is_an_integer : Cal P w K mg base "is_an_integer" 1 ["value"] ((spV (fun (w : PyData × Unit) => m_is_an_integer w.1)) K)) (z_isinstance : mg "isinstance" = none) (z_list : mg "list" = none) (z_all : mg "all" = none) :
    FnG P w K mg base CX0 2 f fd ["value"] ((spV (fun (w : PyData × Unit) => m_is_row w.1)) K) := by
  refine defG F sc_is_row (lenV rfl) (fun cdv A outer s H0 vs Q E hG hr hsp => ?_)
  obtain ⟨G0, wz, r, g0, ra, h, q0⟩ := hsp
  obtain ⟨value, ⟨⟩⟩ := wz
  obtain ⟨v_value, _, rfl, f_value, rfl⟩ := ra
  have R : Rc [] H0 G0 H0 G0 := Rc.refl g0
  replace h : m_is_row value = some r := h
  unfold m_is_row at h
  clear g0
  refine wb_cons (ws_ret ?_)
  obtain ⟨t6, h_t6, h⟩ := bind_some h
  refine EvX.go (ev_and (t := (isD "list" value)) (ev_isiD (N := "list") (kitD _ (by first | exact Or.inl rfl | exact Or.inr (Or.inl rfl) | exact Or.inr (Or.inr rfl))) z_isinstance z_list (by decide +kernel) (ev_var (i := 0) rfl f_value)) (fun ha => by have hh := cond_t ha h_t6; obtain ⟨t1, h_t1, hh⟩ := bind_some hh; obtain ⟨t5, h_t5, hh⟩ := bind_some hh; obtain rfl := Option.some.inj hh; exact (ev_one (ev_all rfl z_all (EvN.val (ev_lc (own := [("item", 1)]) (g := (gName 1)) rfl sc_is_row.nd (blkOk_by (own := [("item", 1)]) (N := ["value", "item"]) (sc := defScope s_is_row) (by decide +kernel)) (ei_list (ev_asLst h_t1 (ev_var (i := 0) rfl f_value))) (fun _ _ _ _ _ => (pg_name (i := 1) sc_is_row.nd rfl (by first | exact Or.inl rfl | exact Or.inr rfl))) h_t5 (by rintro x G u ⟨_, _, rfl⟩; rfl) (fun sh Hh C cl fp x2 b u Hc Gc S ru hb => by obtain rfl := Option.some.inj hb; exact ets_nil) (fun sh Hh C cl fp x2 y u Hc Gc S ru hb hy => by obtain ⟨v3, f_item, rfl⟩ := ru; obtain ⟨t4, h_t4, hy⟩ := bind_some hy; obtain rfl := Option.some.inj hy; exact (ec_V (w := (x2, ())) c_is_an_integer hG hr (by decide) h_t4 (ea_cons (ev_var (i := 1) rfl f_item) ea_nil)))))))) (fun ha => (Option.some.inj (cond_f ha h_t6)).symm)) R.sub (fun v_q7 H G S f_q7 => ?_)
  replace R := R.then S; replace f_value := Rep.mono S.ex f_value
  obtain rfl : v_q7 = V.bl (t6) := f_q7
  obtain rfl := Option.some.inj h
  exact q0 _ _ _ R rfl
theorem ok_rounds_of {f : Addr} {fd : FuncData} (F : Fun K "rounds_of" "rounds_of" s_rounds_of f fd) (z_min : mg "min" = none) (z_len : mg "len" = none) (z_enumerate : mg "enumerate" = none) (z_max : mg "max" = none) :
    FnG P w K mg base CX0 1 f fd ["row"] ((spN (fun (w : (List Int) × Unit) => m_rounds_of w.1)) K) := by
  refine defG F sc_rounds_of (lenN rfl) (fun cdv A outer s H0 vs Q E hG hr hsp => ?_)
  obtain ⟨G0, wz, r, g0, ra, h, q0⟩ := hsp
  obtain ⟨row, ⟨⟩⟩ := wz
  obtain ⟨v_row, _, rfl, f_row, rfl⟩ := ra
  have R : Rc [] H0 G0 H0 G0 := Rc.refl g0
  replace h : m_rounds_of row = some r := h
  unfold m_rounds_of at h
  clear g0
  refine wb_cons (ws_set (i := 1) sc_rounds_of.nd ?_)
  obtain ⟨t1, h_t1, h⟩ := bind_some h
  refine EvN.go (ev_cat h_t1 (ev_var (i := 0) rfl f_row) (EvN.val (ev_lst (α := Int) (el_cons (ev_sub (ev_minD rfl hr.units z_min (ev_var (i := 0) rfl f_row) (ev_int (i := 0))) (ev_int (i := 1))) el_nil) (by show 1 ≤ 100000; decide)))) R.sub (fun p_q2 H G S n_q2 w_q2 => ?_)
  replace n_q2 := R.back n_q2
  replace R := R.then S; replace f_row := Rep.mono S.ex f_row
  obtain ⟨vs_q2, hp_q2, np_q2, rp_q2⟩ := w_q2
  replace R := R.freeze n_q2 np_q2 hp_q2; replace f_row := Rep.mono (Ex.new (o := .lst vs_q2) np_q2) f_row; have f_q2 := lend1 np_q2 rp_q2
  have f_entries := f_q2
  refine wb_cons (ws_set (i := 2) sc_rounds_of.nd ?_)
  obtain ⟨t3, h_t3, h⟩ := bind_some h
  refine EvN.go (ev_rep h_t3 (EvN.val (ev_lst (α := Int) (el_cons (ev_int (i := 0)) el_nil) (by show 1 ≤ 100000; decide))) (ev_len z_len (ev_var (i := 1) rfl f_entries))) R.sub (fun p_q4 H G S n_q4 w_q4 => ?_)
  replace n_q4 := R.back n_q4
  replace R := R.then S; replace f_row := Rep.mono S.ex f_row; replace f_entries := Rep.mono S.ex f_entries
  have w_rounds := w_q4; have n_rounds := n_q4
  refine wb_cons (ws_set (i := 3) sc_rounds_of.nd ?_)
  refine EvN.go (ev_lst (α := Int) el_nil (by show 0 ≤ 100000; decide)) R.sub (fun p_q5 H G S n_q5 w_q5 => ?_)
  have ne_rounds_q5 := w_rounds.ne n_q5; replace n_q5 := R.back n_q5
  replace R := R.then S; replace f_row := Rep.mono S.ex f_row; replace f_entries := Rep.mono S.ex f_entries; replace w_rounds := w_rounds.step0 S
  have w_waiting := w_q5; have n_waiting := n_q5; have ne_rounds_waiting := ne_rounds_q5
  obtain ⟨c7, h_c7, h⟩ := bind_some h
  refine wb_cons (ws_for (g := (gTup _ 2 (gCons (gName 4) (gCons (gName 5) gNil)))) PassesOwn.never rfl (ei_enum z_enumerate (ev_var (i := 1) rfl f_entries)) R.sub (pg_tup rfl (pgs_cons (pg_name (i := 4) sc_rounds_of.nd rfl (by first | exact Or.inl rfl | exact Or.inr rfl)) (pgs_cons (pg_name (i := 5) sc_rounds_of.nd rfl (by first | exact Or.inl rfl | exact Or.inr rfl)) pgs_nil))) h_c7 (fun Gs8 s6 σ H G => ∃ (o_ended : Option V) (o_entry : Option V) (o_greatest : Option V) (o_place : Option V) (p_rounds : Addr) (p_waiting : Addr), σ = [some (v_row), some ((V.ref p_q2)), some (V.ref p_rounds), some (V.ref p_waiting), o_place, o_entry, o_greatest, o_ended] ∧ Rc [] H0 G0 H G ∧ Ex Gs8 G ∧ Rep.rel K G v_row row ∧ Rep.rel K G (V.ref p_q2) t1 ∧ Own K H G p_rounds (s6.1 : (List Int)) ∧ H0 p_rounds = none ∧ Own K H G p_waiting (s6.2 : (List Int)) ∧ H0 p_waiting = none ∧ p_rounds ≠ p_waiting) (fun (_ : Unit) (_ : V) (_ : Hp) => False) ?_ ?_ ?_ ?_ ?_)
  · intro H G S
    replace R := R.then S; replace f_row := Rep.mono S.ex f_row; replace f_entries := Rep.mono S.ex f_entries; replace w_rounds := w_rounds.step0 S; replace w_waiting := w_waiting.step0 S
    exact ⟨_, _, _, _, _, _, rfl, R, Ex.refl _, f_row, f_entries, w_rounds, n_rounds, w_waiting, n_waiting, ne_rounds_waiting⟩
  · intro Gs8 s6 σ H G hI
    obtain ⟨o_ended, o_entry, o_greatest, o_place, p_rounds, p_waiting, rfl, R, xGs8, f_row, f_entries, w_rounds, n_rounds, w_waiting, n_waiting, ne_rounds_waiting⟩ := hI
    exact ⟨xGs8, R.sub⟩
  · intro Gs8 s6 σ Hb Gb x9 c' u H G h hI S hu
    obtain ⟨o_ended, o_entry, o_greatest, o_place, p_rounds, p_waiting, rfl, R, xGs8, f_row, f_entries, w_rounds, n_rounds, w_waiting, n_waiting, ne_rounds_waiting⟩ := hI
    replace R := R.then S; replace f_row := Rep.mono S.ex f_row; replace f_entries := Rep.mono S.ex f_entries; replace w_rounds := w_rounds.step0 S; replace w_waiting := w_waiting.step0 S; replace xGs8 := xGs8.trans S.ex
    obtain ⟨_, _, rfl, rfl, rfl⟩ := hu
    refine wb_cons (ws_set (i := 6) sc_rounds_of.nd ?_)
    refine EvX.go (ev_int (i := 0)) R.sub (fun v_q10 H G S f_q10 => ?_)
    replace R := R.then S; replace f_row := Rep.mono S.ex f_row; replace f_entries := Rep.mono S.ex f_entries; replace w_rounds := w_rounds.step0 S; replace w_waiting := w_waiting.step0 S; replace xGs8 := xGs8.trans S.ex
    obtain rfl : v_q10 = V.int ((0 : Int)) := f_q10
    obtain ⟨c12, h_c12, h⟩ := bind_some h
    refine wb_cons (ws_while PassesOwn.never h_c12 (fun s11 σ H G => ∃ (o_ended : Option V) (p_rounds : Addr) (p_waiting : Addr), σ = [some (v_row), some ((V.ref p_q2)), some (V.ref p_rounds), some (V.ref p_waiting), some (V.int (x9.1)), some (V.int (x9.2)), some (V.int (s11.1)), o_ended] ∧ Rc [] H0 G0 H G ∧ Ex Gs8 G ∧ Rep.rel K G v_row row ∧ Rep.rel K G (V.ref p_q2) t1 ∧ Own K H G p_rounds (s11.2.1 : (List Int)) ∧ H0 p_rounds = none ∧ Own K H G p_waiting (s11.2.2 : (List Int)) ∧ H0 p_waiting = none ∧ p_rounds ≠ p_waiting) (fun (_ : Unit) (_ : V) (_ : Hp) => False) ⟨_, _, _, rfl, R, xGs8, f_row, f_entries, w_rounds, n_rounds, w_waiting, n_waiting, ne_rounds_waiting⟩ ?_ ?_ ?_ ?_ ?_)
    · intro s11 σ H G b h hI
      obtain ⟨o_ended, p_rounds, p_waiting, rfl, R, xGs8, f_row, f_entries, w_rounds, n_rounds, w_waiting, n_waiting, ne_rounds_waiting⟩ := hI
      obtain ⟨t29, h_t29, h⟩ := bind_some h
      obtain rfl := Option.some.inj h
      refine EvT.go (by obtain ⟨vs_waiting, hp_waiting, np_waiting, rp_waiting⟩ := w_waiting; refine EvT.lend hp_waiting np_waiting ?_; have f_entries := Rep.mono (Ex.new (o := .lst vs_waiting) np_waiting) f_entries; have l_waiting := lend1 np_waiting rp_waiting; exact (et_w (ew_and (t := (!s11.2.2.isEmpty)) (et_list (ev_var (i := 3) rfl l_waiting)) (fun ha => by have hh := cond_t ha h_t29; obtain ⟨t27, h_t27, hh⟩ := bind_some hh; obtain ⟨t28, h_t28, hh⟩ := bind_some hh; obtain rfl := Option.some.inj hh; exact (ew_and1 (et_gt (ev_ix h_t28 (ev_var (i := 1) rfl f_entries) (ev_ix h_t27 (ev_var (i := 3) rfl l_waiting) (EvX.is (x' := (-1 : Int)) (ev_neg (ev_int (i := 1))) (by decide)))) (ev_var (i := 5) (x := (x9.2 : Int)) rfl rfl)))) (fun ha => (Option.some.inj (cond_f ha h_t29)).symm)))) R.sub (fun H G S => ⟨rfl, G, S⟩)
    · intro s11 σ Ha Ga H G hI S
      obtain ⟨o_ended, p_rounds, p_waiting, rfl, R, xGs8, f_row, f_entries, w_rounds, n_rounds, w_waiting, n_waiting, ne_rounds_waiting⟩ := hI
      replace R := R.then S; replace f_row := Rep.mono S.ex f_row; replace f_entries := Rep.mono S.ex f_entries; replace w_rounds := w_rounds.step0 S; replace w_waiting := w_waiting.step0 S; replace xGs8 := xGs8.trans S.ex
      exact ⟨_, _, _, rfl, R, xGs8, f_row, f_entries, w_rounds, n_rounds, w_waiting, n_waiting, ne_rounds_waiting⟩
    · intro s11 σ H G c' _ h hI
      obtain ⟨o_ended, p_rounds, p_waiting, rfl, R, xGs8, f_row, f_entries, w_rounds, n_rounds, w_waiting, n_waiting, ne_rounds_waiting⟩ := hI
      obtain ⟨t15, h_t15, h⟩ := bind_some h
      refine wb_cons (ws_setpop (i := 3) (j := 7) sc_rounds_of.nd rfl R.sub w_waiting h_t15 (fun v_ended H G KK S w_waiting' f_ended => ?_))
      have R := KK _ _ _ R (.inl n_waiting)
      replace f_row := Rep.mono S.ex f_row; replace f_entries := Rep.mono S.ex f_entries; replace w_rounds := w_rounds.step S (ne_sing (ne_rounds_waiting)); replace xGs8 := xGs8.trans S.ex
      replace w_waiting := w_waiting'
      obtain rfl : v_ended = V.int (t15.1) := f_ended
      refine wb_cons (ws_set (i := 6) sc_rounds_of.nd ?_)
      obtain ⟨t16, h_t16, h⟩ := bind_some h
      refine EvX.go (by obtain ⟨vs_rounds, hp_rounds, np_rounds, rp_rounds⟩ := w_rounds; refine EvX.lend (γ := Int) hp_rounds np_rounds ?_; have l_rounds := lend1 np_rounds rp_rounds; exact (ev_max2 rfl z_max (ev_var (i := 6) (x := (s11.1 : Int)) rfl rfl) (ev_ix h_t16 (ev_var (i := 2) rfl l_rounds) (ev_var (i := 7) (x := (t15.1 : Int)) rfl rfl)))) R.sub (fun v_q17 H G S f_q17 => ?_)
      replace R := R.then S; replace f_row := Rep.mono S.ex f_row; replace f_entries := Rep.mono S.ex f_entries; replace w_rounds := w_rounds.step0 S; replace w_waiting := w_waiting.step0 S; replace xGs8 := xGs8.trans S.ex
      obtain rfl : v_q17 = V.int ((max s11.1 t16)) := f_q17
      refine wb_cons (ws_if ?_)
      obtain ⟨t21, h_t21, h⟩ := bind_some h
      refine EvT.go (by obtain ⟨vs_waiting, hp_waiting, np_waiting, rp_waiting⟩ := w_waiting; refine EvT.lend hp_waiting np_waiting ?_; have f_entries := Rep.mono (Ex.new (o := .lst vs_waiting) np_waiting) f_entries; have l_waiting := lend1 np_waiting rp_waiting; exact (et_w (ew_and (t := (!t15.2.isEmpty)) (et_list (ev_var (i := 3) rfl l_waiting)) (fun ha => by have hh := cond_t ha h_t21; obtain ⟨t18, h_t18, hh⟩ := bind_some hh; obtain ⟨t19, h_t19, hh⟩ := bind_some hh; obtain ⟨t20, h_t20, hh⟩ := bind_some hh; obtain rfl := Option.some.inj hh; exact (ew_and1 (et_lt (ev_ix h_t19 (ev_var (i := 1) rfl f_entries) (ev_ix h_t18 (ev_var (i := 3) rfl l_waiting) (EvX.is (x' := (-1 : Int)) (ev_neg (ev_int (i := 1))) (by decide)))) (ev_ix h_t20 (ev_var (i := 1) rfl f_entries) (ev_var (i := 7) (x := (t15.1 : Int)) rfl rfl))))) (fun ha => (Option.some.inj (cond_f ha h_t21)).symm)))) R.sub (fun H G S => ?_)
      replace R := R.then S; replace f_row := Rep.mono S.ex f_row; replace f_entries := Rep.mono S.ex f_entries; replace w_rounds := w_rounds.step0 S; replace w_waiting := w_waiting.step0 S; replace xGs8 := xGs8.trans S.ex
      rcases cond_some h with ⟨hb, h⟩ | ⟨hb, h⟩
      · refine if_t hb ?_
        obtain ⟨t23, h_t23, h⟩ := bind_some h
        obtain ⟨t24, h_t24, h⟩ := bind_some h
        obtain ⟨t25, h_t25, h⟩ := bind_some h
        obtain ⟨t26, h_t26, h⟩ := bind_some h
        refine wb_cons (ws_setix (i := 2) rfl R.sub w_rounds h_t26 (by obtain ⟨vs_rounds, hp_rounds, np_rounds, rp_rounds⟩ := w_rounds; obtain ⟨vs_waiting, hp_waiting, np_waiting, rp_waiting⟩ := w_waiting; have nq_waiting : (upd G p_rounds (.lst vs_rounds)) p_waiting = none := ((upd_ne (ne_rounds_waiting.symm)).trans np_waiting); refine EvX.lend (γ := Int) hp_rounds np_rounds ?_; refine EvX.lend (γ := Int) hp_waiting nq_waiting ?_; have l_rounds := Rep.mono (Ex.new (o := .lst vs_waiting) nq_waiting) (lend1 np_rounds rp_rounds); have l_waiting := lend1 nq_waiting (Rels.mono (Ex.new (o := .lst vs_rounds) np_rounds) rp_waiting); exact (ev_max2 rfl z_max (ev_ix h_t24 (ev_var (i := 2) rfl l_rounds) (ev_ix h_t23 (ev_var (i := 3) rfl l_waiting) (EvX.is (x' := (-1 : Int)) (ev_neg (ev_int (i := 1))) (by decide)))) (ev_add (ev_var (i := 6) (x := ((max s11.1 t16) : Int)) rfl rfl) (ev_int (i := 1))))) (by obtain ⟨vs_waiting, hp_waiting, np_waiting, rp_waiting⟩ := w_waiting; refine EvX.lend (γ := Int) hp_waiting np_waiting ?_; have l_waiting := lend1 np_waiting rp_waiting; exact (ev_ix h_t25 (ev_var (i := 3) rfl l_waiting) (EvX.is (x' := (-1 : Int)) (ev_neg (ev_int (i := 1))) (by decide)))) (fun H G KK S w_rounds' => ?_))
        have R := KK _ _ _ R (.inl n_rounds)
        replace f_row := Rep.mono S.ex f_row; replace f_entries := Rep.mono S.ex f_entries; replace w_waiting := w_waiting.step S (ne_sing (ne_rounds_waiting.symm)); replace xGs8 := xGs8.trans S.ex
        replace w_rounds := w_rounds'
        refine wb_nil ?_
        refine wb_nil ?_
        exact ⟨_, _, (Option.some.inj h).symm, ⟨_, _, _, rfl, R, xGs8, f_row, f_entries, w_rounds, n_rounds, w_waiting, n_waiting, ne_rounds_waiting⟩⟩
      · refine if_f hb ?_
        refine wb_nil ?_
        refine wb_nil ?_
        exact ⟨_, _, (Option.some.inj h).symm, ⟨_, _, _, rfl, R, xGs8, f_row, f_entries, w_rounds, n_rounds, w_waiting, n_waiting, ne_rounds_waiting⟩⟩
    · intro s11 σ H G ec hI
      have h := aft_nx ec h
      obtain ⟨o_ended, p_rounds, p_waiting, rfl, R, xGs8, f_row, f_entries, w_rounds, n_rounds, w_waiting, n_waiting, ne_rounds_waiting⟩ := hI
      obtain ⟨t30, h_t30, h⟩ := bind_some h
      refine wb_cons (ws_setix (i := 2) rfl R.sub w_rounds h_t30 (ev_add (ev_var (i := 6) (x := (s11.1 : Int)) rfl rfl) (ev_int (i := 1))) (ev_var (i := 4) (x := (x9.1 : Int)) rfl rfl) (fun H G KK S w_rounds' => ?_))
      have R := KK _ _ _ R (.inl n_rounds)
      replace f_row := Rep.mono S.ex f_row; replace f_entries := Rep.mono S.ex f_entries; replace w_waiting := w_waiting.step S (ne_sing (ne_rounds_waiting.symm)); replace xGs8 := xGs8.trans S.ex
      replace w_rounds := w_rounds'
      obtain ⟨t31, h_t31, h⟩ := bind_some h
      refine wb_cons (ws_app (i := 3) rfl R.sub w_waiting h_t31 (ev_var (i := 4) (x := (x9.1 : Int)) rfl rfl) (fun H G KK S w_waiting' => ?_))
      have R := KK _ _ _ R (.inl n_waiting)
      replace f_row := Rep.mono S.ex f_row; replace f_entries := Rep.mono S.ex f_entries; replace w_rounds := w_rounds.step S (ne_sing (ne_rounds_waiting)); replace xGs8 := xGs8.trans S.ex
      replace w_waiting := w_waiting'
      refine wb_nil ?_
      exact ⟨_, _, (Option.some.inj h).symm, ⟨_, _, _, _, _, _, rfl, R, xGs8, f_row, f_entries, w_rounds, n_rounds, w_waiting, n_waiting, ne_rounds_waiting⟩⟩
    · intro y v H ec hrt
      exact hrt.elim
  · intro Gs8 s6 σ H G ec hI
    have h := aft_nx ec h
    obtain ⟨o_ended, o_entry, o_greatest, o_place, p_rounds, p_waiting, rfl, R, xGs8, f_row, f_entries, w_rounds, n_rounds, w_waiting, n_waiting, ne_rounds_waiting⟩ := hI
    refine wb_cons (ws_ret ?_)
    refine EvN.go (by obtain ⟨vs_rounds, hp_rounds, np_rounds, rp_rounds⟩ := w_rounds; refine EvN.lend (γ := Int) hp_rounds np_rounds ?_; have l_rounds := lend1 np_rounds rp_rounds; exact (ev_slice (ev_var (i := 2) rfl l_rounds) eo_none (eo_some (EvX.is (x' := (-1 : Int)) (ev_neg (ev_int (i := 1))) (by decide))))) R.sub (fun p_q32 H G S n_q32 w_q32 => ?_)
    have ne_rounds_q32 := w_rounds.ne n_q32; have ne_waiting_q32 := w_waiting.ne n_q32; replace n_q32 := R.back n_q32
    replace R := R.then S; replace f_row := Rep.mono S.ex f_row; replace f_entries := Rep.mono S.ex f_entries; replace w_rounds := w_rounds.step0 S; replace w_waiting := w_waiting.step0 S
    obtain rfl := Option.some.inj h
    exact q0 _ _ _ R n_q32 w_q32
  · intro y v H ec hrt
    exact hrt.elim
theorem ok_is_times {f : Addr} {fd : FuncData} (F : Fun K "is_times" "is_times" s_is_times f fd) (c_is_row : Cal P w K mg base "is_row" 2 ["value"] ((spV (fun (w : PyData × Unit) => m_is_row w.1)) K)) (c_rounds_of : Cal P w K mg base "rounds_of" 1 ["row"] ((spN (fun (w : (List Int) × Unit) => m_rounds_of w.1)) K)) :
    FnG P w K mg base CX0 3 f fd ["value"] ((spV (fun (w : PyData × Unit) => m_is_times w.1)) K) := by
  refine defG F sc_is_times (lenV rfl) (fun cdv A outer s H0 vs Q E hG hr hsp => ?_)
  obtain ⟨G0, wz, r, g0, ra, h, q0⟩ := hsp
  obtain ⟨value, ⟨⟩⟩ := wz
  obtain ⟨v_value, _, rfl, f_value, rfl⟩ := ra
  have R : Rc [] H0 G0 H0 G0 := Rc.refl g0
  replace h : m_is_times value = some r := h
  unfold m_is_times at h
  clear g0
  refine wb_cons (ws_ret ?_)
  obtain ⟨t1, h_t1, h⟩ := bind_some h
  obtain ⟨t7, h_t7, h⟩ := bind_some h
  refine EvX.go (ev_and (t := t1) (ec_V (w := (value, ())) c_is_row hG hr (by decide) h_t1 (ea_cons (ev_var (i := 0) rfl f_value) ea_nil)) (fun ha => by have hh := cond_t ha h_t7; obtain ⟨t2, h_t2, hh⟩ := bind_some hh; obtain ⟨t4, h_t4, hh⟩ := bind_some hh; obtain ⟨t5, h_t5, hh⟩ := bind_some hh; obtain ⟨t6, h_t6, hh⟩ := bind_some hh; obtain rfl := Option.some.inj hh; exact (ev_one (ev_eq' (α := (List Int)) hr.units (EvN.val (ec_N (w := (t4, ())) c_rounds_of hG hr (by decide) h_t5 (ea_cons (EvN.val (ev_lc (own := [("item", 1)]) (g := (gName 1)) rfl sc_is_times.nd (blkOk_by (own := [("item", 1)]) (N := ["value", "item"]) (sc := defScope s_is_times) (by decide +kernel)) (ei_list (ev_asInts h_t2 (ev_var (i := 0) rfl f_value))) (fun _ _ _ _ _ => (pg_name (i := 1) sc_is_times.nd rfl (by first | exact Or.inl rfl | exact Or.inr rfl))) h_t4 (by rintro x G u ⟨_, _, rfl⟩; rfl) (fun sh Hh C cl fp x3 b u Hc Gc S ru hb => by obtain rfl := Option.some.inj hb; exact ets_nil) (fun sh Hh C cl fp x3 y u Hc Gc S ru hb hy => by obtain ⟨_, rfl, rfl⟩ := ru; obtain rfl := Option.some.inj hy; exact (ev_neg (ev_var (i := 1) (x := (x3 : Int)) rfl rfl))))) ea_nil))) (ev_asInts h_t6 (ev_var (i := 0) rfl f_value))))) (fun ha => (Option.some.inj (cond_f ha h_t7)).symm)) R.sub (fun v_q8 H G S f_q8 => ?_)
  replace R := R.then S; replace f_value := Rep.mono S.ex f_value
  obtain rfl : v_q8 = V.bl (t7) := f_q8
  obtain rfl := Option.some.inj h
  exact q0 _ _ _ R rfl
theorem ok_law_pot {f : Addr} {fd : FuncData} (F : Fun K "_law_pot" "_law_pot" s_law_pot f fd) (z_len : mg "len" = none) (z_max : mg "max" = none) :
    FnG P w K mg base CX0 1 f fd ["script", "k"] ((spN (fun (w : Scr × Int × Unit) => m_law_pot w.1 w.2.1)) K) := by
  refine defG F sc_law_pot (lenN rfl) (fun cdv A outer s H0 vs Q E hG hr hsp => ?_)
  obtain ⟨G0, wz, r, g0, ra, h, q0⟩ := hsp
  obtain ⟨script, k, ⟨⟩⟩ := wz
  obtain ⟨v_script, _, rfl, f_script, _, _, rfl, rfl, rfl⟩ := ra
  have R : Rc [] H0 G0 H0 G0 := Rc.refl g0
  replace h : m_law_pot script k = some r := h
  unfold m_law_pot at h
  clear g0
  refine wb_cons (ws_set (i := 2) sc_law_pot.nd ?_)
  refine EvX.go (ev_int (i := 0)) R.sub (fun v_q1 H G S f_q1 => ?_)
  replace R := R.then S; replace f_script := Rep.mono S.ex f_script
  obtain rfl : v_q1 = V.int ((0 : Int)) := f_q1
  obtain ⟨t2, h_t2, h⟩ := bind_some h
  refine wb_cut (fun σ H => ∃ G, σ = [some (v_script), some (V.int (k)), some (V.int (t2))] ∧ Rc [] H0 G0 H G ∧ Rep.rel K G v_script script) ?_ ?_
  · have h := h_t2
    refine ws_if ?_
    refine EvT.go (et_lt (ev_var (i := 1) (x := (k : Int)) rfl rfl) (ev_lenS z_len (ev_var (i := 0) rfl f_script))) R.sub (fun H G S => ?_)
    replace R := R.then S; replace f_script := Rep.mono S.ex f_script
    rcases cond_some h with ⟨hb, h⟩ | ⟨hb, h⟩
    · refine if_t hb ?_
      refine wb_cons (ws_set (i := 2) sc_law_pot.nd ?_)
      obtain ⟨t4, h_t4, h⟩ := bind_some h
      refine EvX.go (ev_ixS h_t4 (ev_var (i := 0) rfl f_script) (ev_var (i := 1) (x := (k : Int)) rfl rfl)) R.sub (fun v_q5 H G S f_q5 => ?_)
      replace R := R.then S; replace f_script := Rep.mono S.ex f_script
      obtain rfl : v_q5 = V.int (t4) := f_q5
      refine wb_nil ?_
      obtain rfl := Option.some.inj h
      exact ⟨_, ⟨rfl, R, f_script⟩⟩
    · refine if_f hb ?_
      refine wb_nil ?_
      obtain rfl := Option.some.inj h
      exact ⟨_, ⟨rfl, R, f_script⟩⟩
  · intro σ H hM
    obtain ⟨G, rfl, R, f_script⟩ := hM
    refine wb_cons (ws_ret ?_)
    obtain ⟨t6, h_t6, h⟩ := bind_some h
    refine EvN.go (ev_lst (α := Int) (el_cons (ev_max2 rfl z_max (ev_int (i := 0)) (ev_sub (ev_var (i := 2) (x := (t2 : Int)) rfl rfl) (ev_pow (k := 1000000000000000000) (by decide +kernel) (ev_int (i := 10)) (ev_int (i := 18))))) (el_cons (ev_add (ev_mod (modO_c (by decide +kernel)) (ev_var (i := 2) (x := (t2 : Int)) rfl rfl) (EvX.is (x' := (100000000000000000000000000000000000133 : Int)) (ev_add (ev_pow (k := 100000000000000000000000000000000000000) (by decide +kernel) (ev_int (i := 10)) (ev_int (i := 38))) (ev_int (i := 133))) (by decide))) (ev_mul h_t6 (ev_int (i := 999133)) (ev_var (i := 1) (x := (k : Int)) rfl rfl))) (el_cons (ev_int (i := 0)) el_nil))) (by show 3 ≤ 100000; decide)) R.sub (fun p_q7 H G S n_q7 w_q7 => ?_)
    replace n_q7 := R.back n_q7
    replace R := R.then S; replace f_script := Rep.mono S.ex f_script
    obtain rfl := Option.some.inj h
    exact q0 _ _ _ R n_q7 w_q7
theorem ok_law_take {f : Addr} {fd : FuncData} (F : Fun K "_law_take" "_law_take" s_law_take f fd) :
    FnG P w K mg base CX0 1 f fd ["pot", "many"] ((spM (fun (pt : (List Int)) (w : Int × Unit) => m_law_take pt w.1)) K) := by
  refine defG F sc_law_take (lenM rfl) (fun cdv A outer s H0 vs Q E hG hr hsp => ?_)
  obtain ⟨G0, p_pot, us, pot, wz, r, pot', rfl, g0, w_pot, ra, h, q0⟩ := hsp
  obtain ⟨many, ⟨⟩⟩ := wz
  obtain ⟨_, _, rfl, rfl, rfl⟩ := ra
  have R : Rc [p_pot] H0 G0 H0 G0 := Rc.refl g0
  replace h : m_law_take pot many = some (r, pot') := h
  unfold m_law_take at h
  clear g0
  refine wb_cons (ws_if ?_)
  obtain ⟨t1, h_t1, h⟩ := bind_some h
  refine EvT.go (by obtain ⟨vs_pot, hp_pot, np_pot, rp_pot⟩ := w_pot; refine EvT.lend hp_pot np_pot ?_; have l_pot := lend1 np_pot rp_pot; exact (et_gt (ev_ix h_t1 (ev_var (i := 0) rfl l_pot) (ev_int (i := 0))) (ev_int (i := 0)))) R.sub (fun H G S => ?_)
  replace R := R.then S; replace w_pot := w_pot.step0 S
  rcases cond_some h with ⟨hb, h⟩ | ⟨hb, h⟩
  · refine if_t hb ?_
    refine wb_cons (ws_set (i := 2) sc_law_take.nd ?_)
    obtain ⟨t3, h_t3, h⟩ := bind_some h
    obtain ⟨t4, h_t4, h⟩ := bind_some h
    refine EvX.go (by obtain ⟨vs_pot, hp_pot, np_pot, rp_pot⟩ := w_pot; refine EvX.lend (γ := Int) hp_pot np_pot ?_; have l_pot := lend1 np_pot rp_pot; exact (ev_mod h_t4 (ev_ix h_t3 (ev_var (i := 0) rfl l_pot) (ev_int (i := 0))) (ev_var (i := 1) (x := (many : Int)) rfl rfl))) R.sub (fun v_q5 H G S f_q5 => ?_)
    replace R := R.then S; replace w_pot := w_pot.step0 S
    obtain rfl : v_q5 = V.int (t4) := f_q5
    obtain ⟨t6, h_t6, h⟩ := bind_some h
    obtain ⟨t7, h_t7, h⟩ := bind_some h
    obtain ⟨t8, h_t8, h⟩ := bind_some h
    refine wb_cons (ws_setix (i := 0) rfl R.sub w_pot h_t8 (by obtain ⟨vs_pot, hp_pot, np_pot, rp_pot⟩ := w_pot; refine EvX.lend (γ := Int) hp_pot np_pot ?_; have l_pot := lend1 np_pot rp_pot; exact (ev_fdiv h_t7 (ev_ix h_t6 (ev_var (i := 0) rfl l_pot) (ev_int (i := 0))) (ev_var (i := 1) (x := (many : Int)) rfl rfl))) (ev_int (i := 0)) (fun H G KK S w_pot' => ?_))
    have R := KK _ _ _ R (.inr List.mem_cons_self)
    replace w_pot := w_pot'
    refine wb_cons (ws_ret ?_)
    refine EvX.go (ev_var (i := 2) (x := (t4 : Int)) rfl rfl) R.sub (fun v_q9 H G S f_q9 => ?_)
    replace R := R.then S; replace w_pot := w_pot.step0 S
    obtain rfl : v_q9 = V.int (t4) := f_q9
    cases Option.some.inj h
    exact q0 _ _ _ R w_pot rfl
  · refine if_f hb ?_
    refine wb_nil ?_
    obtain ⟨t10, h_t10, h⟩ := bind_some h
    obtain ⟨t11, h_t11, h⟩ := bind_some h
    refine wb_cons (ws_setix (i := 0) rfl R.sub w_pot h_t11 (by obtain ⟨vs_pot, hp_pot, np_pot, rp_pot⟩ := w_pot; refine EvX.lend (γ := Int) hp_pot np_pot ?_; have l_pot := lend1 np_pot rp_pot; exact (ev_add (ev_ix h_t10 (ev_var (i := 0) rfl l_pot) (ev_int (i := 2))) (ev_int (i := 1)))) (ev_int (i := 2)) (fun H G KK S w_pot' => ?_))
    have R := KK _ _ _ R (.inr List.mem_cons_self)
    replace w_pot := w_pot'
    refine wb_cons (ws_set (i := 3) sc_law_take.nd ?_)
    obtain ⟨t12, h_t12, h⟩ := bind_some h
    obtain ⟨t13, h_t13, h⟩ := bind_some h
    obtain ⟨t14, h_t14, h⟩ := bind_some h
    obtain ⟨t15, h_t15, h⟩ := bind_some h
    refine EvX.go (by obtain ⟨vs_pot, hp_pot, np_pot, rp_pot⟩ := w_pot; refine EvX.lend (γ := Int) hp_pot np_pot ?_; have l_pot := lend1 np_pot rp_pot; exact (ev_mod (modO_c (by decide +kernel)) (ev_pow h_t15 (ev_add (ev_ix h_t12 (ev_var (i := 0) rfl l_pot) (ev_int (i := 1))) (ev_mul h_t14 (ev_int (i := 14472334024676221)) (ev_ix h_t13 (ev_var (i := 0) rfl l_pot) (ev_int (i := 2))))) (ev_int (i := 3))) (EvX.is (x' := (100000000000000000000000000000000000000037 : Int)) (ev_add (ev_pow (k := 100000000000000000000000000000000000000000) (by decide +kernel) (ev_int (i := 10)) (ev_int (i := 41))) (ev_int (i := 37))) (by decide)))) R.sub (fun v_q16 H G S f_q16 => ?_)
    replace R := R.then S; replace w_pot := w_pot.step0 S
    obtain rfl : v_q16 = V.int ((t15 % (100000000000000000000000000000000000000037 : Int))) := f_q16
    refine wb_cons (ws_set (i := 3) sc_law_take.nd ?_)
    obtain ⟨t17, h_t17, h⟩ := bind_some h
    obtain ⟨t18, h_t18, h⟩ := bind_some h
    obtain ⟨t19, h_t19, h⟩ := bind_some h
    refine EvX.go (by obtain ⟨vs_pot, hp_pot, np_pot, rp_pot⟩ := w_pot; refine EvX.lend (γ := Int) hp_pot np_pot ?_; have l_pot := lend1 np_pot rp_pot; exact (ev_mod (modO_c (by decide +kernel)) (ev_pow h_t19 (ev_add (ev_var (i := 3) (x := ((t15 % (100000000000000000000000000000000000000037 : Int)) : Int)) rfl rfl) (ev_mul h_t18 (ev_int (i := 14472334024676221)) (ev_ix h_t17 (ev_var (i := 0) rfl l_pot) (ev_int (i := 2))))) (ev_int (i := 3))) (EvX.is (x' := (10000000000000000000000000000000000000121 : Int)) (ev_add (ev_pow (k := 10000000000000000000000000000000000000000) (by decide +kernel) (ev_int (i := 10)) (ev_int (i := 40))) (ev_int (i := 121))) (by decide)))) R.sub (fun v_q20 H G S f_q20 => ?_)
    replace R := R.then S; replace w_pot := w_pot.step0 S
    obtain rfl : v_q20 = V.int ((t19 % (10000000000000000000000000000000000000121 : Int))) := f_q20
    refine wb_cons (ws_ret ?_)
    obtain ⟨t21, h_t21, h⟩ := bind_some h
    refine EvX.go (ev_mod h_t21 (ev_fdiv (fdivO_c (by decide +kernel)) (ev_var (i := 3) (x := ((t19 % (10000000000000000000000000000000000000121 : Int)) : Int)) rfl rfl) (ev_int (i := 1000003))) (ev_var (i := 1) (x := (many : Int)) rfl rfl)) R.sub (fun v_q22 H G S f_q22 => ?_)
    replace R := R.then S; replace w_pot := w_pot.step0 S
    obtain rfl : v_q22 = V.int (t21) := f_q22
    cases Option.some.inj h
    exact q0 _ _ _ R w_pot rfl
theorem ok_law_row {f : Addr} {fd : FuncData} (F : Fun K "_law_row" "_law_row" s_law_row f fd) (c_law_take : Cal P w K mg base "_law_take" 1 ["pot", "many"] ((spM (fun (pt : (List Int)) (w : Int × Unit) => m_law_take pt w.1)) K)) (z_int : mg "int" = none) (z_range : mg "range" = none) :
    FnG P w K mg base CX0 2 f fd ["pot", "most"] ((spMN (fun (pt : (List Int)) (w : Int × Unit) => m_law_row pt w.1)) K) := by
  refine defG F sc_law_row (lenMN rfl) (fun cdv A outer s H0 vs Q E hG hr hsp => ?_)
  obtain ⟨G0, p_pot, us, pot, wz, r, pot', rfl, g0, w_pot, ra, h, q0⟩ := hsp
  obtain ⟨most, ⟨⟩⟩ := wz
  obtain ⟨_, _, rfl, rfl, rfl⟩ := ra
  have R : Rc [p_pot] H0 G0 H0 G0 := Rc.refl g0
  replace h : m_law_row pot most = some (r, pot') := h
  unfold m_law_row at h
  clear g0
  refine wb_cons (ws_par (i := 2) (j := 3) rfl sc_law_row.nd ?_)
  refine wpA_cons ?_
  refine wc c_law_take hG hr (by decide) ?_
  refine wpA_cons (wp_var (i := 0) rfl ?_)
  refine wpA_cons ?_
  refine EvX.go (ev_int (i := 7)) R.sub (fun v_q1 H G S f_q1 => ?_)
  replace R := R.then S; replace w_pot := w_pot.step0 S
  obtain rfl : v_q1 = V.int ((7 : Int)) := f_q1
  refine wpA_nil ?_
  obtain ⟨t2, h_t2, h⟩ := bind_some h
  refine ⟨_, _, _, _, ((7 : Int), ()), _, _, rfl, R.sub, w_pot, ⟨_, _, rfl, rfl, rfl⟩, h_t2, fun v_q3 H G S o f_q3 => ?_⟩
  replace R := R.trans S
  replace w_pot := o
  obtain rfl : v_q3 = V.int (t2.1) := f_q3
  refine wpA_cons ?_
  refine wp_ix ?_
  refine wp_lst ?_
  refine wpA_cons ?_
  refine wc c_law_take hG hr (by decide) ?_
  refine wpA_cons (wp_var (i := 0) rfl ?_)
  refine wpA_cons ?_
  refine EvX.go (ev_add (ev_var (i := 1) (x := (most : Int)) rfl rfl) (ev_int (i := 1))) R.sub (fun v_q4 H G S f_q4 => ?_)
  replace R := R.then S; replace w_pot := w_pot.step0 S
  obtain rfl : v_q4 = V.int ((most + (1 : Int))) := f_q4
  refine wpA_nil ?_
  obtain ⟨t5, h_t5, h⟩ := bind_some h
  refine ⟨_, _, _, _, ((most + (1 : Int)), ()), _, _, rfl, R.sub, w_pot, ⟨_, _, rfl, rfl, rfl⟩, h_t5, fun v_q6 H G S o f_q6 => ?_⟩
  replace R := R.trans S
  replace w_pot := o
  obtain rfl : v_q6 = V.int (t5.1) := f_q6
  refine wpA_cons ?_
  refine EvX.go (ev_var (i := 1) (x := (most : Int)) rfl rfl) R.sub (fun v_q7 H G S f_q7 => ?_)
  replace R := R.then S; replace w_pot := w_pot.step0 S
  obtain rfl : v_q7 = V.int (most) := f_q7
  refine wpA_nil ?_
  refine ⟨by show 2 ≤ sizeLine; decide, fun p_q8 n_q8 => ?_⟩
  have w_q8 : Own K _ _ p_q8 ([t5.1, most] : (List Int)) := Own.mk R.sub n_q8 (.cons (show Rep.rel K _ _ t5.1 from rfl) (.cons (show Rep.rel K _ _ most from rfl) .nil))
  have S := Rc.new (m := []) (o := .lst [V.int (t5.1), V.int (most)]) R.sub n_q8
  have ne_pot_q8 := w_pot.ne n_q8; replace n_q8 := R.back n_q8
  replace R := R.then S; replace w_pot := w_pot.step0 S
  obtain ⟨vs_q8, hp_q8, np_q8, rp_q8⟩ := w_q8
  replace R := R.freeze n_q8 np_q8 hp_q8; replace w_pot := w_pot.frz (o := .lst vs_q8) np_q8 (ne_pot_q8); have f_q8 := lend1 np_q8 rp_q8
  refine wp_intB z_int ?_
  refine wp_cmp (op_eqS hr.units) (nomark _) ?_
  refine wc c_law_take hG hr (by decide) ?_
  refine wpA_cons (wp_var (i := 0) rfl ?_)
  refine wpA_cons ?_
  refine EvX.go (ev_int (i := 4)) R.sub (fun v_q9 H G S f_q9 => ?_)
  replace R := R.then S; replace f_q8 := Rep.mono S.ex f_q8; replace w_pot := w_pot.step0 S
  obtain rfl : v_q9 = V.int ((4 : Int)) := f_q9
  refine wpA_nil ?_
  obtain ⟨t10, h_t10, h⟩ := bind_some h
  refine ⟨_, _, _, _, ((4 : Int), ()), _, _, rfl, R.sub, w_pot, ⟨_, _, rfl, rfl, rfl⟩, h_t10, fun v_q11 H G S o f_q11 => ?_⟩
  replace R := R.trans S; replace f_q8 := Rep.mono S.ex f_q8
  replace w_pot := o
  obtain rfl : v_q11 = V.int (t10.1) := f_q11
  refine EvX.go (ev_int (i := 0)) R.sub (fun v_q12 H G S f_q12 => ?_)
  replace R := R.then S; replace f_q8 := Rep.mono S.ex f_q8; replace w_pot := w_pot.step0 S
  obtain rfl : v_q12 = V.int ((0 : Int)) := f_q12
  refine Eqs.eq (α := Int) hr.units _ _ _ _ (Rc.refl R.sub) rfl rfl _ (fun v13 H G S f_v13 => ?_)
  replace R := R.then S; replace f_q8 := Rep.mono S.ex f_q8; replace w_pot := w_pot.step0 S
  obtain rfl : v13 = V.bl ((eqs t10.1 (0 : Int))) := f_v13
  refine ⟨_, rfl, ?_⟩
  obtain ⟨t16, h_t16, h⟩ := bind_some h
  obtain ⟨_, _, q1_q17, q2_q17, q3_q17⟩ := f_q8
  obtain ⟨v_q17, e1_q17, f_q17⟩ := atI_paired q3_q17 h_t16
  refine ⟨_, _, _, v_q17, q1_q17, rfl, .inl (.inl (R.sub _ _ q2_q17)), e1_q17, ?_⟩
  obtain rfl : v_q17 = V.int (t16) := f_q17
  refine wpA_nil ?_
  refine ⟨_, _, rfl, ?_⟩
  refine wb_cons (ws_par3 (i := 4) (j := 5) (l := 6) rfl sc_law_row.nd ?_)
  refine wpA_cons ?_
  refine wp_op op_add ?_
  refine EvX.go (ev_int (i := 1)) R.sub (fun v_q18 H G S f_q18 => ?_)
  replace R := R.then S; replace w_pot := w_pot.step0 S
  obtain rfl : v_q18 = V.int ((1 : Int)) := f_q18
  refine wc c_law_take hG hr (by decide) ?_
  refine wpA_cons (wp_var (i := 0) rfl ?_)
  refine wpA_cons ?_
  refine EvX.go (ev_int (i := 6)) R.sub (fun v_q19 H G S f_q19 => ?_)
  replace R := R.then S; replace w_pot := w_pot.step0 S
  obtain rfl : v_q19 = V.int ((6 : Int)) := f_q19
  refine wpA_nil ?_
  obtain ⟨t20, h_t20, h⟩ := bind_some h
  refine ⟨_, _, _, _, ((6 : Int), ()), _, _, rfl, R.sub, w_pot, ⟨_, _, rfl, rfl, rfl⟩, h_t20, fun v_q21 H G S o f_q21 => ?_⟩
  replace R := R.trans S
  replace w_pot := o
  obtain rfl : v_q21 = V.int (t20.1) := f_q21
  refine ⟨_, _, rfl, rfl, ?_⟩
  refine wpA_cons ?_
  refine EvN.go (ev_lst (α := Int) el_nil (by show 0 ≤ 100000; decide)) R.sub (fun p_q23 H G S n_q23 w_q23 => ?_)
  have ne_pot_q23 := w_pot.ne n_q23; replace n_q23 := R.back n_q23
  replace R := R.then S; replace w_pot := w_pot.step0 S
  refine wpA_cons ?_
  refine EvX.go (ev_int (i := 0)) R.sub (fun v_q24 H G S f_q24 => ?_)
  replace R := R.then S; replace w_pot := w_pot.step0 S; replace w_q23 := w_q23.step0 S
  obtain rfl : v_q24 = V.int ((0 : Int)) := f_q24
  refine wpA_nil ?_
  refine ⟨_, _, _, rfl, ?_⟩
  have w_found := w_q23; have n_found := n_q23; have ne_pot_found := ne_pot_q23
  obtain ⟨t26, h_t26, h⟩ := bind_some h
  obtain ⟨c27, h_c27, h⟩ := bind_some h
  refine wb_cons (ws_for (g := (gName 7)) PassesOwn.never rfl (ei_rng1 z_range h_t26 (ev_var (i := 3) (x := (t16 : Int)) rfl rfl)) R.sub (pg_name (i := 7) sc_law_row.nd rfl (by first | exact Or.inl rfl | exact Or.inr rfl)) h_c27 (fun Gs28 s25 σ H G => ∃ (o_at : Option V) (o_some : Option V) (p_found : Addr), σ = [some (V.ref p_pot), some (V.int (most)), some (V.int (t2.1)), some (V.int (t16)), some (V.int (((1 : Int) + t20.1))), some (V.ref p_found), some (V.int (s25.2.1)), o_at, o_some] ∧ Rc [p_pot] H0 G0 H G ∧ Ex Gs28 G ∧ Own K H G p_pot (s25.2.2 : (List Int)) ∧ Own K H G p_found (s25.1 : (List Int)) ∧ H0 p_found = none ∧ p_pot ≠ p_found) (fun (_ : Unit) (_ : V) (_ : Hp) => False) ?_ ?_ ?_ ?_ ?_)
  · intro H G S
    replace R := R.then S; replace w_pot := w_pot.step0 S; replace w_found := w_found.step0 S
    exact ⟨_, _, _, rfl, R, Ex.refl _, w_pot, w_found, n_found, ne_pot_found⟩
  · intro Gs28 s25 σ H G hI
    obtain ⟨o_at, o_some, p_found, rfl, R, xGs28, w_pot, w_found, n_found, ne_pot_found⟩ := hI
    exact ⟨xGs28, R.sub⟩
  · intro Gs28 s25 σ Hb Gb x29 c' u H G h hI S hu
    obtain ⟨o_at, o_some, p_found, rfl, R, xGs28, w_pot, w_found, n_found, ne_pot_found⟩ := hI
    replace R := R.then S; replace w_pot := w_pot.step0 S; replace w_found := w_found.step0 S; replace xGs28 := xGs28.trans S.ex
    obtain ⟨_, rfl, rfl⟩ := hu
    refine wb_cons (ws_set (i := 6) sc_law_row.nd ?_)
    refine wp_op op_add ?_
    refine EvX.go (ev_var (i := 6) (x := (s25.2.1 : Int)) rfl rfl) R.sub (fun v_q30 H G S f_q30 => ?_)
    replace R := R.then S; replace w_pot := w_pot.step0 S; replace w_found := w_found.step0 S; replace xGs28 := xGs28.trans S.ex
    obtain rfl : v_q30 = V.int (s25.2.1) := f_q30
    refine wp_ix ?_
    refine EvN.go (ev_lst (α := Int) (el_cons (ev_int (i := 1)) (el_cons (EvX.is (x' := (-1 : Int)) (ev_neg (ev_int (i := 1))) (by decide)) (el_cons (ev_int (i := 0)) el_nil))) (by show 3 ≤ 100000; decide)) R.sub (fun p_q31 H G S n_q31 w_q31 => ?_)
    have ne_pot_q31 := w_pot.ne n_q31; have ne_found_q31 := w_found.ne n_q31; replace n_q31 := R.back n_q31
    replace R := R.then S; replace w_pot := w_pot.step0 S; replace w_found := w_found.step0 S; replace xGs28 := xGs28.trans S.ex
    obtain ⟨vs_q31, hp_q31, np_q31, rp_q31⟩ := w_q31
    replace R := R.freeze n_q31 np_q31 hp_q31; replace w_pot := w_pot.frz (o := .lst vs_q31) np_q31 (ne_pot_q31); replace w_found := w_found.frz (o := .lst vs_q31) np_q31 (ne_found_q31); replace xGs28 := xGs28.trans (Ex.new (o := .lst vs_q31) np_q31); have f_q31 := lend1 np_q31 rp_q31
    refine wc c_law_take hG hr (by decide) ?_
    refine wpA_cons (wp_var (i := 0) rfl ?_)
    refine wpA_cons ?_
    refine EvX.go (ev_int (i := 3)) R.sub (fun v_q32 H G S f_q32 => ?_)
    replace R := R.then S; replace f_q31 := Rep.mono S.ex f_q31; replace w_pot := w_pot.step0 S; replace w_found := w_found.step0 S; replace xGs28 := xGs28.trans S.ex
    obtain rfl : v_q32 = V.int ((3 : Int)) := f_q32
    refine wpA_nil ?_
    obtain ⟨t33, h_t33, h⟩ := bind_some h
    refine ⟨_, _, _, _, ((3 : Int), ()), _, _, rfl, R.sub, w_pot, ⟨_, _, rfl, rfl, rfl⟩, h_t33, fun v_q34 H G S o f_q34 => ?_⟩
    replace R := R.trans S; replace f_q31 := Rep.mono S.ex f_q31; replace w_found := w_found.step S (ne_sing (ne_pot_found.symm)); replace xGs28 := xGs28.trans S.ex
    replace w_pot := o
    obtain rfl : v_q34 = V.int (t33.1) := f_q34
    obtain ⟨t35, h_t35, h⟩ := bind_some h
    obtain ⟨_, _, q1_q36, q2_q36, q3_q36⟩ := f_q31
    obtain ⟨v_q36, e1_q36, f_q36⟩ := atI_paired q3_q36 h_t35
    refine ⟨_, _, _, v_q36, q1_q36, rfl, .inl (.inl (R.sub _ _ q2_q36)), e1_q36, ?_⟩
    obtain rfl : v_q36 = V.int (t35) := f_q36
    refine ⟨_, _, rfl, rfl, ?_⟩
    refine wb_cons (ws_set (i := 8) sc_law_row.nd ?_)
    refine wp_lst ?_
    refine wpA_cons ?_
    refine wc c_law_take hG hr (by decide) ?_
    refine wpA_cons (wp_var (i := 0) rfl ?_)
    refine wpA_cons ?_
    refine EvX.go (ev_var (i := 4) (x := (((1 : Int) + t20.1) : Int)) rfl rfl) R.sub (fun v_q38 H G S f_q38 => ?_)
    replace R := R.then S; replace w_pot := w_pot.step0 S; replace w_found := w_found.step0 S; replace xGs28 := xGs28.trans S.ex
    obtain rfl : v_q38 = V.int (((1 : Int) + t20.1)) := f_q38
    refine wpA_nil ?_
    obtain ⟨t39, h_t39, h⟩ := bind_some h
    refine ⟨_, _, _, _, (((1 : Int) + t20.1), ()), _, _, rfl, R.sub, w_pot, ⟨_, _, rfl, rfl, rfl⟩, h_t39, fun v_q40 H G S o f_q40 => ?_⟩
    replace R := R.trans S; replace w_found := w_found.step S (ne_sing (ne_pot_found.symm)); replace xGs28 := xGs28.trans S.ex
    replace w_pot := o
    obtain rfl : v_q40 = V.int (t39.1) := f_q40
    refine wpA_cons ?_
    refine wp_op op_sub ?_
    refine wc c_law_take hG hr (by decide) ?_
    refine wpA_cons (wp_var (i := 0) rfl ?_)
    refine wpA_cons ?_
    refine EvX.go (EvX.is (x' := (2000000000000000000000000000001 : Int)) (ev_add (ev_mul (k := 2000000000000000000000000000000) (by decide +kernel) (ev_int (i := 2)) (ev_pow (k := 1000000000000000000000000000000) (by decide +kernel) (ev_int (i := 10)) (ev_int (i := 30)))) (ev_int (i := 1))) (by decide)) R.sub (fun v_q41 H G S f_q41 => ?_)
    replace R := R.then S; replace w_pot := w_pot.step0 S; replace w_found := w_found.step0 S; replace xGs28 := xGs28.trans S.ex
    obtain rfl : v_q41 = V.int ((2000000000000000000000000000001 : Int)) := f_q41
    refine wpA_nil ?_
    obtain ⟨t42, h_t42, h⟩ := bind_some h
    refine ⟨_, _, _, _, ((2000000000000000000000000000001 : Int), ()), _, _, rfl, R.sub, w_pot, ⟨_, _, rfl, rfl, rfl⟩, h_t42, fun v_q43 H G S o f_q43 => ?_⟩
    replace R := R.trans S; replace w_found := w_found.step S (ne_sing (ne_pot_found.symm)); replace xGs28 := xGs28.trans S.ex
    replace w_pot := o
    obtain rfl : v_q43 = V.int (t42.1) := f_q43
    refine EvX.go (ev_pow (k := 1000000000000000000000000000000) (by decide +kernel) (ev_int (i := 10)) (ev_int (i := 30))) R.sub (fun v_q44 H G S f_q44 => ?_)
    replace R := R.then S; replace w_pot := w_pot.step0 S; replace w_found := w_found.step0 S; replace xGs28 := xGs28.trans S.ex
    obtain rfl : v_q44 = V.int ((1000000000000000000000000000000 : Int)) := f_q44
    refine ⟨_, _, rfl, rfl, ?_⟩
    refine wpA_cons ?_
    refine EvX.go (ev_var (i := 7) (x := (x29 : Int)) rfl rfl) R.sub (fun v_q46 H G S f_q46 => ?_)
    replace R := R.then S; replace w_pot := w_pot.step0 S; replace w_found := w_found.step0 S; replace xGs28 := xGs28.trans S.ex
    obtain rfl : v_q46 = V.int (x29) := f_q46
    refine wpA_cons ?_
    refine EvX.go (ev_sub (ev_int (i := 0)) (ev_var (i := 7) (x := (x29 : Int)) rfl rfl)) R.sub (fun v_q47 H G S f_q47 => ?_)
    replace R := R.then S; replace w_pot := w_pot.step0 S; replace w_found := w_found.step0 S; replace xGs28 := xGs28.trans S.ex
    obtain rfl : v_q47 = V.int (((0 : Int) - x29)) := f_q47
    refine wpA_cons ?_
    refine EvX.go (ev_var (i := 6) (x := ((s25.2.1 + t35) : Int)) rfl rfl) R.sub (fun v_q48 H G S f_q48 => ?_)
    replace R := R.then S; replace w_pot := w_pot.step0 S; replace w_found := w_found.step0 S; replace xGs28 := xGs28.trans S.ex
    obtain rfl : v_q48 = V.int ((s25.2.1 + t35)) := f_q48
    refine wpA_nil ?_
    refine ⟨by show 5 ≤ sizeLine; decide, fun p_q49 n_q49 => ?_⟩
    have w_q49 : Own K _ _ p_q49 ([t39.1, (t42.1 - (1000000000000000000000000000000 : Int)), x29, ((0 : Int) - x29), (s25.2.1 + t35)] : (List Int)) := Own.mk R.sub n_q49 (.cons (show Rep.rel K _ _ t39.1 from rfl) (.cons (show Rep.rel K _ _ (t42.1 - (1000000000000000000000000000000 : Int)) from rfl) (.cons (show Rep.rel K _ _ x29 from rfl) (.cons (show Rep.rel K _ _ ((0 : Int) - x29) from rfl) (.cons (show Rep.rel K _ _ (s25.2.1 + t35) from rfl) .nil)))))
    have S := Rc.new (m := []) (o := .lst [V.int (t39.1), V.int ((t42.1 - (1000000000000000000000000000000 : Int))), V.int (x29), V.int (((0 : Int) - x29)), V.int ((s25.2.1 + t35))]) R.sub n_q49
    have ne_pot_q49 := w_pot.ne n_q49; have ne_found_q49 := w_found.ne n_q49; replace n_q49 := R.back n_q49
    replace R := R.then S; replace w_pot := w_pot.step0 S; replace w_found := w_found.step0 S; replace xGs28 := xGs28.trans S.ex
    obtain ⟨vs_q49, hp_q49, np_q49, rp_q49⟩ := w_q49
    replace R := R.freeze n_q49 np_q49 hp_q49; replace w_pot := w_pot.frz (o := .lst vs_q49) np_q49 (ne_pot_q49); replace w_found := w_found.frz (o := .lst vs_q49) np_q49 (ne_found_q49); replace xGs28 := xGs28.trans (Ex.new (o := .lst vs_q49) np_q49); have f_q49 := lend1 np_q49 rp_q49
    have f_some := f_q49
    refine wb_cons (ws_set (i := 8) sc_law_row.nd ?_)
    refine wp_op op_cat ?_
    refine EvX.go (ev_var (i := 8) rfl f_some) R.sub (fun v_q50 H G S f_q50 => ?_)
    replace R := R.then S; replace f_some := Rep.mono S.ex f_some; replace w_pot := w_pot.step0 S; replace w_found := w_found.step0 S; replace xGs28 := xGs28.trans S.ex
    refine wp_lst ?_
    refine wpA_cons ?_
    obtain ⟨t51, h_t51, h⟩ := bind_some h
    refine EvX.go (ev_mod h_t51 (ev_fdiv (fdivO_c (by decide +kernel)) (ev_var (i := 7) (x := (x29 : Int)) rfl rfl) (ev_int (i := 3))) (ev_var (i := 4) (x := (((1 : Int) + t20.1) : Int)) rfl rfl)) R.sub (fun v_q52 H G S f_q52 => ?_)
    replace R := R.then S; replace f_some := Rep.mono S.ex f_some; replace f_q50 := Rep.mono S.ex f_q50; replace w_pot := w_pot.step0 S; replace w_found := w_found.step0 S; replace xGs28 := xGs28.trans S.ex
    obtain rfl : v_q52 = V.int (t51) := f_q52
    refine wpA_cons ?_
    refine wp_op op_sub ?_
    refine EvX.go (EvX.is (x' := (9999999999999999999999999999999 : Int)) (ev_sub (ev_pow (k := 10000000000000000000000000000000) (by decide +kernel) (ev_int (i := 10)) (ev_int (i := 31))) (ev_int (i := 1))) (by decide)) R.sub (fun v_q53 H G S f_q53 => ?_)
    replace R := R.then S; replace f_some := Rep.mono S.ex f_some; replace f_q50 := Rep.mono S.ex f_q50; replace w_pot := w_pot.step0 S; replace w_found := w_found.step0 S; replace xGs28 := xGs28.trans S.ex
    obtain rfl : v_q53 = V.int ((9999999999999999999999999999999 : Int)) := f_q53
    refine wc c_law_take hG hr (by decide) ?_
    refine wpA_cons (wp_var (i := 0) rfl ?_)
    refine wpA_cons ?_
    refine EvX.go (ev_int (i := 2)) R.sub (fun v_q54 H G S f_q54 => ?_)
    replace R := R.then S; replace f_some := Rep.mono S.ex f_some; replace f_q50 := Rep.mono S.ex f_q50; replace w_pot := w_pot.step0 S; replace w_found := w_found.step0 S; replace xGs28 := xGs28.trans S.ex
    obtain rfl : v_q54 = V.int ((2 : Int)) := f_q54
    refine wpA_nil ?_
    obtain ⟨t55, h_t55, h⟩ := bind_some h
    refine ⟨_, _, _, _, ((2 : Int), ()), _, _, rfl, R.sub, w_pot, ⟨_, _, rfl, rfl, rfl⟩, h_t55, fun v_q56 H G S o f_q56 => ?_⟩
    replace R := R.trans S; replace f_some := Rep.mono S.ex f_some; replace f_q50 := Rep.mono S.ex f_q50; replace w_found := w_found.step S (ne_sing (ne_pot_found.symm)); replace xGs28 := xGs28.trans S.ex
    replace w_pot := o
    obtain rfl : v_q56 = V.int (t55.1) := f_q56
    refine ⟨_, _, rfl, rfl, ?_⟩
    refine wpA_nil ?_
    refine ⟨by show 2 ≤ sizeLine; decide, fun p_q58 n_q58 => ?_⟩
    have w_q58 : Own K _ _ p_q58 ([t51, ((9999999999999999999999999999999 : Int) - t55.1)] : (List Int)) := Own.mk R.sub n_q58 (.cons (show Rep.rel K _ _ t51 from rfl) (.cons (show Rep.rel K _ _ ((9999999999999999999999999999999 : Int) - t55.1) from rfl) .nil))
    have S := Rc.new (m := []) (o := .lst [V.int (t51), V.int (((9999999999999999999999999999999 : Int) - t55.1))]) R.sub n_q58
    have ne_pot_q58 := w_pot.ne n_q58; have ne_found_q58 := w_found.ne n_q58; replace n_q58 := R.back n_q58
    replace R := R.then S; replace f_some := Rep.mono S.ex f_some; replace f_q50 := Rep.mono S.ex f_q50; replace w_pot := w_pot.step0 S; replace w_found := w_found.step0 S; replace xGs28 := xGs28.trans S.ex
    obtain ⟨vs_q58, hp_q58, np_q58, rp_q58⟩ := w_q58
    replace R := R.freeze n_q58 np_q58 hp_q58; replace f_some := Rep.mono (Ex.new (o := .lst vs_q58) np_q58) f_some; replace f_q50 := Rep.mono (Ex.new (o := .lst vs_q58) np_q58) f_q50; replace w_pot := w_pot.frz (o := .lst vs_q58) np_q58 (ne_pot_q58); replace w_found := w_found.frz (o := .lst vs_q58) np_q58 (ne_found_q58); replace xGs28 := xGs28.trans (Ex.new (o := .lst vs_q58) np_q58); have f_q58 := lend1 np_q58 rp_q58
    obtain ⟨t59, h_t59, h⟩ := bind_some h
    obtain ⟨k_t59, e_t59⟩ := dite_some h_t59
    obtain ⟨_, l1_q60, a1, a2, a3⟩ := f_q50
    obtain ⟨_, l2_q60, b1, b2, b3⟩ := f_q58
    refine ⟨_, _, _, _, a1, b1, R.sub _ _ a2, R.sub _ _ b2, by rw [Paired.len a3, Paired.len b3]; exact line_le k_t59, fun p_q60 n_q60 => ?_⟩
    have w_q60 : Own K _ _ p_q60 t59 := e_t59 ▸ Own.mk R.sub n_q60 (Paired.append a3 b3)
    have S := Rc.new (m := []) (o := .lst (l1_q60 ++ l2_q60)) R.sub n_q60
    have ne_pot_q60 := w_pot.ne n_q60; have ne_found_q60 := w_found.ne n_q60; replace n_q60 := R.back n_q60
    replace R := R.then S; replace f_some := Rep.mono S.ex f_some; replace w_pot := w_pot.step0 S; replace w_found := w_found.step0 S; replace xGs28 := xGs28.trans S.ex
    obtain ⟨vs_q60, hp_q60, np_q60, rp_q60⟩ := w_q60
    replace R := R.freeze n_q60 np_q60 hp_q60; replace f_some := Rep.mono (Ex.new (o := .lst vs_q60) np_q60) f_some; replace w_pot := w_pot.frz (o := .lst vs_q60) np_q60 (ne_pot_q60); replace w_found := w_found.frz (o := .lst vs_q60) np_q60 (ne_found_q60); replace xGs28 := xGs28.trans (Ex.new (o := .lst vs_q60) np_q60); have f_q60 := lend1 np_q60 rp_q60
    have f_some := f_q60
    obtain ⟨t61, h_t61, h⟩ := bind_some h
    obtain ⟨t62, h_t62, h⟩ := bind_some h
    refine wb_cons (ws_app (i := 5) rfl R.sub w_found h_t62 (ev_ix h_t61 (ev_var (i := 8) rfl f_some) (ev_var (i := 2) (x := (t2.1 : Int)) rfl rfl)) (fun H G KK S w_found' => ?_))
    have R := KK _ _ _ R (.inl n_found)
    replace f_some := Rep.mono S.ex f_some; replace w_pot := w_pot.step S (ne_sing (ne_pot_found)); replace xGs28 := xGs28.trans S.ex
    replace w_found := w_found'
    refine wb_nil ?_
    exact ⟨_, _, (Option.some.inj h).symm, ⟨_, _, _, rfl, R, xGs28, w_pot, w_found, n_found, ne_pot_found⟩⟩
  · intro Gs28 s25 σ H G ec hI
    have h := aft_nx ec h
    obtain ⟨o_at, o_some, p_found, rfl, R, xGs28, w_pot, w_found, n_found, ne_pot_found⟩ := hI
    refine wb_cons (ws_ret (wp_var (i := 5) rfl ?_))
    cases Option.some.inj h
    exact q0 _ _ _ R n_found w_pot w_found
  · intro y v H ec hrt
    exact hrt.elim
theorem ok_law_times {f : Addr} {fd : FuncData} (F : Fun K "_law_times" "_law_times" s_law_times f fd) (z_len : mg "len" = none) (z_list : mg "list" = none) (z_range : mg "range" = none) (z_enumerate : mg "enumerate" = none) (z_max : mg "max" = none) :
    FnG P w K mg base CX0 1 f fd ["row"] ((spN (fun (w : (List Int) × Unit) => m_law_times w.1)) K) := by
  refine defG F sc_law_times (lenN rfl) (fun cdv A outer s H0 vs Q E hG hr hsp => ?_)
  obtain ⟨G0, wz, r, g0, ra, h, q0⟩ := hsp
  obtain ⟨row, ⟨⟩⟩ := wz
  obtain ⟨v_row, _, rfl, f_row, rfl⟩ := ra
  have R : Rc [] H0 G0 H0 G0 := Rc.refl g0
  replace h : m_law_times row = some r := h
  unfold m_law_times at h
  clear g0
  refine wb_cons (ws_par3 (i := 1) (j := 2) (l := 3) rfl sc_law_times.nd ?_)
  refine wpA_cons ?_
  obtain ⟨t1, h_t1, h⟩ := bind_some h
  refine EvN.go (ev_rep h_t1 (EvN.val (ev_lst (α := Int) (el_cons (ev_int (i := 0)) el_nil) (by show 1 ≤ 100000; decide))) (ev_len z_len (ev_var (i := 0) rfl f_row))) R.sub (fun p_q2 H G S n_q2 w_q2 => ?_)
  replace n_q2 := R.back n_q2
  replace R := R.then S; replace f_row := Rep.mono S.ex f_row
  refine wpA_cons ?_
  obtain ⟨t3, h_t3, h⟩ := bind_some h
  refine EvN.go (ev_listRng1 rfl z_list z_range h_t3 (ev_len z_len (ev_var (i := 0) rfl f_row))) R.sub (fun p_q4 H G S n_q4 w_q4 => ?_)
  have ne_q2_q4 := w_q2.ne n_q4; replace n_q4 := R.back n_q4
  replace R := R.then S; replace f_row := Rep.mono S.ex f_row; replace w_q2 := w_q2.step0 S
  refine wpA_cons ?_
  refine EvX.go (ev_int (i := 0)) R.sub (fun v_q5 H G S f_q5 => ?_)
  replace R := R.then S; replace f_row := Rep.mono S.ex f_row; replace w_q2 := w_q2.step0 S; replace w_q4 := w_q4.step0 S
  obtain rfl : v_q5 = V.int ((0 : Int)) := f_q5
  refine wpA_nil ?_
  refine ⟨_, _, _, rfl, ?_⟩
  have w_found := w_q2; have n_found := n_q2; have ne_q4_found := ne_q2_q4.symm
  obtain ⟨vs_q4, hp_q4, np_q4, rp_q4⟩ := w_q4
  replace R := R.freeze n_q4 np_q4 hp_q4; replace f_row := Rep.mono (Ex.new (o := .lst vs_q4) np_q4) f_row; replace w_found := w_found.frz (o := .lst vs_q4) np_q4 (ne_q4_found.symm); have f_q4 := lend1 np_q4 rp_q4
  have f_left := f_q4
  obtain ⟨c7, h_c7, h⟩ := bind_some h
  refine wb_cons (ws_while PassesOwn.never h_c7 (fun s6 σ H G => ∃ (o_gone : Option V) (o_near : Option V) (o_place_here : Option V) (o_spot : Option V) (p_found : Addr) (v_left : V), σ = [some (v_row), some (V.ref p_found), some (v_left), some (V.int (s6.2.2)), o_gone, o_spot, o_place_here, o_near, none] ∧ Rc [] H0 G0 H G ∧ Rep.rel K G v_row row ∧ Own K H G p_found (s6.1 : (List Int)) ∧ H0 p_found = none ∧ Rep.rel K G v_left s6.2.1) (fun (_ : Unit) (_ : V) (_ : Hp) => False) ⟨_, _, _, _, _, _, rfl, R, f_row, w_found, n_found, f_left⟩ ?_ ?_ ?_ ?_ ?_)
  · intro s6 σ H G b h hI
    obtain ⟨o_gone, o_near, o_place_here, o_spot, p_found, v_left, rfl, R, f_row, w_found, n_found, f_left⟩ := hI
    obtain rfl := Option.some.inj h
    refine EvT.go (et_ne' (α := (List Int)) hr.units (ev_var (i := 2) rfl f_left) (EvN.val (ev_lst (α := Int) el_nil (by show 0 ≤ 100000; decide)))) R.sub (fun H G S => ⟨rfl, G, S⟩)
  · intro s6 σ Ha Ga H G hI S
    obtain ⟨o_gone, o_near, o_place_here, o_spot, p_found, v_left, rfl, R, f_row, w_found, n_found, f_left⟩ := hI
    replace R := R.then S; replace f_row := Rep.mono S.ex f_row; replace f_left := Rep.mono S.ex f_left; replace w_found := w_found.step0 S
    exact ⟨_, _, _, _, _, _, rfl, R, f_row, w_found, n_found, f_left⟩
  · intro s6 σ H G c' _ h hI
    obtain ⟨o_gone, o_near, o_place_here, o_spot, p_found, v_left, rfl, R, f_row, w_found, n_found, f_left⟩ := hI
    refine wb_cons (ws_tup2 (i := 3) (j := 4) rfl sc_law_times.nd ?_)
    refine wpA_cons ?_
    refine EvX.go (ev_add (ev_var (i := 3) (x := (s6.2.2 : Int)) rfl rfl) (ev_int (i := 1))) R.sub (fun v_q10 H G S f_q10 => ?_)
    replace R := R.then S; replace f_row := Rep.mono S.ex f_row; replace f_left := Rep.mono S.ex f_left; replace w_found := w_found.step0 S
    obtain rfl : v_q10 = V.int ((s6.2.2 + (1 : Int))) := f_q10
    refine wpA_cons ?_
    refine EvN.go (ev_lst (α := Int) el_nil (by show 0 ≤ 100000; decide)) R.sub (fun p_q11 H G S n_q11 w_q11 => ?_)
    have ne_found_q11 := w_found.ne n_q11; replace n_q11 := R.back n_q11
    replace R := R.then S; replace f_row := Rep.mono S.ex f_row; replace f_left := Rep.mono S.ex f_left; replace w_found := w_found.step0 S
    refine wpA_nil ?_
    refine ⟨_, _, rfl, fun d_ nd_ => ?_⟩
    have S := Rc.new (m := []) (o := .tup [V.int ((s6.2.2 + (1 : Int))), (V.ref p_q11)]) R.sub nd_
    replace R := R.then S; replace f_row := Rep.mono S.ex f_row; replace f_left := Rep.mono S.ex f_left; replace w_found := w_found.step0 S; replace w_q11 := w_q11.step0 S
    have w_gone := w_q11; have n_gone := n_q11; have ne_found_gone := ne_found_q11
    obtain ⟨c13, h_c13, h⟩ := bind_some h
    refine wb_cons (ws_for (g := (gTup _ 2 (gCons (gName 5) (gCons (gName 6) gNil)))) PassesOwn.never rfl (ei_enum z_enumerate (ev_var (i := 2) rfl f_left)) R.sub (pg_tup rfl (pgs_cons (pg_name (i := 5) sc_law_times.nd rfl (by first | exact Or.inl rfl | exact Or.inr rfl)) (pgs_cons (pg_name (i := 6) sc_law_times.nd rfl (by first | exact Or.inl rfl | exact Or.inr rfl)) pgs_nil))) h_c13 (fun Gs14 s12 σ H G => ∃ (o_near : Option V) (o_place_here : Option V) (o_spot : Option V) (p_gone : Addr), σ = [some (v_row), some (V.ref p_found), some (v_left), some (V.int ((s6.2.2 + (1 : Int)))), some (V.ref p_gone), o_spot, o_place_here, o_near, none] ∧ Rc [] H0 G0 H G ∧ Ex Gs14 G ∧ Rep.rel K G v_row row ∧ Own K H G p_found (s6.1 : (List Int)) ∧ H0 p_found = none ∧ Rep.rel K G v_left s6.2.1 ∧ Own K H G p_gone (s12 : (List Int)) ∧ H0 p_gone = none ∧ p_found ≠ p_gone) (fun (_ : Unit) (_ : V) (_ : Hp) => False) ?_ ?_ ?_ ?_ ?_)
    · intro H G S
      replace R := R.then S; replace f_row := Rep.mono S.ex f_row; replace f_left := Rep.mono S.ex f_left; replace w_found := w_found.step0 S; replace w_gone := w_gone.step0 S
      exact ⟨_, _, _, _, rfl, R, Ex.refl _, f_row, w_found, n_found, f_left, w_gone, n_gone, ne_found_gone⟩
    · intro Gs14 s12 σ H G hI
      obtain ⟨o_near, o_place_here, o_spot, p_gone, rfl, R, xGs14, f_row, w_found, n_found, f_left, w_gone, n_gone, ne_found_gone⟩ := hI
      exact ⟨xGs14, R.sub⟩
    · intro Gs14 s12 σ Hb Gb x15 c' u H G h hI S hu
      obtain ⟨o_near, o_place_here, o_spot, p_gone, rfl, R, xGs14, f_row, w_found, n_found, f_left, w_gone, n_gone, ne_found_gone⟩ := hI
      replace R := R.then S; replace f_row := Rep.mono S.ex f_row; replace f_left := Rep.mono S.ex f_left; replace w_found := w_found.step0 S; replace w_gone := w_gone.step0 S; replace xGs14 := xGs14.trans S.ex
      obtain ⟨_, _, rfl, rfl, rfl⟩ := hu
      refine wb_cons (ws_set (i := 7) sc_law_times.nd ?_)
      obtain ⟨t16, h_t16, h⟩ := bind_some h
      refine EvN.go (ev_cat h_t16 (EvN.val (ev_slice (ev_var (i := 2) rfl f_left) (eo_some (ev_max2 rfl z_max (ev_int (i := 0)) (ev_sub (ev_var (i := 5) (x := (x15.1 : Int)) rfl rfl) (ev_int (i := 1))))) (eo_some (ev_var (i := 5) (x := (x15.1 : Int)) rfl rfl)))) (EvN.val (ev_slice (ev_var (i := 2) rfl f_left) (eo_some (ev_add (ev_var (i := 5) (x := (x15.1 : Int)) rfl rfl) (ev_int (i := 1)))) (eo_some (ev_add (ev_var (i := 5) (x := (x15.1 : Int)) rfl rfl) (ev_int (i := 2))))))) R.sub (fun p_q17 H G S n_q17 w_q17 => ?_)
      have ne_found_q17 := w_found.ne n_q17; have ne_gone_q17 := w_gone.ne n_q17; replace n_q17 := R.back n_q17
      replace R := R.then S; replace f_row := Rep.mono S.ex f_row; replace f_left := Rep.mono S.ex f_left; replace w_found := w_found.step0 S; replace w_gone := w_gone.step0 S; replace xGs14 := xGs14.trans S.ex
      obtain ⟨vs_q17, hp_q17, np_q17, rp_q17⟩ := w_q17
      replace R := R.freeze n_q17 np_q17 hp_q17; replace f_row := Rep.mono (Ex.new (o := .lst vs_q17) np_q17) f_row; replace f_left := Rep.mono (Ex.new (o := .lst vs_q17) np_q17) f_left; replace w_found := w_found.frz (o := .lst vs_q17) np_q17 (ne_found_q17); replace w_gone := w_gone.frz (o := .lst vs_q17) np_q17 (ne_gone_q17); replace xGs14 := xGs14.trans (Ex.new (o := .lst vs_q17) np_q17); have f_q17 := lend1 np_q17 rp_q17
      have f_near := f_q17
      refine wb_cons (ws_if ?_)
      obtain ⟨t21, h_t21, h⟩ := bind_some h
      refine EvT.go (et_eq' (α := (List Int)) hr.units (EvN.val (ev_lc (own := [("other", 8)]) (g := (gName 8)) rfl sc_law_times.nd (blkOk_by (own := [("other", 8)]) (N := ["row", "found", "left", "number", "gone", "spot", "place_here", "near", "other"]) (sc := defScope s_law_times) (by decide +kernel)) (ei_list (ev_var (i := 7) rfl f_near)) (fun _ _ _ _ _ => (pg_name (i := 8) sc_law_times.nd rfl (by first | exact Or.inl rfl | exact Or.inr rfl))) h_t21 (by rintro x G u ⟨_, _, rfl⟩; rfl) (fun sh Hh C cl fp x18 b u Hc Gc S ru hb => by obtain ⟨_, rfl, rfl⟩ := ru; have f_row := Rep.mono S.ex f_row; obtain ⟨t19, h_t19, hb⟩ := bind_some hb; obtain ⟨t20, h_t20, hb⟩ := bind_some hb; obtain rfl := Option.some.inj hb; exact ets_one (et_gt (ev_ix h_t19 (ev_var (i := 0) rfl f_row) (ev_var (i := 8) (x := (x18 : Int)) rfl rfl)) (ev_ix h_t20 (ev_var (i := 0) rfl f_row) (ev_var (i := 6) (x := (x15.2 : Int)) rfl rfl)))) (fun sh Hh C cl fp x18 y u Hc Gc S ru hb hy => by obtain ⟨_, rfl, rfl⟩ := ru; obtain rfl := Option.some.inj hy; exact (ev_var (i := 8) (x := (x18 : Int)) rfl rfl)))) (EvN.val (ev_lst (α := Int) el_nil (by show 0 ≤ 100000; decide)))) R.sub (fun H G S => ?_)
      replace R := R.then S; replace f_row := Rep.mono S.ex f_row; replace f_left := Rep.mono S.ex f_left; replace f_near := Rep.mono S.ex f_near; replace w_found := w_found.step0 S; replace w_gone := w_gone.step0 S; replace xGs14 := xGs14.trans S.ex
      rcases cond_some h with ⟨hb, h⟩ | ⟨hb, h⟩
      · refine if_t hb ?_
        obtain ⟨t23, h_t23, h⟩ := bind_some h
        refine wb_cons (ws_app (i := 4) rfl R.sub w_gone h_t23 (ev_var (i := 6) (x := (x15.2 : Int)) rfl rfl) (fun H G KK S w_gone' => ?_))
        have R := KK _ _ _ R (.inl n_gone)
        replace f_row := Rep.mono S.ex f_row; replace f_left := Rep.mono S.ex f_left; replace f_near := Rep.mono S.ex f_near; replace w_found := w_found.step S (ne_sing (ne_found_gone)); replace xGs14 := xGs14.trans S.ex
        replace w_gone := w_gone'
        refine wb_nil ?_
        refine wb_nil ?_
        exact ⟨_, _, (Option.some.inj h).symm, ⟨_, _, _, _, rfl, R, xGs14, f_row, w_found, n_found, f_left, w_gone, n_gone, ne_found_gone⟩⟩
      · refine if_f hb ?_
        refine wb_nil ?_
        refine wb_nil ?_
        exact ⟨_, _, (Option.some.inj h).symm, ⟨_, _, _, _, rfl, R, xGs14, f_row, w_found, n_found, f_left, w_gone, n_gone, ne_found_gone⟩⟩
    · intro Gs14 s12 σ H G ec hI
      have h := aft_nx ec h
      obtain ⟨o_near, o_place_here, o_spot, p_gone, rfl, R, xGs14, f_row, w_found, n_found, f_left, w_gone, n_gone, ne_found_gone⟩ := hI
      obtain ⟨vs_gone, hp_gone, np_gone, rp_gone⟩ := w_gone
      replace R := R.freeze n_gone np_gone hp_gone; replace f_row := Rep.mono (Ex.new (o := .lst vs_gone) np_gone) f_row; replace f_left := Rep.mono (Ex.new (o := .lst vs_gone) np_gone) f_left; replace w_found := w_found.frz (o := .lst vs_gone) np_gone (ne_found_gone); have f_gone := lend1 np_gone rp_gone
      obtain ⟨c25, h_c25, h⟩ := bind_some h
      refine wb_cons (ws_for (g := (gName 6)) PassesOwn.never rfl (ei_list (ev_var (i := 4) rfl f_gone)) R.sub (pg_name (i := 6) sc_law_times.nd rfl (by first | exact Or.inl rfl | exact Or.inr rfl)) h_c25 (fun Gs26 s24 σ H G => ∃ (o_place_here : Option V) (p_found : Addr), σ = [some (v_row), some (V.ref p_found), some (v_left), some (V.int ((s6.2.2 + (1 : Int)))), some ((V.ref p_gone)), o_spot, o_place_here, o_near, none] ∧ Rc [] H0 G0 H G ∧ Ex Gs26 G ∧ Rep.rel K G v_row row ∧ Own K H G p_found (s24 : (List Int)) ∧ H0 p_found = none ∧ Rep.rel K G v_left s6.2.1 ∧ Rep.rel K G (V.ref p_gone) s12) (fun (_ : Unit) (_ : V) (_ : Hp) => False) ?_ ?_ ?_ ?_ ?_)
      · intro H G S
        replace R := R.then S; replace f_row := Rep.mono S.ex f_row; replace f_left := Rep.mono S.ex f_left; replace f_gone := Rep.mono S.ex f_gone; replace w_found := w_found.step0 S
        exact ⟨_, _, rfl, R, Ex.refl _, f_row, w_found, n_found, f_left, f_gone⟩
      · intro Gs26 s24 σ H G hI
        obtain ⟨o_place_here, p_found, rfl, R, xGs26, f_row, w_found, n_found, f_left, f_gone⟩ := hI
        exact ⟨xGs26, R.sub⟩
      · intro Gs26 s24 σ Hb Gb x27 c' u H G h hI S hu
        obtain ⟨o_place_here, p_found, rfl, R, xGs26, f_row, w_found, n_found, f_left, f_gone⟩ := hI
        replace R := R.then S; replace f_row := Rep.mono S.ex f_row; replace f_left := Rep.mono S.ex f_left; replace f_gone := Rep.mono S.ex f_gone; replace w_found := w_found.step0 S; replace xGs26 := xGs26.trans S.ex
        obtain ⟨_, rfl, rfl⟩ := hu
        obtain ⟨t28, h_t28, h⟩ := bind_some h
        refine wb_cons (ws_setix (i := 1) rfl R.sub w_found h_t28 (ev_var (i := 3) (x := ((s6.2.2 + (1 : Int)) : Int)) rfl rfl) (ev_var (i := 6) (x := (x27 : Int)) rfl rfl) (fun H G KK S w_found' => ?_))
        have R := KK _ _ _ R (.inl n_found)
        replace f_row := Rep.mono S.ex f_row; replace f_left := Rep.mono S.ex f_left; replace f_gone := Rep.mono S.ex f_gone; replace xGs26 := xGs26.trans S.ex
        replace w_found := w_found'
        refine wb_nil ?_
        exact ⟨_, _, (Option.some.inj h).symm, ⟨_, _, rfl, R, xGs26, f_row, w_found, n_found, f_left, f_gone⟩⟩
      · intro Gs26 s24 σ H G ec hI
        have h := aft_nx ec h
        obtain ⟨o_place_here, p_found, rfl, R, xGs26, f_row, w_found, n_found, f_left, f_gone⟩ := hI
        obtain ⟨t30, h_t30, h⟩ := bind_some h
        refine wb_cons (ws_setLc (i := 2) (own := [("place_here", 6)]) (g := (gName 6)) rfl sc_law_times.nd (blkOk_by (own := [("place_here", 6)]) (N := ["row", "found", "left", "number", "gone", "spot", "place_here", "near", "other"]) (sc := defScope s_law_times) (by decide +kernel)) (ei_list (ev_var (i := 2) rfl f_left)) R.sub (fun _ _ _ _ _ => (pg_name (i := 6) sc_law_times.nd rfl (by first | exact Or.inl rfl | exact Or.inr rfl))) h_t30 (by rintro x G u ⟨_, _, rfl⟩; rfl) (fun sh Hh C cl fp x29 b u Hc Gc S ru hb => by obtain ⟨_, rfl, rfl⟩ := ru; have f_gone := Rep.mono S.ex f_gone; obtain rfl := Option.some.inj hb; exact ets_one (et_nin (ev_var (i := 6) (x := (x29 : Int)) rfl rfl) (ev_var (i := 4) rfl f_gone))) (fun sh Hh C cl fp x29 y u Hc Gc S ru hb hy => by obtain ⟨_, rfl, rfl⟩ := ru; obtain rfl := Option.some.inj hy; exact (ev_var (i := 6) (x := (x29 : Int)) rfl rfl)) (fun p_q31 H G S n_q31 w_q31 => ?_))
        have ne_found_q31 := w_found.ne n_q31; replace n_q31 := R.back n_q31
        replace R := R.then S; replace f_row := Rep.mono S.ex f_row; replace f_left := Rep.mono S.ex f_left; replace f_gone := Rep.mono S.ex f_gone; replace w_found := w_found.step0 S
        obtain ⟨vs_q31, hp_q31, np_q31, rp_q31⟩ := w_q31
        replace R := R.freeze n_q31 np_q31 hp_q31; replace f_row := Rep.mono (Ex.new (o := .lst vs_q31) np_q31) f_row; replace f_left := Rep.mono (Ex.new (o := .lst vs_q31) np_q31) f_left; replace f_gone := Rep.mono (Ex.new (o := .lst vs_q31) np_q31) f_gone; replace w_found := w_found.frz (o := .lst vs_q31) np_q31 (ne_found_q31); have f_q31 := lend1 np_q31 rp_q31
        have f_left := f_q31
        refine wb_nil ?_
        exact ⟨_, _, (Option.some.inj h).symm, ⟨_, _, _, _, _, _, rfl, R, f_row, w_found, n_found, f_left⟩⟩
      · intro y v H ec hrt
        exact hrt.elim
    · intro y v H ec hrt
      exact hrt.elim
  · intro s6 σ H G ec hI
    have h := aft_nx ec h
    obtain ⟨o_gone, o_near, o_place_here, o_spot, p_found, v_left, rfl, R, f_row, w_found, n_found, f_left⟩ := hI
    refine wb_cons (ws_ret (wp_var (i := 1) rfl ?_))
    obtain rfl := Option.some.inj h
    exact q0 _ _ _ R n_found w_found
  · intro y v H ec hrt
    exact hrt.elim
theorem ok_law_is_times {f : Addr} {fd : FuncData} (F : Fun K "_law_is_times" "_law_is_times" s_law_is_times f fd) (z_enumerate : mg "enumerate" = none) (z_len : mg "len" = none) :
    FnG P w K mg base CX0 1 f fd ["value"] ((spV (fun (w : (List Int) × Unit) => m_law_is_times w.1)) K) := by
  refine defG F sc_law_is_times (lenV rfl) (fun cdv A outer s H0 vs Q E hG hr hsp => ?_)
  obtain ⟨G0, wz, r, g0, ra, h, q0⟩ := hsp
  obtain ⟨value, ⟨⟩⟩ := wz
  obtain ⟨v_value, _, rfl, f_value, rfl⟩ := ra
  have R : Rc [] H0 G0 H0 G0 := Rc.refl g0
  replace h : m_law_is_times value = some r := h
  unfold m_law_is_times at h
  clear g0
  obtain ⟨c2, h_c2, h⟩ := bind_some h
  refine wb_cons (ws_for (g := (gTup _ 2 (gCons (gName 1) (gCons (gName 2) gNil)))) PassesOwn.never rfl (ei_enum z_enumerate (ev_var (i := 0) rfl f_value)) R.sub (pg_tup rfl (pgs_cons (pg_name (i := 1) sc_law_is_times.nd rfl (by first | exact Or.inl rfl | exact Or.inr rfl)) (pgs_cons (pg_name (i := 2) sc_law_is_times.nd rfl (by first | exact Or.inl rfl | exact Or.inr rfl)) pgs_nil))) h_c2 (fun Gs3 s1 σ H G => ∃ (o_at : Option V) (o_item : Option V) (o_near : Option V) (o_part : Option V) (o_steps_here : Option V), σ = [some (v_value), o_at, o_item, o_steps_here, o_part, o_near, none, none] ∧ Rc [] H0 G0 H G ∧ Ex Gs3 G ∧ Rep.rel K G v_value value) (RTV K [] H0 G0) ?_ ?_ ?_ ?_ ?_)
  · intro H G S
    replace R := R.then S; replace f_value := Rep.mono S.ex f_value
    exact ⟨_, _, _, _, _, rfl, R, Ex.refl _, f_value⟩
  · intro Gs3 s1 σ H G hI
    obtain ⟨o_at, o_item, o_near, o_part, o_steps_here, rfl, R, xGs3, f_value⟩ := hI
    exact ⟨xGs3, R.sub⟩
  · intro Gs3 s1 σ Hb Gb x4 c' u H G h hI S hu
    obtain ⟨o_at, o_item, o_near, o_part, o_steps_here, rfl, R, xGs3, f_value⟩ := hI
    replace R := R.then S; replace f_value := Rep.mono S.ex f_value; replace xGs3 := xGs3.trans S.ex
    obtain ⟨_, _, rfl, rfl, rfl⟩ := hu
    refine wb_cons (ws_set (i := 3) sc_law_is_times.nd ?_)
    refine EvN.go (ev_lst (α := Bool) (el_cons (ev_eq' (α := Int) hr.units (ev_var (i := 2) (x := (x4.2 : Int)) rfl rfl) (ev_int (i := 1))) el_nil) (by show 1 ≤ 100000; decide)) R.sub (fun p_q5 H G S n_q5 w_q5 => ?_)
    replace n_q5 := R.back n_q5
    replace R := R.then S; replace f_value := Rep.mono S.ex f_value; replace xGs3 := xGs3.trans S.ex
    have w_steps_here := w_q5; have n_steps_here := n_q5
    obtain ⟨c7, h_c7, h⟩ := bind_some h
    refine wb_cons (ws_for (g := (gName 4)) PassesOwn.never rfl (ei_list (EvN.val (ev_lst (α := (List Int)) (el_cons (EvN.val (ev_rev (EvN.val (ev_slice (ev_var (i := 0) rfl f_value) eo_none (eo_some (ev_var (i := 1) (x := (x4.1 : Int)) rfl rfl)))))) (el_cons (EvN.val (ev_slice (ev_var (i := 0) rfl f_value) (eo_some (ev_add (ev_var (i := 1) (x := (x4.1 : Int)) rfl rfl) (ev_int (i := 1)))) eo_none)) el_nil)) (by show 2 ≤ 100000; decide)))) R.sub (pg_name (i := 4) sc_law_is_times.nd rfl (by first | exact Or.inl rfl | exact Or.inr rfl)) h_c7 (fun Gs8 s6 σ H G => ∃ (o_near : Option V) (o_part : Option V) (p_steps_here : Addr), σ = [some (v_value), some (V.int (x4.1)), some (V.int (x4.2)), some (V.ref p_steps_here), o_part, o_near, none, none] ∧ Rc [] H0 G0 H G ∧ Ex Gs3 G ∧ Ex Gs8 G ∧ Rep.rel K G v_value value ∧ Own K H G p_steps_here (s6 : (List Bool)) ∧ H0 p_steps_here = none) (fun (_ : Unit) (_ : V) (_ : Hp) => False) ?_ ?_ ?_ ?_ ?_)
    · intro H G S
      replace R := R.then S; replace f_value := Rep.mono S.ex f_value; replace w_steps_here := w_steps_here.step0 S; replace xGs3 := xGs3.trans S.ex
      exact ⟨_, _, _, rfl, R, xGs3, Ex.refl _, f_value, w_steps_here, n_steps_here⟩
    · intro Gs8 s6 σ H G hI
      obtain ⟨o_near, o_part, p_steps_here, rfl, R, xGs3, xGs8, f_value, w_steps_here, n_steps_here⟩ := hI
      exact ⟨xGs8, R.sub⟩
    · intro Gs8 s6 σ Hb Gb x9 c' u H G h hI S hu
      obtain ⟨o_near, o_part, p_steps_here, rfl, R, xGs3, xGs8, f_value, w_steps_here, n_steps_here⟩ := hI
      replace R := R.then S; replace f_value := Rep.mono S.ex f_value; replace w_steps_here := w_steps_here.step0 S; replace xGs3 := xGs3.trans S.ex; replace xGs8 := xGs8.trans S.ex
      obtain ⟨v10, f_part, rfl⟩ := hu
      refine wb_cons (ws_set (i := 5) sc_law_is_times.nd ?_)
      obtain ⟨t12, h_t12, h⟩ := bind_some h
      obtain ⟨t13, h_t13, h⟩ := bind_some h
      obtain ⟨t14, h_t14, h⟩ := bind_some h
      refine EvN.go (ev_slice (ev_var (i := 4) rfl f_part) eo_none (eo_some (ev_ix h_t14 (EvN.val (ev_cat h_t13 (EvN.val (ev_lc (own := [("spot", 6), ("other", 7)]) (g := (gTup _ 2 (gCons (gName 6) (gCons (gName 7) gNil)))) rfl sc_law_is_times.nd (blkOk_by (own := [("spot", 6), ("other", 7)]) (N := ["value", "at", "item", "steps_here", "part", "near", "spot", "other"]) (sc := defScope s_law_is_times) (by decide +kernel)) (ei_enum z_enumerate (ev_var (i := 4) rfl f_part)) (fun _ _ _ _ _ => (pg_tup rfl (pgs_cons (pg_name (i := 6) sc_law_is_times.nd rfl (by first | exact Or.inl rfl | exact Or.inr rfl)) (pgs_cons (pg_name (i := 7) sc_law_is_times.nd rfl (by first | exact Or.inl rfl | exact Or.inr rfl)) pgs_nil)))) h_t12 (by rintro x G u ⟨_, _, _, _, rfl⟩; rfl) (fun sh Hh C cl fp x11 b u Hc Gc S ru hb => by obtain ⟨_, _, rfl, rfl, rfl⟩ := ru; obtain rfl := Option.some.inj hb; exact ets_one (et_ge (ev_var (i := 7) (x := (x11.2 : Int)) rfl rfl) (ev_var (i := 2) (x := (x4.2 : Int)) rfl rfl))) (fun sh Hh C cl fp x11 y u Hc Gc S ru hb hy => by obtain ⟨_, _, rfl, rfl, rfl⟩ := ru; obtain rfl := Option.some.inj hy; exact (ev_var (i := 6) (x := (x11.1 : Int)) rfl rfl)))) (EvN.val (ev_lst (α := Int) (el_cons (ev_len z_len (ev_var (i := 4) rfl f_part)) el_nil) (by show 1 ≤ 100000; decide))))) (ev_int (i := 0))))) R.sub (fun p_q15 H G S n_q15 w_q15 => ?_)
      have ne_steps_here_q15 := w_steps_here.ne n_q15; replace n_q15 := R.back n_q15
      replace R := R.then S; replace f_value := Rep.mono S.ex f_value; replace f_part := Rep.mono S.ex f_part; replace w_steps_here := w_steps_here.step0 S; replace xGs3 := xGs3.trans S.ex; replace xGs8 := xGs8.trans S.ex
      obtain ⟨vs_q15, hp_q15, np_q15, rp_q15⟩ := w_q15
      replace R := R.freeze n_q15 np_q15 hp_q15; replace f_value := Rep.mono (Ex.new (o := .lst vs_q15) np_q15) f_value; replace f_part := Rep.mono (Ex.new (o := .lst vs_q15) np_q15) f_part; replace w_steps_here := w_steps_here.frz (o := .lst vs_q15) np_q15 (ne_steps_here_q15); replace xGs3 := xGs3.trans (Ex.new (o := .lst vs_q15) np_q15); replace xGs8 := xGs8.trans (Ex.new (o := .lst vs_q15) np_q15); have f_q15 := lend1 np_q15 rp_q15
      have f_near := f_q15
      obtain ⟨t16, h_t16, h⟩ := bind_some h
      refine wb_cons (ws_app (i := 3) rfl R.sub w_steps_here h_t16 (ev_in (ev_sub (ev_var (i := 2) (x := (x4.2 : Int)) rfl rfl) (ev_int (i := 1))) (ev_var (i := 5) rfl f_near)) (fun H G KK S w_steps_here' => ?_))
      have R := KK _ _ _ R (.inl n_steps_here)
      replace f_value := Rep.mono S.ex f_value; replace f_near := Rep.mono S.ex f_near; replace f_part := Rep.mono S.ex f_part; replace xGs3 := xGs3.trans S.ex; replace xGs8 := xGs8.trans S.ex
      replace w_steps_here := w_steps_here'
      refine wb_nil ?_
      exact ⟨_, _, (Option.some.inj h).symm, ⟨_, _, _, rfl, R, xGs3, xGs8, f_value, w_steps_here, n_steps_here⟩⟩
    · intro Gs8 s6 σ H G ec hI
      have h := aft_nx ec h
      obtain ⟨o_near, o_part, p_steps_here, rfl, R, xGs3, xGs8, f_value, w_steps_here, n_steps_here⟩ := hI
      refine wb_cons (ws_if ?_)
      refine EvT.go (by obtain ⟨vs_steps_here, hp_steps_here, np_steps_here, rp_steps_here⟩ := w_steps_here; refine EvT.lend hp_steps_here np_steps_here ?_; have l_steps_here := lend1 np_steps_here rp_steps_here; exact (et_w (ew_orP (et_lt (ev_var (i := 2) (x := (x4.2 : Int)) rfl rfl) (ev_int (i := 1))) (ew_or1 (et_ninLB ev_bl (ev_var (i := 3) rfl l_steps_here)))))) R.sub (fun H G S => ?_)
      replace R := R.then S; replace f_value := Rep.mono S.ex f_value; replace w_steps_here := w_steps_here.step0 S; replace xGs3 := xGs3.trans S.ex
      rcases cond_some h with ⟨hb, h⟩ | ⟨hb, h⟩
      · refine if_t hb ?_
        refine wb_cons (ws_ret ?_)
        refine EvX.go ev_bl R.sub (fun v_q18 H G S f_q18 => ?_)
        replace R := R.then S; replace f_value := Rep.mono S.ex f_value; replace w_steps_here := w_steps_here.step0 S; replace xGs3 := xGs3.trans S.ex
        obtain rfl : v_q18 = V.bl (false) := f_q18
        exact ⟨_, (Option.some.inj h).symm, ⟨_, R, rfl⟩⟩
      · refine if_f hb ?_
        refine wb_nil ?_
        refine wb_nil ?_
        exact ⟨_, _, (Option.some.inj h).symm, ⟨_, _, _, _, _, rfl, R, xGs3, f_value⟩⟩
    · intro y v H ec hrt
      exact hrt.elim
  · intro Gs3 s1 σ H G ec hI
    have h := aft_nx ec h
    obtain ⟨o_at, o_item, o_near, o_part, o_steps_here, rfl, R, xGs3, f_value⟩ := hI
    refine wb_cons (ws_ret ?_)
    refine EvX.go ev_bl R.sub (fun v_q19 H G S f_q19 => ?_)
    replace R := R.then S; replace f_value := Rep.mono S.ex f_value
    obtain rfl : v_q19 = V.bl (true) := f_q19
    obtain rfl := Option.some.inj h
    exact q0 _ _ _ R rfl
  · intro y v H ec hrt
    have h := aft_rt ec h
    obtain rfl := Option.some.inj h
    obtain ⟨G, R, f⟩ := hrt
    exact q0 _ _ _ R f
theorem ok_law_tall {f : Addr} {fd : FuncData} (F : Fun K "_law_tall" "_law_tall" s_law_tall f fd) (c_law_row : Cal P w K mg base "_law_row" 2 ["pot", "most"] ((spMN (fun (pt : (List Int)) (w : Int × Unit) => m_law_row pt w.1)) K)) (c_law_take : Cal P w K mg base "_law_take" 1 ["pot", "many"] ((spM (fun (pt : (List Int)) (w : Int × Unit) => m_law_take pt w.1)) K)) (c_law_times : Cal P w K mg base "_law_times" 1 ["row"] ((spN (fun (w : (List Int) × Unit) => m_law_times w.1)) K)) (z_range : mg "range" = none) (z_len : mg "len" = none) (z_max : mg "max" = none) :
    FnG P w K mg base CX0 3 f fd ["pot", "most"] ((spMN (fun (pt : (List Int)) (w : Int × Unit) => m_law_tall pt w.1)) K) := by
  refine defG F sc_law_tall (lenMN rfl) (fun cdv A outer s H0 vs Q E hG hr hsp => ?_)
  obtain ⟨G0, p_pot, us, pot, wz, r, pot', rfl, g0, w_pot, ra, h, q0⟩ := hsp
  obtain ⟨most, ⟨⟩⟩ := wz
  obtain ⟨_, _, rfl, rfl, rfl⟩ := ra
  have R : Rc [p_pot] H0 G0 H0 G0 := Rc.refl g0
  replace h : m_law_tall pot most = some (r, pot') := h
  unfold m_law_tall at h
  clear g0
  refine wb_cons (ws_set (i := 2) sc_law_tall.nd ?_)
  refine wc c_law_row hG hr (by decide) ?_
  refine wpA_cons (wp_var (i := 0) rfl ?_)
  refine wpA_cons ?_
  refine EvX.go (ev_var (i := 1) (x := (most : Int)) rfl rfl) R.sub (fun v_q1 H G S f_q1 => ?_)
  replace R := R.then S; replace w_pot := w_pot.step0 S
  obtain rfl : v_q1 = V.int (most) := f_q1
  refine wpA_nil ?_
  obtain ⟨t2, h_t2, h⟩ := bind_some h
  refine ⟨_, _, _, _, (most, ()), _, _, rfl, R.sub, w_pot, ⟨_, _, rfl, rfl, rfl⟩, h_t2, fun p_q3 H G S n_q3 o w_q3 => ?_⟩
  have ne_pot_q3 := w_pot.ne n_q3; replace n_q3 := R.back n_q3
  replace R := R.trans S
  replace w_pot := o
  obtain ⟨vs_q3, hp_q3, np_q3, rp_q3⟩ := w_q3
  replace R := R.freeze n_q3 np_q3 hp_q3; replace w_pot := w_pot.frz (o := .lst vs_q3) np_q3 (ne_pot_q3); have f_q3 := lend1 np_q3 rp_q3
  have f_row := f_q3
  obtain ⟨t4, h_t4, h⟩ := bind_some h
  refine wb_cut (fun σ H => ∃ G, ∃ (v_row : V), σ = [some (V.ref p_pot), some (V.int (most)), some (v_row), none, none] ∧ Rc [p_pot] H0 G0 H G ∧ Own K H G p_pot (t4.1 : (List Int)) ∧ Rep.rel K G v_row t4.2) ?_ ?_
  · have h := h_t4
    refine ws_if ?_
    refine wt_cmp (op_eqS hr.units) (nomark _) ?_
    refine wc c_law_take hG hr (by decide) ?_
    refine wpA_cons (wp_var (i := 0) rfl ?_)
    refine wpA_cons ?_
    refine EvX.go (ev_int (i := 3)) R.sub (fun v_q5 H G S f_q5 => ?_)
    replace R := R.then S; replace f_row := Rep.mono S.ex f_row; replace w_pot := w_pot.step0 S
    obtain rfl : v_q5 = V.int ((3 : Int)) := f_q5
    refine wpA_nil ?_
    obtain ⟨t6, h_t6, h⟩ := bind_some h
    refine ⟨_, _, _, _, ((3 : Int), ()), _, _, rfl, R.sub, w_pot, ⟨_, _, rfl, rfl, rfl⟩, h_t6, fun v_q7 H G S o f_q7 => ?_⟩
    replace R := R.trans S; replace f_row := Rep.mono S.ex f_row
    replace w_pot := o
    obtain rfl : v_q7 = V.int (t6.1) := f_q7
    refine EvX.go (ev_int (i := 0)) R.sub (fun v_q8 H G S f_q8 => ?_)
    replace R := R.then S; replace f_row := Rep.mono S.ex f_row; replace w_pot := w_pot.step0 S
    obtain rfl : v_q8 = V.int ((0 : Int)) := f_q8
    refine Eqs.eq (α := Int) hr.units _ _ _ _ (Rc.refl R.sub) rfl rfl _ (fun v9 H G S f_v9 => ?_)
    replace R := R.then S; replace f_row := Rep.mono S.ex f_row; replace w_pot := w_pot.step0 S
    refine ⟨_, f_v9, ?_⟩
    rcases cond_some h with ⟨hb, h⟩ | ⟨hb, h⟩
    · refine if_t hb ?_
      refine wb_cons (ws_setLcR (i := 2) Int Int (own := [("at", 3)]) (j := 3) (a := p_pot) rfl sc_law_tall.nd (blkOk_by (own := [("at", 3)]) (N := ["pot", "most", "row", "at", "found"]) (sc := defScope s_law_tall) (by decide +kernel)) z_range (fun _ _ _ _ _ => (pg_name (i := 3) sc_law_tall.nd rfl (by first | exact Or.inl rfl | exact Or.inr rfl))) (by rintro x G u ⟨_, _, rfl⟩; rfl) ?_)
      refine wc c_law_take hG hr (by decide) ?_
      refine wpA_cons (wp_var (i := 0) rfl ?_)
      refine wpA_cons ?_
      refine EvX.go (ev_add (ev_var (i := 1) (x := (most : Int)) rfl rfl) (ev_int (i := 1))) R.sub (fun v_q11 H G S f_q11 => ?_)
      replace R := R.then S; replace f_row := Rep.mono S.ex f_row; replace w_pot := w_pot.step0 S
      obtain rfl : v_q11 = V.int ((most + (1 : Int))) := f_q11
      refine wpA_nil ?_
      obtain ⟨t12, h_t12, h⟩ := bind_some h
      refine ⟨_, _, _, _, ((most + (1 : Int)), ()), _, _, rfl, R.sub, w_pot, ⟨_, _, rfl, rfl, rfl⟩, h_t12, fun v_q13 H G S o f_q13 => ?_⟩
      replace R := R.trans S; replace f_row := Rep.mono S.ex f_row
      replace w_pot := o
      obtain rfl : v_q13 = V.int (t12.1) := f_q13
      obtain ⟨t14, h_t14, h⟩ := bind_some h
      obtain ⟨t19, h_t19, h⟩ := bind_some h
      refine ⟨_, _, _, _, _, _, rfl, h_t14, R.sub, w_pot, h_t19, ?_, fun p_q20 H G S n_q20 o w_q20 => ?_⟩
      · intro sh Hh C cl fp x15 pt y u Hc Gc Sc ru h owp
        obtain ⟨_, rfl, rfl⟩ := ru
        have R : Rc [p_pot] Hc Gc Hc Gc := Rc.refl Sc.sub
        have w_pot := owp
        have f_row := Rep.mono Sc.ex f_row
        refine wc c_law_take hG hr (by decide) ?_
        refine wpA_cons (wp_var (i := 0) rfl ?_)
        refine wpA_cons ?_
        refine EvX.go (ev_int (i := 3)) R.sub (fun v_q16 H G S f_q16 => ?_)
        replace R := R.then S; replace f_row := Rep.mono S.ex f_row; replace w_pot := w_pot.step0 S
        obtain rfl : v_q16 = V.int ((3 : Int)) := f_q16
        refine wpA_nil ?_
        obtain ⟨t17, h_t17, h⟩ := bind_some h
        refine ⟨_, _, _, _, ((3 : Int), ()), _, _, rfl, R.sub, w_pot, ⟨_, _, rfl, rfl, rfl⟩, h_t17, fun v_q18 H G S o f_q18 => ?_⟩
        replace R := R.trans S; replace f_row := Rep.mono S.ex f_row
        replace w_pot := o
        obtain rfl : v_q18 = V.int (t17.1) := f_q18
        obtain rfl := Option.some.inj h
        exact ⟨_, R, w_pot, rfl⟩
      have ne_pot_q20 := w_pot.ne n_q20; replace n_q20 := R.back n_q20
      replace R := R.trans S; replace f_row := Rep.mono S.ex f_row
      replace w_pot := o
      obtain ⟨vs_q20, hp_q20, np_q20, rp_q20⟩ := w_q20
      replace R := R.freeze n_q20 np_q20 hp_q20; replace f_row := Rep.mono (Ex.new (o := .lst vs_q20) np_q20) f_row; replace w_pot := w_pot.frz (o := .lst vs_q20) np_q20 (ne_pot_q20); have f_q20 := lend1 np_q20 rp_q20
      have f_row := f_q20
      refine wb_nil ?_
      obtain rfl := Option.some.inj h
      exact ⟨_, ⟨_, rfl, R, w_pot, f_row⟩⟩
    · refine if_f hb ?_
      refine wb_nil ?_
      obtain rfl := Option.some.inj h
      exact ⟨_, ⟨_, rfl, R, w_pot, f_row⟩⟩
  · intro σ H hM
    obtain ⟨G, v_row, rfl, R, w_pot, f_row⟩ := hM
    refine wb_cons (ws_set (i := 4) sc_law_tall.nd ?_)
    obtain ⟨t21, h_t21, h⟩ := bind_some h
    refine EvN.go (ec_N (w := (t4.2, ())) c_law_times hG hr (by decide) h_t21 (ea_cons (ev_var (i := 2) rfl f_row) ea_nil)) R.sub (fun p_q22 H G S n_q22 w_q22 => ?_)
    have ne_pot_q22 := w_pot.ne n_q22; replace n_q22 := R.back n_q22
    replace R := R.then S; replace f_row := Rep.mono S.ex f_row; replace w_pot := w_pot.step0 S
    have w_found := w_q22; have n_found := n_q22; have ne_pot_found := ne_pot_q22
    obtain ⟨t23, h_t23, h⟩ := bind_some h
    refine wb_cut (fun σ H => ∃ G, ∃ (p_found : Addr), σ = [some (V.ref p_pot), some (V.int (most)), some (v_row), none, some (V.ref p_found)] ∧ Rc [p_pot] H0 G0 H G ∧ Own K H G p_pot (t23.2 : (List Int)) ∧ Rep.rel K G v_row t4.2 ∧ Own K H G p_found (t23.1 : (List Int)) ∧ H0 p_found = none ∧ p_pot ≠ p_found) ?_ ?_
    · have h := h_t23
      refine ws_if ?_
      refine wt_w (ww_and ?_)
      refine wt_cmp (op_eqS hr.units) (nomark _) ?_
      refine wc c_law_take hG hr (by decide) ?_
      refine wpA_cons (wp_var (i := 0) rfl ?_)
      refine wpA_cons ?_
      refine EvX.go (ev_int (i := 3)) R.sub (fun v_q24 H G S f_q24 => ?_)
      replace R := R.then S; replace f_row := Rep.mono S.ex f_row; replace w_pot := w_pot.step0 S; replace w_found := w_found.step0 S
      obtain rfl : v_q24 = V.int ((3 : Int)) := f_q24
      refine wpA_nil ?_
      obtain ⟨t25, h_t25, h⟩ := bind_some h
      refine ⟨_, _, _, _, ((3 : Int), ()), _, _, rfl, R.sub, w_pot, ⟨_, _, rfl, rfl, rfl⟩, h_t25, fun v_q26 H G S o f_q26 => ?_⟩
      replace R := R.trans S; replace f_row := Rep.mono S.ex f_row; replace w_found := w_found.step S (ne_sing (ne_pot_found.symm))
      replace w_pot := o
      obtain rfl : v_q26 = V.int (t25.1) := f_q26
      refine EvX.go (ev_int (i := 0)) R.sub (fun v_q27 H G S f_q27 => ?_)
      replace R := R.then S; replace f_row := Rep.mono S.ex f_row; replace w_pot := w_pot.step0 S; replace w_found := w_found.step0 S
      obtain rfl : v_q27 = V.int ((0 : Int)) := f_q27
      refine Eqs.eq (α := Int) hr.units _ _ _ _ (Rc.refl R.sub) rfl rfl _ (fun v28 H G S f_v28 => ?_)
      replace R := R.then S; replace f_row := Rep.mono S.ex f_row; replace w_pot := w_pot.step0 S; replace w_found := w_found.step0 S
      refine ⟨_, f_v28, ?_⟩
      obtain ⟨t31, h_t31, h⟩ := bind_some h
      refine ww_rest (t := t31) (fun ha => by have hh := cond_t ha h_t31; obtain ⟨t30, h_t30, hh⟩ := bind_some hh; obtain rfl := Option.some.inj hh; exact ew_and1 (by obtain ⟨vs_found, hp_found, np_found, rp_found⟩ := w_found; refine EvT.lend hp_found np_found ?_; have l_found := lend1 np_found rp_found; exact (et_lt (ev_mul h_t30 (ev_int (i := 2)) (ev_len z_len (ev_var (i := 4) rfl l_found))) (ev_var (i := 1) (x := (most : Int)) rfl rfl)))) (fun ha => (Option.some.inj (cond_f ha h_t31)).symm) R.sub (fun H G S => ?_)
      replace R := R.then S; replace f_row := Rep.mono S.ex f_row; replace w_pot := w_pot.step0 S; replace w_found := w_found.step0 S
      rcases cond_some h with ⟨hb, h⟩ | ⟨hb, h⟩
      · refine if_t hb ?_
        refine wb_cons (ws_set (i := 4) sc_law_tall.nd ?_)
        obtain ⟨t33, h_t33, h⟩ := bind_some h
        obtain ⟨t34, h_t34, h⟩ := bind_some h
        obtain ⟨t35, h_t35, h⟩ := bind_some h
        obtain ⟨t36, h_t36, h⟩ := bind_some h
        refine EvN.go (by obtain ⟨vs_found, hp_found, np_found, rp_found⟩ := w_found; refine EvN.lend (γ := Int) hp_found np_found ?_; have l_found := lend1 np_found rp_found; exact (ev_cat h_t36 (EvN.val (ev_cat h_t35 (ev_var (i := 4) rfl l_found) (EvN.val (ev_lst (α := Int) (el_cons (ev_add (ev_maxL rfl z_max h_t34 (EvN.val (ev_cat h_t33 (ev_var (i := 4) rfl l_found) (EvN.val (ev_lst (α := Int) (el_cons (ev_int (i := 0)) el_nil) (by show 1 ≤ 100000; decide)))))) (ev_int (i := 1))) el_nil) (by show 1 ≤ 100000; decide))))) (EvN.val (ev_rev (ev_var (i := 4) rfl l_found))))) R.sub (fun p_q37 H G S n_q37 w_q37 => ?_)
        have ne_pot_q37 := w_pot.ne n_q37; have ne_found_q37 := w_found.ne n_q37; replace n_q37 := R.back n_q37
        replace R := R.then S; replace f_row := Rep.mono S.ex f_row; replace w_pot := w_pot.step0 S; replace w_found := w_found.step0 S
        have w_found := w_q37; have n_found := n_q37; have ne_pot_found := ne_pot_q37
        refine wb_nil ?_
        obtain rfl := Option.some.inj h
        exact ⟨_, ⟨_, rfl, R, w_pot, f_row, w_found, n_found, ne_pot_found⟩⟩
      · refine if_f hb ?_
        refine wb_nil ?_
        obtain rfl := Option.some.inj h
        exact ⟨_, ⟨_, rfl, R, w_pot, f_row, w_found, n_found, ne_pot_found⟩⟩
    · intro σ H hM
      obtain ⟨G, p_found, rfl, R, w_pot, f_row, w_found, n_found, ne_pot_found⟩ := hM
      refine wb_cons (ws_ret (wp_var (i := 4) rfl ?_))
      cases Option.some.inj h
      exact q0 _ _ _ R n_found w_pot w_found
theorem ok_law_lists {f : Addr} {fd : FuncData} (F : Fun K "_law_lists" "_law_lists" s_law_lists f fd) (z_range : mg "range" = none) :
    FnG P w K mg base CX0 1 f fd ["size", "low", "high"] ((spN (fun (w : Int × Int × Int × Unit) => m_law_lists w.1 w.2.1 w.2.2.1)) K) := by
  refine defG F sc_law_lists (lenN rfl) (fun cdv A outer s H0 vs Q E hG hr hsp => ?_)
  obtain ⟨G0, wz, r, g0, ra, h, q0⟩ := hsp
  obtain ⟨size, low, high, ⟨⟩⟩ := wz
  obtain ⟨_, _, rfl, rfl, _, _, rfl, rfl, _, _, rfl, rfl, rfl⟩ := ra
  have R : Rc [] H0 G0 H0 G0 := Rc.refl g0
  replace h : m_law_lists size low high = some r := h
  unfold m_law_lists at h
  clear g0
  refine wb_cons (ws_set (i := 3) sc_law_lists.nd ?_)
  refine EvN.go (ev_lst (α := (List Int)) (el_cons (EvN.val (ev_lst (α := Int) el_nil (by show 0 ≤ 100000; decide))) el_nil) (by show 1 ≤ 100000; decide)) R.sub (fun p_q1 H G S n_q1 w_q1 => ?_)
  replace n_q1 := R.back n_q1
  replace R := R.then S
  have w_found := w_q1; have n_found := n_q1
  obtain ⟨t3, h_t3, h⟩ := bind_some h
  obtain ⟨c4, h_c4, h⟩ := bind_some h
  refine wb_cons (ws_for (g := (gName 4)) PassesOwn.never rfl (ei_rng1 z_range h_t3 (ev_var (i := 0) (x := (size : Int)) rfl rfl)) R.sub (pg_name (i := 4) sc_law_lists.nd rfl (by first | exact Or.inl rfl | exact Or.inr rfl)) h_c4 (fun Gs5 s2 σ H G => ∃ (o_at : Option V) (o_longer : Option V) (o_some : Option V) (p_found : Addr), σ = [some (V.int (size)), some (V.int (low)), some (V.int (high)), some (V.ref p_found), o_at, o_longer, o_some, none] ∧ Rc [] H0 G0 H G ∧ Ex Gs5 G ∧ Own K H G p_found (s2 : (List (List Int))) ∧ H0 p_found = none) (fun (_ : Unit) (_ : V) (_ : Hp) => False) ?_ ?_ ?_ ?_ ?_)
  · intro H G S
    replace R := R.then S; replace w_found := w_found.step0 S
    exact ⟨_, _, _, _, rfl, R, Ex.refl _, w_found, n_found⟩
  · intro Gs5 s2 σ H G hI
    obtain ⟨o_at, o_longer, o_some, p_found, rfl, R, xGs5, w_found, n_found⟩ := hI
    exact ⟨xGs5, R.sub⟩
  · intro Gs5 s2 σ Hb Gb x6 c' u H G h hI S hu
    obtain ⟨o_at, o_longer, o_some, p_found, rfl, R, xGs5, w_found, n_found⟩ := hI
    replace R := R.then S; replace w_found := w_found.step0 S; replace xGs5 := xGs5.trans S.ex
    obtain ⟨_, rfl, rfl⟩ := hu
    refine wb_cons (ws_set (i := 5) sc_law_lists.nd ?_)
    refine EvN.go (ev_lst (α := (List Int)) el_nil (by show 0 ≤ 100000; decide)) R.sub (fun p_q7 H G S n_q7 w_q7 => ?_)
    have ne_found_q7 := w_found.ne n_q7; replace n_q7 := R.back n_q7
    replace R := R.then S; replace w_found := w_found.step0 S; replace xGs5 := xGs5.trans S.ex
    have w_longer := w_q7; have n_longer := n_q7; have ne_found_longer := ne_found_q7
    obtain ⟨vs_found, hp_found, np_found, rp_found⟩ := w_found
    replace R := R.freeze n_found np_found hp_found; replace w_longer := w_longer.frz (o := .lst vs_found) np_found (ne_found_longer.symm); replace xGs5 := xGs5.trans (Ex.new (o := .lst vs_found) np_found); have f_found := lend1 np_found rp_found
    obtain ⟨c9, h_c9, h⟩ := bind_some h
    refine wb_cons (ws_for (g := (gName 6)) PassesOwn.never rfl (ei_list (ev_var (i := 3) rfl f_found)) R.sub (pg_name (i := 6) sc_law_lists.nd rfl (by first | exact Or.inl rfl | exact Or.inr rfl)) h_c9 (fun Gs10 s8 σ H G => ∃ (o_some : Option V) (p_longer : Addr), σ = [some (V.int (size)), some (V.int (low)), some (V.int (high)), some ((V.ref p_found)), some (V.int (x6)), some (V.ref p_longer), o_some, none] ∧ Rc [] H0 G0 H G ∧ Ex Gs5 G ∧ Ex Gs10 G ∧ Rep.rel K G (V.ref p_found) s2 ∧ Own K H G p_longer (s8 : (List (List Int))) ∧ H0 p_longer = none) (fun (_ : Unit) (_ : V) (_ : Hp) => False) ?_ ?_ ?_ ?_ ?_)
    · intro H G S
      replace R := R.then S; replace f_found := Rep.mono S.ex f_found; replace w_longer := w_longer.step0 S; replace xGs5 := xGs5.trans S.ex
      exact ⟨_, _, rfl, R, xGs5, Ex.refl _, f_found, w_longer, n_longer⟩
    · intro Gs10 s8 σ H G hI
      obtain ⟨o_some, p_longer, rfl, R, xGs5, xGs10, f_found, w_longer, n_longer⟩ := hI
      exact ⟨xGs10, R.sub⟩
    · intro Gs10 s8 σ Hb Gb x11 c' u H G h hI S hu
      obtain ⟨o_some, p_longer, rfl, R, xGs5, xGs10, f_found, w_longer, n_longer⟩ := hI
      replace R := R.then S; replace f_found := Rep.mono S.ex f_found; replace w_longer := w_longer.step0 S; replace xGs5 := xGs5.trans S.ex; replace xGs10 := xGs10.trans S.ex
      obtain ⟨v12, f_some, rfl⟩ := hu
      obtain ⟨t13, h_t13, h⟩ := bind_some h
      obtain ⟨t16, h_t16, h⟩ := bind_some h
      obtain ⟨t17, h_t17, h⟩ := bind_some h
      refine wb_cons (ws_ext (i := 5) rfl R.sub w_longer h_t17 (EvN.val (ev_lc (own := [("one", 7)]) (g := (gName 7)) rfl sc_law_lists.nd (blkOk_by (own := [("one", 7)]) (N := ["size", "low", "high", "found", "at", "longer", "some", "one"]) (sc := defScope s_law_lists) (by decide +kernel)) (ei_rng2 z_range h_t13 (ev_var (i := 1) (x := (low : Int)) rfl rfl) (ev_add (ev_var (i := 2) (x := (high : Int)) rfl rfl) (ev_int (i := 1)))) (fun _ _ _ _ _ => (pg_name (i := 7) sc_law_lists.nd rfl (by first | exact Or.inl rfl | exact Or.inr rfl))) h_t16 (by rintro x G u ⟨_, _, rfl⟩; rfl) (fun sh Hh C cl fp x14 b u Hc Gc S ru hb => by obtain rfl := Option.some.inj hb; exact ets_nil) (fun sh Hh C cl fp x14 y u Hc Gc S ru hb hy => by obtain ⟨_, rfl, rfl⟩ := ru; have f_some := Rep.mono S.ex f_some; obtain ⟨t15, h_t15, hy⟩ := bind_some hy; obtain rfl := Option.some.inj hy; exact (EvN.val (ev_cat h_t15 (ev_var (i := 6) rfl f_some) (EvN.val (ev_lst (α := Int) (el_cons (ev_var (i := 7) (x := (x14 : Int)) rfl rfl) el_nil) (by show 1 ≤ 100000; decide)))))))) (fun H G KK S w_longer' => ?_))
      have R := KK _ _ _ R (.inl n_longer)
      replace f_found := Rep.mono S.ex f_found; replace f_some := Rep.mono S.ex f_some; replace xGs5 := xGs5.trans S.ex; replace xGs10 := xGs10.trans S.ex
      replace w_longer := w_longer'
      refine wb_nil ?_
      exact ⟨_, _, (Option.some.inj h).symm, ⟨_, _, rfl, R, xGs5, xGs10, f_found, w_longer, n_longer⟩⟩
    · intro Gs10 s8 σ H G ec hI
      have h := aft_nx ec h
      obtain ⟨o_some, p_longer, rfl, R, xGs5, xGs10, f_found, w_longer, n_longer⟩ := hI
      refine wb_cons (ws_set (i := 3) sc_law_lists.nd (wp_var (i := 5) rfl ?_))
      have w_q18 := w_longer; have n_q18 := n_longer
      have w_found := w_q18; have n_found := n_q18
      refine wb_nil ?_
      exact ⟨_, _, (Option.some.inj h).symm, ⟨_, _, _, _, rfl, R, xGs5, w_found, n_found⟩⟩
    · intro y v H ec hrt
      exact hrt.elim
  · intro Gs5 s2 σ H G ec hI
    have h := aft_nx ec h
    obtain ⟨o_at, o_longer, o_some, p_found, rfl, R, xGs5, w_found, n_found⟩ := hI
    refine wb_cons (ws_ret (wp_var (i := 3) rfl ?_))
    obtain rfl := Option.some.inj h
    exact q0 _ _ _ R n_found w_found
  · intro y v H ec hrt
    exact hrt.elim
theorem ok_law_small_right {f : Addr} {fd : FuncData} (F : Fun K "_law_small_right" "_law_small_right" s_law_small_right f fd) (c_law_lists : Cal P w K mg base "_law_lists" 1 ["size", "low", "high"] ((spN (fun (w : Int × Int × Int × Unit) => m_law_lists w.1 w.2.1 w.2.2.1)) K)) (c_law_times : Cal P w K mg base "_law_times" 1 ["row"] ((spN (fun (w : (List Int) × Unit) => m_law_times w.1)) K)) (c_is_times : Cal P w K mg base "is_times" 3 ["value"] ((spV (fun (w : PyData × Unit) => m_is_times w.1)) K)) (z_min : mg "min" = none) (z_tuple : mg "tuple" = none) :
    FnG P w K mg base CX0 4 f fd ["size"] ((spV (fun (w : Int × Unit) => m_law_small_right w.1)) K) := by
  refine defG F sc_law_small_right (lenV rfl) (fun cdv A outer s H0 vs Q E hG hr hsp => ?_)
  obtain ⟨G0, wz, r, g0, ra, h, q0⟩ := hsp
  obtain ⟨size, ⟨⟩⟩ := wz
  obtain ⟨_, _, rfl, rfl, rfl⟩ := ra
  have R : Rc [] H0 G0 H0 G0 := Rc.refl g0
  replace h : m_law_small_right size = some r := h
  unfold m_law_small_right at h
  clear g0
  refine wb_cons (ws_set (i := 1) sc_law_small_right.nd ?_)
  refine toE pe_dnewT (fun p_known n_known => ?_)
  have L : KeysAt H0 (upd H0 p_known (.dT [])) G0 p_known [] := ⟨upd_same, none_back R.sub n_known, n_known⟩
  have S2 : Rc [] H0 G0 (upd H0 p_known (.dT [])) G0 := Rc.new R.sub n_known
  replace R := R.then S2
  obtain ⟨t3, h_t3, h⟩ := bind_some h
  obtain ⟨c4, h_c4, h⟩ := bind_some h
  refine wb_cons (ws_for (g := (gName 2)) PassesOwn.never rfl (ei_list (EvN.val (ec_N (w := (size, (0 : Int), (size - (1 : Int)), ())) c_law_lists hG hr (by decide) h_t3 (ea_cons (ev_var (i := 0) (x := (size : Int)) rfl rfl) (ea_cons (ev_int (i := 0)) (ea_cons (ev_sub (ev_var (i := 0) (x := (size : Int)) rfl rfl) (ev_int (i := 1))) ea_nil)))))) R.sub (pg_name (i := 2) sc_law_small_right.nd rfl (by first | exact Or.inl rfl | exact Or.inr rfl)) h_c4 (fun Gs5 s2 σ H G => ∃ (o_row : Option V), σ = [some (V.int (size)), some (V.ref p_known), o_row, none] ∧ Rc [] H0 G0 H G ∧ Ex Gs5 G ∧ KeysAt H0 H G p_known s2) (fun (_ : Unit) (_ : V) (_ : Hp) => False) ?_ ?_ ?_ ?_ ?_)
  · intro H G S
    replace R := R.then S; replace L := L.step0 S
    exact ⟨_, rfl, R, Ex.refl _, L⟩
  · intro Gs5 s2 σ H G hI
    obtain ⟨o_row, rfl, R, xGs5, L⟩ := hI
    exact ⟨xGs5, R.sub⟩
  · intro Gs5 s2 σ Hb Gb x6 c' u H G h hI S hu
    obtain ⟨o_row, rfl, R, xGs5, L⟩ := hI
    replace R := R.then S; replace L := L.step0 S; replace xGs5 := xGs5.trans S.ex
    obtain ⟨v7, f_row, rfl⟩ := hu
    obtain ⟨t8, h_t8, h⟩ := bind_some h
    obtain ⟨t9, h_t9, h⟩ := bind_some h
    refine wb_cons (toS (ps_dput (Nat.lt_of_le_of_lt (Nat.add_le_add_left (by decide : 1 ≤ 64) _) hr.units) pe_wp pe_wp pe_wp (by rfl)) ?_)
    refine EvX.go (ev_int (i := 1)) R.sub (fun v_one H G S f_one => ?_)
    replace R := R.then S; replace f_row := Rep.mono S.ex f_row; replace xGs5 := xGs5.trans S.ex; replace L := L.step0 S
    obtain rfl : v_one = V.int 1 := f_one
    refine wp_var (i := 1) rfl ?_
    refine EvX.go (ev_tupI z_tuple (EvN.val (ec_N (w := (x6, ())) c_law_times hG hr (by decide) h_t8 (ea_cons (ev_var (i := 2) rfl f_row) ea_nil)))) R.sub (fun v_q8 H G S f_key => ?_)
    replace R := R.then S; replace f_row := Rep.mono S.ex f_row; replace xGs5 := xGs5.trans S.ex; replace L := L.step0 S
    obtain ⟨b, rfl, hb⟩ := f_key
    have hb1 : H b = some (.tup ((kk t8).map kV)) := by
      rw [kk_V]
      exact R.sub _ _ hb
    obtain ⟨j2, j3⟩ := L.put R h_t9
    refine ⟨p_known, _, rfl, DPut.t (k := kk t8) (b := b) L.h hb1 (kv1_put h_t9).2, ?_⟩
    refine wb_nil ?_
    exact ⟨_, _, (Option.some.inj h).symm, ⟨_, rfl, j2, xGs5, j3⟩⟩
  · intro Gs5 s2 σ H G ec hI
    have h := aft_nx ec h
    obtain ⟨o_row, rfl, R, xGs5, L⟩ := hI
    obtain ⟨R, hK⟩ := L.fin R
    have f_known := hK K
    clear hK
    clear L
    obtain ⟨t11, h_t11, h⟩ := bind_some h
    obtain ⟨c12, h_c12, h⟩ := bind_some h
    refine wb_cons (ws_for (g := (gName 3)) PassesOwn.never rfl (ei_list (EvN.val (ec_N (w := (size, (1 : Int), (min (4 : Int) (size + (1 : Int))), ())) c_law_lists hG hr (by decide) h_t11 (ea_cons (ev_var (i := 0) (x := (size : Int)) rfl rfl) (ea_cons (ev_int (i := 1)) (ea_cons (ev_min2 rfl z_min (ev_int (i := 4)) (ev_add (ev_var (i := 0) (x := (size : Int)) rfl rfl) (ev_int (i := 1)))) ea_nil)))))) R.sub (pg_name (i := 3) sc_law_small_right.nd rfl (by first | exact Or.inl rfl | exact Or.inr rfl)) h_c12 (fun Gs13 s10 σ H G => ∃ (o_some : Option V), σ = [some (V.int (size)), some (V.ref p_known), o_row, o_some] ∧ Rc [] H0 G0 H G ∧ Ex Gs13 G ∧ Rep.rel K G (V.ref p_known) (Keys.mk s2)) (RTV K [] H0 G0) ?_ ?_ ?_ ?_ ?_)
    · intro H G S
      replace R := R.then S; replace f_known := Rep.mono S.ex f_known
      exact ⟨_, rfl, R, Ex.refl _, f_known⟩
    · intro Gs13 s10 σ H G hI
      obtain ⟨o_some, rfl, R, xGs13, f_known⟩ := hI
      exact ⟨xGs13, R.sub⟩
    · intro Gs13 s10 σ Hb Gb x14 c' u H G h hI S hu
      obtain ⟨o_some, rfl, R, xGs13, f_known⟩ := hI
      replace R := R.then S; replace f_known := Rep.mono S.ex f_known; replace xGs13 := xGs13.trans S.ex
      obtain ⟨v15, f_some, rfl⟩ := hu
      refine wb_cons (ws_if ?_)
      obtain ⟨t16, h_t16, h⟩ := bind_some h
      refine EvT.go (et_ne' (α := Bool) (x := t16) (y := decide (x14 ∈ s2)) hr.units (ec_V (w := ((PyData.list (List.map PyData.int x14)), ())) c_is_times hG hr (by decide) h_t16 (ea_cons (ev_dInts (ev_var (i := 3) rfl f_some)) ea_nil)) (ev_inKeys (x := Keys.mk s2) (k := TupI.mk x14) (Nat.lt_of_le_of_lt (Nat.add_le_add_left (by decide : 1 ≤ 64) _) hr.units) (ev_tupI z_tuple (ev_var (i := 3) rfl f_some)) (ev_var (i := 1) rfl f_known))) R.sub (fun H G S => ?_)
      replace R := R.then S; replace f_some := Rep.mono S.ex f_some; replace f_known := Rep.mono S.ex f_known; replace xGs13 := xGs13.trans S.ex
      rcases cond_some h with ⟨hb, h⟩ | ⟨hb, h⟩
      · refine if_t hb ?_
        refine wb_cons (ws_ret ?_)
        refine EvX.go ev_bl R.sub (fun v_q18 H G S f_q18 => ?_)
        replace R := R.then S; replace f_some := Rep.mono S.ex f_some; replace f_known := Rep.mono S.ex f_known; replace xGs13 := xGs13.trans S.ex
        obtain rfl : v_q18 = V.bl (false) := f_q18
        exact ⟨_, (Option.some.inj h).symm, ⟨_, R, rfl⟩⟩
      · refine if_f hb ?_
        refine wb_nil ?_
        refine wb_nil ?_
        exact ⟨_, _, (Option.some.inj h).symm, ⟨_, rfl, R, xGs13, f_known⟩⟩
    · intro Gs13 s10 σ H G ec hI
      have h := aft_nx ec h
      obtain ⟨o_some, rfl, R, xGs13, f_known⟩ := hI
      refine wb_cons (ws_ret ?_)
      refine EvX.go ev_bl R.sub (fun v_q19 H G S f_q19 => ?_)
      replace R := R.then S; replace f_known := Rep.mono S.ex f_known
      obtain rfl : v_q19 = V.bl (true) := f_q19
      obtain rfl := Option.some.inj h
      exact q0 _ _ _ R rfl
    · intro y v H ec hrt
      have h := aft_rt ec h
      obtain rfl := Option.some.inj h
      obtain ⟨G, R, f⟩ := hrt
      exact q0 _ _ _ R f
  · intro y v H ec hrt
    exact hrt.elim
theorem ok_law {f : Addr} {fd : FuncData} (F : Fun K "law" "law" s_law f fd) (c_law_small_right : Cal P w K mg base "_law_small_right" 4 ["size"] ((spV (fun (w : Int × Unit) => m_law_small_right w.1)) K)) (c_law_lists : Cal P w K mg base "_law_lists" 1 ["size", "low", "high"] ((spN (fun (w : Int × Int × Int × Unit) => m_law_lists w.1 w.2.1 w.2.2.1)) K)) (c_is_times : Cal P w K mg base "is_times" 3 ["value"] ((spV (fun (w : PyData × Unit) => m_is_times w.1)) K)) (c_law_is_times : Cal P w K mg base "_law_is_times" 1 ["value"] ((spV (fun (w : (List Int) × Unit) => m_law_is_times w.1)) K)) (c_law_pot : Cal P w K mg base "_law_pot" 1 ["script", "k"] ((spN (fun (w : Scr × Int × Unit) => m_law_pot w.1 w.2.1)) K)) (c_law_tall : Cal P w K mg base "_law_tall" 3 ["pot", "most"] ((spMN (fun (pt : (List Int)) (w : Int × Unit) => m_law_tall pt w.1)) K)) (c_law_take : Cal P w K mg base "_law_take" 1 ["pot", "many"] ((spM (fun (pt : (List Int)) (w : Int × Unit) => m_law_take pt w.1)) K)) (z_range : mg "range" = none) (z_max : mg "max" = none) (z_min : mg "min" = none) (z_len : mg "len" = none) (z_repr : mg "repr" = none) (z_tuple : mg "tuple" = none) :
    FnG P w K mg base CX0 5 f fd ["script"] ((spV (fun (w : Scr × Unit) => m_law w.1)) K) := by
  refine defG F sc_law (lenV rfl) (fun cdv A outer s H0 vs Q E hG hr hsp => ?_)
  obtain ⟨G0, wz, r, g0, ra, h, q0⟩ := hsp
  obtain ⟨script, ⟨⟩⟩ := wz
  obtain ⟨v_script, _, rfl, f_script, rfl⟩ := ra
  have R : Rc [] H0 G0 H0 G0 := Rc.refl g0
  replace h : m_law script = some r := h
  unfold m_law at h
  clear g0
  obtain ⟨t2, h_t2, h⟩ := bind_some h
  obtain ⟨c3, h_c3, h⟩ := bind_some h
  refine wb_cons (ws_for (g := (gName 1)) PassesOwn.never rfl (ei_rng1 z_range h_t2 (ev_int (i := 5))) R.sub (pg_name (i := 1) sc_law.nd rfl (by first | exact Or.inl rfl | exact Or.inr rfl)) h_c3 (fun Gs4 s1 σ H G => ∃ (o_size : Option V), σ = [some (v_script), o_size, none, none, none, none, none, none, none, none, none, none, none, none] ∧ Rc [] H0 G0 H G ∧ Ex Gs4 G ∧ Rep.rel K G v_script script) (RTV K [] H0 G0) ?_ ?_ ?_ ?_ ?_)
  · intro H G S
    replace R := R.then S; replace f_script := Rep.mono S.ex f_script
    exact ⟨_, rfl, R, Ex.refl _, f_script⟩
  · intro Gs4 s1 σ H G hI
    obtain ⟨o_size, rfl, R, xGs4, f_script⟩ := hI
    exact ⟨xGs4, R.sub⟩
  · intro Gs4 s1 σ Hb Gb x5 c' u H G h hI S hu
    obtain ⟨o_size, rfl, R, xGs4, f_script⟩ := hI
    replace R := R.then S; replace f_script := Rep.mono S.ex f_script; replace xGs4 := xGs4.trans S.ex
    obtain ⟨_, rfl, rfl⟩ := hu
    refine wb_cons (ws_if ?_)
    obtain ⟨t6, h_t6, h⟩ := bind_some h
    refine EvT.go (et_not (et_val (ec_V (w := (x5, ())) c_law_small_right hG hr (by decide) h_t6 (ea_cons (ev_var (i := 1) (x := (x5 : Int)) rfl rfl) ea_nil)))) R.sub (fun H G S => ?_)
    replace R := R.then S; replace f_script := Rep.mono S.ex f_script; replace xGs4 := xGs4.trans S.ex
    rcases cond_some h with ⟨hb, h⟩ | ⟨hb, h⟩
    · refine if_t hb ?_
      refine wb_cons (ws_ret ?_)
      refine EvX.go ev_bl R.sub (fun v_q8 H G S f_q8 => ?_)
      replace R := R.then S; replace f_script := Rep.mono S.ex f_script; replace xGs4 := xGs4.trans S.ex
      obtain rfl : v_q8 = V.bl (false) := f_q8
      exact ⟨_, (Option.some.inj h).symm, ⟨_, R, rfl⟩⟩
    · refine if_f hb ?_
      refine wb_nil ?_
      refine wb_nil ?_
      exact ⟨_, _, (Option.some.inj h).symm, ⟨_, rfl, R, xGs4, f_script⟩⟩
  · intro Gs4 s1 σ H G ec hI
    have h := aft_nx ec h
    obtain ⟨o_size, rfl, R, xGs4, f_script⟩ := hI
    obtain ⟨t10, h_t10, h⟩ := bind_some h
    obtain ⟨c11, h_c11, h⟩ := bind_some h
    refine wb_cons (ws_for (g := (gName 2)) PassesOwn.never rfl (ei_list (EvN.val (ec_N (w := ((6 : Int), (1 : Int), (3 : Int), ())) c_law_lists hG hr (by decide) h_t10 (ea_cons (ev_int (i := 6)) (ea_cons (ev_int (i := 1)) (ea_cons (ev_int (i := 3)) ea_nil)))))) R.sub (pg_name (i := 2) sc_law.nd rfl (by first | exact Or.inl rfl | exact Or.inr rfl)) h_c11 (fun Gs12 s9 σ H G => ∃ (o_some : Option V), σ = [some (v_script), o_size, o_some, none, none, none, none, none, none, none, none, none, none, none] ∧ Rc [] H0 G0 H G ∧ Ex Gs12 G ∧ Rep.rel K G v_script script) (RTV K [] H0 G0) ?_ ?_ ?_ ?_ ?_)
    · intro H G S
      replace R := R.then S; replace f_script := Rep.mono S.ex f_script
      exact ⟨_, rfl, R, Ex.refl _, f_script⟩
    · intro Gs12 s9 σ H G hI
      obtain ⟨o_some, rfl, R, xGs12, f_script⟩ := hI
      exact ⟨xGs12, R.sub⟩
    · intro Gs12 s9 σ Hb Gb x13 c' u H G h hI S hu
      obtain ⟨o_some, rfl, R, xGs12, f_script⟩ := hI
      replace R := R.then S; replace f_script := Rep.mono S.ex f_script; replace xGs12 := xGs12.trans S.ex
      obtain ⟨v14, f_some, rfl⟩ := hu
      refine wb_cons (ws_if ?_)
      obtain ⟨t15, h_t15, h⟩ := bind_some h
      obtain ⟨t16, h_t16, h⟩ := bind_some h
      refine EvT.go (et_ne' (α := Bool) (x := t15) (y := t16) hr.units (ec_V (w := ((PyData.list (List.map PyData.int x13)), ())) c_is_times hG hr (by decide) h_t15 (ea_cons (ev_dInts (ev_var (i := 2) rfl f_some)) ea_nil)) (ec_V (w := (x13, ())) c_law_is_times hG hr (by decide) h_t16 (ea_cons (ev_var (i := 2) rfl f_some) ea_nil))) R.sub (fun H G S => ?_)
      replace R := R.then S; replace f_script := Rep.mono S.ex f_script; replace f_some := Rep.mono S.ex f_some; replace xGs12 := xGs12.trans S.ex
      rcases cond_some h with ⟨hb, h⟩ | ⟨hb, h⟩
      · refine if_t hb ?_
        refine wb_cons (ws_ret ?_)
        refine EvX.go ev_bl R.sub (fun v_q18 H G S f_q18 => ?_)
        replace R := R.then S; replace f_script := Rep.mono S.ex f_script; replace f_some := Rep.mono S.ex f_some; replace xGs12 := xGs12.trans S.ex
        obtain rfl : v_q18 = V.bl (false) := f_q18
        exact ⟨_, (Option.some.inj h).symm, ⟨_, R, rfl⟩⟩
      · refine if_f hb ?_
        refine wb_nil ?_
        refine wb_nil ?_
        exact ⟨_, _, (Option.some.inj h).symm, ⟨_, rfl, R, xGs12, f_script⟩⟩
    · intro Gs12 s9 σ H G ec hI
      have h := aft_nx ec h
      obtain ⟨o_some, rfl, R, xGs12, f_script⟩ := hI
      obtain ⟨t20, h_t20, h⟩ := bind_some h
      obtain ⟨c21, h_c21, h⟩ := bind_some h
      refine wb_cons (ws_for (g := (gName 3)) PassesOwn.never rfl (ei_rng1 z_range h_t20 (ev_max2 rfl z_max (ev_int (i := 1)) (ev_min2 rfl z_min (ev_int (i := 6)) (ev_lenS z_len (ev_var (i := 0) rfl f_script))))) R.sub (pg_name (i := 3) sc_law.nd rfl (by first | exact Or.inl rfl | exact Or.inr rfl)) h_c21 (fun Gs22 s19 σ H G => ∃ (o_at : Option V) (o_bent : Option V) (o_k : Option V) (o_kept : Option V) (o_odd : Option V) (o_one : Option V) (o_pot : Option V) (o_some : Option V) (o_time : Option V) (o_turn : Option V) (o_value : Option V) (o_wide : Option V), σ = [some (v_script), o_size, o_some, o_k, o_pot, o_turn, o_kept, o_time, o_at, o_one, o_bent, o_value, o_wide, o_odd] ∧ Rc [] H0 G0 H G ∧ Ex Gs22 G ∧ Rep.rel K G v_script script) (RTV K [] H0 G0) ?_ ?_ ?_ ?_ ?_)
      · intro H G S
        replace R := R.then S; replace f_script := Rep.mono S.ex f_script
        exact ⟨_, _, _, _, _, _, _, _, _, _, _, _, rfl, R, Ex.refl _, f_script⟩
      · intro Gs22 s19 σ H G hI
        obtain ⟨o_at, o_bent, o_k, o_kept, o_odd, o_one, o_pot, o_some, o_time, o_turn, o_value, o_wide, rfl, R, xGs22, f_script⟩ := hI
        exact ⟨xGs22, R.sub⟩
      · intro Gs22 s19 σ Hb Gb x23 c' u H G h hI S hu
        obtain ⟨o_at, o_bent, o_k, o_kept, o_odd, o_one, o_pot, o_some, o_time, o_turn, o_value, o_wide, rfl, R, xGs22, f_script⟩ := hI
        replace R := R.then S; replace f_script := Rep.mono S.ex f_script; replace xGs22 := xGs22.trans S.ex
        obtain ⟨_, rfl, rfl⟩ := hu
        refine wb_cons (ws_set (i := 4) sc_law.nd ?_)
        obtain ⟨t24, h_t24, h⟩ := bind_some h
        refine EvN.go (ec_N (w := (script, x23, ())) c_law_pot hG hr (by decide) h_t24 (ea_cons (ev_var (i := 0) rfl f_script) (ea_cons (ev_var (i := 3) (x := (x23 : Int)) rfl rfl) ea_nil))) R.sub (fun p_q25 H G S n_q25 w_q25 => ?_)
        replace n_q25 := R.back n_q25
        replace R := R.then S; replace f_script := Rep.mono S.ex f_script; replace xGs22 := xGs22.trans S.ex
        have w_pot := w_q25; have n_pot := n_q25
        obtain ⟨t27, h_t27, h⟩ := bind_some h
        obtain ⟨c28, h_c28, h⟩ := bind_some h
        refine wb_cons (ws_for (g := (gName 5)) PassesOwn.never rfl (ei_rng1 z_range h_t27 (ev_int (i := 3))) R.sub (pg_name (i := 5) sc_law.nd rfl (by first | exact Or.inl rfl | exact Or.inr rfl)) h_c28 (fun Gs29 s26 σ H G => ∃ (o_at : Option V) (o_bent : Option V) (o_kept : Option V) (o_odd : Option V) (o_one : Option V) (o_some : Option V) (o_time : Option V) (o_turn : Option V) (o_value : Option V) (o_wide : Option V) (p_pot : Addr), σ = [some (v_script), o_size, o_some, some (V.int (x23)), some (V.ref p_pot), o_turn, o_kept, o_time, o_at, o_one, o_bent, o_value, o_wide, o_odd] ∧ Rc [] H0 G0 H G ∧ Ex Gs22 G ∧ Ex Gs29 G ∧ Rep.rel K G v_script script ∧ Own K H G p_pot (s26 : (List Int)) ∧ H0 p_pot = none) (RTV K [] H0 G0) ?_ ?_ ?_ ?_ ?_)
        · intro H G S
          replace R := R.then S; replace f_script := Rep.mono S.ex f_script; replace w_pot := w_pot.step0 S; replace xGs22 := xGs22.trans S.ex
          exact ⟨_, _, _, _, _, _, _, _, _, _, _, rfl, R, xGs22, Ex.refl _, f_script, w_pot, n_pot⟩
        · intro Gs29 s26 σ H G hI
          obtain ⟨o_at, o_bent, o_kept, o_odd, o_one, o_some, o_time, o_turn, o_value, o_wide, p_pot, rfl, R, xGs22, xGs29, f_script, w_pot, n_pot⟩ := hI
          exact ⟨xGs29, R.sub⟩
        · intro Gs29 s26 σ Hb Gb x30 c' u H G h hI S hu
          obtain ⟨o_at, o_bent, o_kept, o_odd, o_one, o_some, o_time, o_turn, o_value, o_wide, p_pot, rfl, R, xGs22, xGs29, f_script, w_pot, n_pot⟩ := hI
          replace R := R.then S; replace f_script := Rep.mono S.ex f_script; replace w_pot := w_pot.step0 S; replace xGs22 := xGs22.trans S.ex; replace xGs29 := xGs29.trans S.ex
          obtain ⟨_, rfl, rfl⟩ := hu
          refine wb_cons (ws_set (i := 2) sc_law.nd ?_)
          refine wc c_law_tall hG hr (by decide) ?_
          refine wpA_cons (wp_var (i := 4) rfl ?_)
          refine wpA_cons ?_
          obtain ⟨t31, h_t31, h⟩ := bind_some h
          refine EvX.go (ev_ix h_t31 (EvN.val (ev_lst (α := Int) (el_cons (ev_int (i := 9)) (el_cons (ev_int (i := 30)) (el_cons (ev_int (i := 60)) el_nil))) (by show 3 ≤ 100000; decide))) (ev_var (i := 5) (x := (x30 : Int)) rfl rfl)) R.sub (fun v_q32 H G S f_q32 => ?_)
          replace R := R.then S; replace f_script := Rep.mono S.ex f_script; replace w_pot := w_pot.step0 S; replace xGs22 := xGs22.trans S.ex; replace xGs29 := xGs29.trans S.ex
          obtain rfl : v_q32 = V.int (t31) := f_q32
          refine wpA_nil ?_
          obtain ⟨t33, h_t33, h⟩ := bind_some h
          refine ⟨_, _, _, _, (t31, ()), _, _, rfl, R.sub, w_pot, ⟨_, _, rfl, rfl, rfl⟩, h_t33, fun p_q34 H G S n_q34 o w_q34 => ?_⟩
          have ne_pot_q34 := w_pot.ne n_q34; replace n_q34 := R.back n_q34
          replace R := R.ownS S n_pot; replace f_script := Rep.mono S.ex f_script; replace xGs22 := xGs22.trans S.ex; replace xGs29 := xGs29.trans S.ex
          replace w_pot := o
          obtain ⟨vs_q34, hp_q34, np_q34, rp_q34⟩ := w_q34
          replace R := R.freeze n_q34 np_q34 hp_q34; replace f_script := Rep.mono (Ex.new (o := .lst vs_q34) np_q34) f_script; replace w_pot := w_pot.frz (o := .lst vs_q34) np_q34 (ne_pot_q34); replace xGs22 := xGs22.trans (Ex.new (o := .lst vs_q34) np_q34); replace xGs29 := xGs29.trans (Ex.new (o := .lst vs_q34) np_q34); have f_q34 := lend1 np_q34 rp_q34
          have f_some := f_q34
          refine wb_cons (ws_set (i := 6) sc_law.nd ?_)
          obtain ⟨t35, h_t35, h⟩ := bind_some h
          refine EvX.go (ev_repr hG hr.units z_repr h_t35 (by decide) (ev_var (i := 2) rfl f_some)) R.sub (fun v_q36 H G S f_q36 => ?_)
          replace R := R.then S; replace f_script := Rep.mono S.ex f_script; replace f_some := Rep.mono S.ex f_some; replace w_pot := w_pot.step0 S; replace xGs22 := xGs22.trans S.ex; replace xGs29 := xGs29.trans S.ex
          obtain rfl : v_q36 = V.str (t35) := f_q36
          refine wb_cons (ws_if ?_)
          obtain ⟨t37, h_t37, h⟩ := bind_some h
          obtain ⟨t39, h_t39, h⟩ := bind_some h
          refine EvT.go (et_w (ew_or (t := (!decide (t37 = true))) (et_isnot (ec_V (w := ((PyData.list (List.map PyData.int t33.1)), ())) c_is_times hG hr (by decide) h_t37 (ea_cons (ev_dInts (ev_var (i := 2) rfl f_some)) ea_nil)) ev_bl) (fun ha => by have hh := cond_f ha h_t39; obtain ⟨t38, h_t38, hh⟩ := bind_some hh; obtain rfl := Option.some.inj hh; exact (ew_or1 (et_ne' (α := Str) hr.units (ev_repr hG hr.units z_repr h_t38 (by decide) (ev_var (i := 2) rfl f_some)) (ev_var (i := 6) (x := (t35 : Str)) rfl rfl)))) (fun ha => (Option.some.inj (cond_t ha h_t39)).symm))) R.sub (fun H G S => ?_)
          replace R := R.then S; replace f_script := Rep.mono S.ex f_script; replace f_some := Rep.mono S.ex f_some; replace w_pot := w_pot.step0 S; replace xGs22 := xGs22.trans S.ex; replace xGs29 := xGs29.trans S.ex
          rcases cond_some h with ⟨hb, h⟩ | ⟨hb, h⟩
          · refine if_t hb ?_
            refine wb_cons (ws_ret ?_)
            refine EvX.go ev_bl R.sub (fun v_q41 H G S f_q41 => ?_)
            replace R := R.then S; replace f_script := Rep.mono S.ex f_script; replace f_some := Rep.mono S.ex f_some; replace w_pot := w_pot.step0 S; replace xGs22 := xGs22.trans S.ex; replace xGs29 := xGs29.trans S.ex
            obtain rfl : v_q41 = V.bl (false) := f_q41
            exact ⟨_, (Option.some.inj h).symm, ⟨_, R, rfl⟩⟩
          · refine if_f hb ?_
            refine wb_nil ?_
            refine wb_cons (ws_set (i := 2) sc_law.nd ?_)
            refine EvN.go (ev_slice (ev_var (i := 2) rfl f_some) eo_none (eo_some (ev_int (i := 59)))) R.sub (fun p_q42 H G S n_q42 w_q42 => ?_)
            have ne_pot_q42 := w_pot.ne n_q42; replace n_q42 := R.back n_q42
            replace R := R.then S; replace f_script := Rep.mono S.ex f_script; replace f_some := Rep.mono S.ex f_some; replace w_pot := w_pot.step0 S; replace xGs22 := xGs22.trans S.ex; replace xGs29 := xGs29.trans S.ex
            obtain ⟨vs_q42, hp_q42, np_q42, rp_q42⟩ := w_q42
            replace R := R.freeze n_q42 np_q42 hp_q42; replace f_script := Rep.mono (Ex.new (o := .lst vs_q42) np_q42) f_script; replace f_some := Rep.mono (Ex.new (o := .lst vs_q42) np_q42) f_some; replace w_pot := w_pot.frz (o := .lst vs_q42) np_q42 (ne_pot_q42); replace xGs22 := xGs22.trans (Ex.new (o := .lst vs_q42) np_q42); replace xGs29 := xGs29.trans (Ex.new (o := .lst vs_q42) np_q42); have f_q42 := lend1 np_q42 rp_q42
            have f_some := f_q42
            obtain ⟨t44, h_t44, h⟩ := bind_some h
            obtain ⟨c45, h_c45, h⟩ := bind_some h
            refine wb_cons (ws_for (g := (gName 7)) PassesOwn.never rfl (ei_rng1 z_range h_t44 (ev_int (i := 12))) R.sub (pg_name (i := 7) sc_law.nd rfl (by first | exact Or.inl rfl | exact Or.inr rfl)) h_c45 (fun Gs46 s43 σ H G => ∃ (o_at : Option V) (o_bent : Option V) (o_one : Option V) (o_time : Option V) (o_value : Option V) (p_pot : Addr), σ = [some (v_script), o_size, some ((V.ref p_q42)), some (V.int (x23)), some (V.ref p_pot), some (V.int (x30)), some (V.str (t35)), o_time, o_at, o_one, o_bent, o_value, o_wide, o_odd] ∧ Rc [] H0 G0 H G ∧ Ex Gs22 G ∧ Ex Gs29 G ∧ Ex Gs46 G ∧ Rep.rel K G v_script script ∧ Rep.rel K G (V.ref p_q42) (cut t33.1 none (some (59 : Int))) ∧ Own K H G p_pot (s43 : (List Int)) ∧ H0 p_pot = none) (RTV K [] H0 G0) ?_ ?_ ?_ ?_ ?_)
            · intro H G S
              replace R := R.then S; replace f_script := Rep.mono S.ex f_script; replace f_some := Rep.mono S.ex f_some; replace w_pot := w_pot.step0 S; replace xGs22 := xGs22.trans S.ex; replace xGs29 := xGs29.trans S.ex
              exact ⟨_, _, _, _, _, _, rfl, R, xGs22, xGs29, Ex.refl _, f_script, f_some, w_pot, n_pot⟩
            · intro Gs46 s43 σ H G hI
              obtain ⟨o_at, o_bent, o_one, o_time, o_value, p_pot, rfl, R, xGs22, xGs29, xGs46, f_script, f_some, w_pot, n_pot⟩ := hI
              exact ⟨xGs46, R.sub⟩
            · intro Gs46 s43 σ Hb Gb x47 c' u H G h hI S hu
              obtain ⟨o_at, o_bent, o_one, o_time, o_value, p_pot, rfl, R, xGs22, xGs29, xGs46, f_script, f_some, w_pot, n_pot⟩ := hI
              replace R := R.then S; replace f_script := Rep.mono S.ex f_script; replace f_some := Rep.mono S.ex f_some; replace w_pot := w_pot.step0 S; replace xGs22 := xGs22.trans S.ex; replace xGs29 := xGs29.trans S.ex; replace xGs46 := xGs46.trans S.ex
              obtain ⟨_, rfl, rfl⟩ := hu
              refine wb_cons (ws_par (i := 8) (j := 9) rfl sc_law.nd ?_)
              refine wpA_cons ?_
              refine wc c_law_take hG hr (by decide) ?_
              refine wpA_cons (wp_var (i := 4) rfl ?_)
              refine wpA_cons ?_
              refine EvX.go (ev_add (ev_len z_len (ev_var (i := 2) rfl f_some)) (ev_int (i := 1))) R.sub (fun v_q48 H G S f_q48 => ?_)
              replace R := R.then S; replace f_script := Rep.mono S.ex f_script; replace f_some := Rep.mono S.ex f_some; replace w_pot := w_pot.step0 S; replace xGs22 := xGs22.trans S.ex; replace xGs29 := xGs29.trans S.ex; replace xGs46 := xGs46.trans S.ex
              obtain rfl : v_q48 = V.int (((((cut t33.1 none (some (59 : Int)))).length : Int) + (1 : Int))) := f_q48
              refine wpA_nil ?_
              obtain ⟨t49, h_t49, h⟩ := bind_some h
              refine ⟨_, _, _, _, (((((cut t33.1 none (some (59 : Int)))).length : Int) + (1 : Int)), ()), _, _, rfl, R.sub, w_pot, ⟨_, _, rfl, rfl, rfl⟩, h_t49, fun v_q50 H G S o f_q50 => ?_⟩
              replace R := R.ownS S n_pot; replace f_script := Rep.mono S.ex f_script; replace f_some := Rep.mono S.ex f_some; replace xGs22 := xGs22.trans S.ex; replace xGs29 := xGs29.trans S.ex; replace xGs46 := xGs46.trans S.ex
              replace w_pot := o
              obtain rfl : v_q50 = V.int (t49.1) := f_q50
              refine wpA_cons ?_
              refine wp_op op_add ?_
              refine EvX.go (ev_int (i := 1)) R.sub (fun v_q51 H G S f_q51 => ?_)
              replace R := R.then S; replace f_script := Rep.mono S.ex f_script; replace f_some := Rep.mono S.ex f_some; replace w_pot := w_pot.step0 S; replace xGs22 := xGs22.trans S.ex; replace xGs29 := xGs29.trans S.ex; replace xGs46 := xGs46.trans S.ex
              obtain rfl : v_q51 = V.int ((1 : Int)) := f_q51
              refine wc c_law_take hG hr (by decide) ?_
              refine wpA_cons (wp_var (i := 4) rfl ?_)
              refine wpA_cons ?_
              obtain ⟨t52, h_t52, h⟩ := bind_some h
              obtain ⟨t53, h_t53, h⟩ := bind_some h
              refine EvX.go (ev_add (ev_maxL rfl z_max h_t53 (EvN.val (ev_cat h_t52 (ev_var (i := 2) rfl f_some) (EvN.val (ev_lst (α := Int) (el_cons (ev_int (i := 0)) el_nil) (by show 1 ≤ 100000; decide)))))) (ev_int (i := 2))) R.sub (fun v_q54 H G S f_q54 => ?_)
              replace R := R.then S; replace f_script := Rep.mono S.ex f_script; replace f_some := Rep.mono S.ex f_some; replace w_pot := w_pot.step0 S; replace xGs22 := xGs22.trans S.ex; replace xGs29 := xGs29.trans S.ex; replace xGs46 := xGs46.trans S.ex
              obtain rfl : v_q54 = V.int ((t53 + (2 : Int))) := f_q54
              refine wpA_nil ?_
              obtain ⟨t55, h_t55, h⟩ := bind_some h
              refine ⟨_, _, _, _, ((t53 + (2 : Int)), ()), _, _, rfl, R.sub, w_pot, ⟨_, _, rfl, rfl, rfl⟩, h_t55, fun v_q56 H G S o f_q56 => ?_⟩
              replace R := R.ownS S n_pot; replace f_script := Rep.mono S.ex f_script; replace f_some := Rep.mono S.ex f_some; replace xGs22 := xGs22.trans S.ex; replace xGs29 := xGs29.trans S.ex; replace xGs46 := xGs46.trans S.ex
              replace w_pot := o
              obtain rfl : v_q56 = V.int (t55.1) := f_q56
              refine ⟨_, _, rfl, rfl, ?_⟩
              refine wpA_nil ?_
              refine ⟨_, _, rfl, ?_⟩
              refine wb_cons (ws_set (i := 10) sc_law.nd ?_)
              obtain ⟨t58, h_t58, h⟩ := bind_some h
              obtain ⟨t59, h_t59, h⟩ := bind_some h
              obtain ⟨t60, h_t60, h⟩ := bind_some h
              obtain ⟨t61, h_t61, h⟩ := bind_some h
              refine EvN.go (ev_lst (α := (List Int)) (el_cons (EvN.val (ev_cat h_t59 (EvN.val (ev_cat h_t58 (EvN.val (ev_slice (ev_var (i := 2) rfl f_some) eo_none (eo_some (ev_var (i := 8) (x := (t49.1 : Int)) rfl rfl)))) (EvN.val (ev_lst (α := Int) (el_cons (ev_var (i := 9) (x := (((1 : Int) + t55.1) : Int)) rfl rfl) el_nil) (by show 1 ≤ 100000; decide))))) (EvN.val (ev_slice (ev_var (i := 2) rfl f_some) (eo_some (ev_add (ev_var (i := 8) (x := (t49.1 : Int)) rfl rfl) (ev_int (i := 1)))) eo_none)))) (el_cons (EvN.val (ev_cat h_t61 (EvN.val (ev_cat h_t60 (EvN.val (ev_slice (ev_var (i := 2) rfl f_some) eo_none (eo_some (ev_var (i := 8) (x := (t49.1 : Int)) rfl rfl)))) (EvN.val (ev_lst (α := Int) (el_cons (ev_var (i := 9) (x := (((1 : Int) + t55.1) : Int)) rfl rfl) el_nil) (by show 1 ≤ 100000; decide))))) (EvN.val (ev_slice (ev_var (i := 2) rfl f_some) (eo_some (ev_var (i := 8) (x := (t49.1 : Int)) rfl rfl)) eo_none)))) el_nil)) (by show 2 ≤ 100000; decide)) R.sub (fun p_q62 H G S n_q62 w_q62 => ?_)
              have ne_pot_q62 := w_pot.ne n_q62; replace n_q62 := R.back n_q62
              replace R := R.then S; replace f_script := Rep.mono S.ex f_script; replace f_some := Rep.mono S.ex f_some; replace w_pot := w_pot.step0 S; replace xGs22 := xGs22.trans S.ex; replace xGs29 := xGs29.trans S.ex; replace xGs46 := xGs46.trans S.ex
              obtain ⟨vs_q62, hp_q62, np_q62, rp_q62⟩ := w_q62
              replace R := R.freeze n_q62 np_q62 hp_q62; replace f_script := Rep.mono (Ex.new (o := .lst vs_q62) np_q62) f_script; replace f_some := Rep.mono (Ex.new (o := .lst vs_q62) np_q62) f_some; replace w_pot := w_pot.frz (o := .lst vs_q62) np_q62 (ne_pot_q62); replace xGs22 := xGs22.trans (Ex.new (o := .lst vs_q62) np_q62); replace xGs29 := xGs29.trans (Ex.new (o := .lst vs_q62) np_q62); replace xGs46 := xGs46.trans (Ex.new (o := .lst vs_q62) np_q62); have f_q62 := lend1 np_q62 rp_q62
              have f_bent := f_q62
              obtain ⟨t64, h_t64, h⟩ := bind_some h
              obtain ⟨t65, h_t65, h⟩ := bind_some h
              obtain ⟨c66, h_c66, h⟩ := bind_some h
              refine wb_cons (ws_for (g := (gName 11)) PassesOwn.never rfl (ei_list (EvN.val (ev_cat h_t65 (ev_var (i := 10) rfl f_bent) (EvN.val (ev_lst (α := (List Int)) (el_cons (EvN.val (ev_cat h_t64 (EvN.val (ev_slice (ev_var (i := 2) rfl f_some) eo_none (eo_some (ev_var (i := 8) (x := (t49.1 : Int)) rfl rfl)))) (EvN.val (ev_slice (ev_var (i := 2) rfl f_some) (eo_some (ev_add (ev_var (i := 8) (x := (t49.1 : Int)) rfl rfl) (ev_int (i := 1)))) eo_none)))) el_nil) (by show 1 ≤ 100000; decide)))))) R.sub (pg_name (i := 11) sc_law.nd rfl (by first | exact Or.inl rfl | exact Or.inr rfl)) h_c66 (fun Gs67 s63 σ H G => ∃ (o_value : Option V), σ = [some (v_script), o_size, some ((V.ref p_q42)), some (V.int (x23)), some (V.ref p_pot), some (V.int (x30)), some (V.str (t35)), some (V.int (x47)), some (V.int (t49.1)), some (V.int (((1 : Int) + t55.1))), some ((V.ref p_q62)), o_value, o_wide, o_odd] ∧ Rc [] H0 G0 H G ∧ Ex Gs22 G ∧ Ex Gs29 G ∧ Ex Gs46 G ∧ Ex Gs67 G ∧ Rep.rel K G v_script script ∧ Rep.rel K G (V.ref p_q42) (cut t33.1 none (some (59 : Int))) ∧ Rep.rel K G (V.ref p_q62) ([t59, t61] : (List (List Int))) ∧ Own K H G p_pot (t55.2 : (List Int)) ∧ H0 p_pot = none) (RTV K [] H0 G0) ?_ ?_ ?_ ?_ ?_)
              · intro H G S
                replace R := R.then S; replace f_script := Rep.mono S.ex f_script; replace f_some := Rep.mono S.ex f_some; replace f_bent := Rep.mono S.ex f_bent; replace w_pot := w_pot.step0 S; replace xGs22 := xGs22.trans S.ex; replace xGs29 := xGs29.trans S.ex; replace xGs46 := xGs46.trans S.ex
                exact ⟨_, rfl, R, xGs22, xGs29, xGs46, Ex.refl _, f_script, f_some, f_bent, w_pot, n_pot⟩
              · intro Gs67 s63 σ H G hI
                obtain ⟨o_value, rfl, R, xGs22, xGs29, xGs46, xGs67, f_script, f_some, f_bent, w_pot, n_pot⟩ := hI
                exact ⟨xGs67, R.sub⟩
              · intro Gs67 s63 σ Hb Gb x68 c' u H G h hI S hu
                obtain ⟨o_value, rfl, R, xGs22, xGs29, xGs46, xGs67, f_script, f_some, f_bent, w_pot, n_pot⟩ := hI
                replace R := R.then S; replace f_script := Rep.mono S.ex f_script; replace f_some := Rep.mono S.ex f_some; replace f_bent := Rep.mono S.ex f_bent; replace w_pot := w_pot.step0 S; replace xGs22 := xGs22.trans S.ex; replace xGs29 := xGs29.trans S.ex; replace xGs46 := xGs46.trans S.ex; replace xGs67 := xGs67.trans S.ex
                obtain ⟨v69, f_value, rfl⟩ := hu
                refine wb_cons (ws_if ?_)
                obtain ⟨t70, h_t70, h⟩ := bind_some h
                obtain ⟨t71, h_t71, h⟩ := bind_some h
                refine EvT.go (et_ne' (α := Str) hr.units (ev_reprB z_repr (ec_V (w := ((PyData.list (List.map PyData.int x68)), ())) c_is_times hG hr (by decide) h_t70 (ea_cons (ev_dInts (ev_var (i := 11) rfl f_value)) ea_nil))) (ev_reprB z_repr (ec_V (w := (x68, ())) c_law_is_times hG hr (by decide) h_t71 (ea_cons (ev_var (i := 11) rfl f_value) ea_nil)))) R.sub (fun H G S => ?_)
                replace R := R.then S; replace f_script := Rep.mono S.ex f_script; replace f_some := Rep.mono S.ex f_some; replace f_bent := Rep.mono S.ex f_bent; replace f_value := Rep.mono S.ex f_value; replace w_pot := w_pot.step0 S; replace xGs22 := xGs22.trans S.ex; replace xGs29 := xGs29.trans S.ex; replace xGs46 := xGs46.trans S.ex; replace xGs67 := xGs67.trans S.ex
                rcases cond_some h with ⟨hb, h⟩ | ⟨hb, h⟩
                · refine if_t hb ?_
                  refine wb_cons (ws_ret ?_)
                  refine EvX.go ev_bl R.sub (fun v_q73 H G S f_q73 => ?_)
                  replace R := R.then S; replace f_script := Rep.mono S.ex f_script; replace f_some := Rep.mono S.ex f_some; replace f_bent := Rep.mono S.ex f_bent; replace f_value := Rep.mono S.ex f_value; replace w_pot := w_pot.step0 S; replace xGs22 := xGs22.trans S.ex; replace xGs29 := xGs29.trans S.ex; replace xGs46 := xGs46.trans S.ex; replace xGs67 := xGs67.trans S.ex
                  obtain rfl : v_q73 = V.bl (false) := f_q73
                  exact ⟨_, (Option.some.inj h).symm, ⟨_, R, rfl⟩⟩
                · refine if_f hb ?_
                  refine wb_nil ?_
                  refine wb_nil ?_
                  exact ⟨_, _, (Option.some.inj h).symm, ⟨_, rfl, R, xGs22, xGs29, xGs46, xGs67, f_script, f_some, f_bent, w_pot, n_pot⟩⟩
              · intro Gs67 s63 σ H G ec hI
                have h := aft_nx ec h
                obtain ⟨o_value, rfl, R, xGs22, xGs29, xGs46, xGs67, f_script, f_some, f_bent, w_pot, n_pot⟩ := hI
                refine wb_nil ?_
                exact ⟨_, _, (Option.some.inj h).symm, ⟨_, _, _, _, _, _, rfl, R, xGs22, xGs29, xGs46, f_script, f_some, w_pot, n_pot⟩⟩
              · intro y v H ec hrt
                have h := aft_rt ec h
                exact ⟨_, (Option.some.inj h).symm, hrt⟩
            · intro Gs46 s43 σ H G ec hI
              have h := aft_nx ec h
              obtain ⟨o_at, o_bent, o_one, o_time, o_value, p_pot, rfl, R, xGs22, xGs29, xGs46, f_script, f_some, w_pot, n_pot⟩ := hI
              refine wb_cons (ws_set (i := 12) sc_law.nd ?_)
              obtain ⟨t74, h_t74, h⟩ := bind_some h
              refine EvX.go (ev_ix h_t74 (EvN.val (ev_lst (α := Int) (el_cons (ev_int (i := 2)) (el_cons (ev_int (i := 3)) (el_cons (ev_int (i := 9)) el_nil))) (by show 3 ≤ 100000; decide))) (ev_var (i := 5) (x := (x30 : Int)) rfl rfl)) R.sub (fun v_q75 H G S f_q75 => ?_)
              replace R := R.then S; replace f_script := Rep.mono S.ex f_script; replace f_some := Rep.mono S.ex f_some; replace w_pot := w_pot.step0 S; replace xGs22 := xGs22.trans S.ex; replace xGs29 := xGs29.trans S.ex
              obtain rfl : v_q75 = V.int (t74) := f_q75
              refine wb_cons (ws_setLcR (i := 11) Int Int (own := [("at", 8)]) (j := 8) (a := p_pot) rfl sc_law.nd (blkOk_by (own := [("at", 8)]) (N := ["script", "size", "some", "k", "pot", "turn", "kept", "time", "at", "one", "bent", "value", "wide", "odd"]) (sc := defScope s_law) (by decide +kernel)) z_range (fun _ _ _ _ _ => (pg_name (i := 8) sc_law.nd rfl (by first | exact Or.inl rfl | exact Or.inr rfl))) (by rintro x G u ⟨_, _, rfl⟩; rfl) ?_)
              refine wc c_law_take hG hr (by decide) ?_
              refine wpA_cons (wp_var (i := 4) rfl ?_)
              refine wpA_cons ?_
              refine EvX.go (ev_int (i := 61)) R.sub (fun v_q76 H G S f_q76 => ?_)
              replace R := R.then S; replace f_script := Rep.mono S.ex f_script; replace f_some := Rep.mono S.ex f_some; replace w_pot := w_pot.step0 S; replace xGs22 := xGs22.trans S.ex; replace xGs29 := xGs29.trans S.ex
              obtain rfl : v_q76 = V.int ((61 : Int)) := f_q76
              refine wpA_nil ?_
              obtain ⟨t77, h_t77, h⟩ := bind_some h
              refine ⟨_, _, _, _, ((61 : Int), ()), _, _, rfl, R.sub, w_pot, ⟨_, _, rfl, rfl, rfl⟩, h_t77, fun v_q78 H G S o f_q78 => ?_⟩
              replace R := R.ownS S n_pot; replace f_script := Rep.mono S.ex f_script; replace f_some := Rep.mono S.ex f_some; replace xGs22 := xGs22.trans S.ex; replace xGs29 := xGs29.trans S.ex
              replace w_pot := o
              obtain rfl : v_q78 = V.int (t77.1) := f_q78
              obtain ⟨t79, h_t79, h⟩ := bind_some h
              obtain ⟨t86, h_t86, h⟩ := bind_some h
              refine ⟨_, _, _, _, _, _, rfl, h_t79, R.sub, w_pot, h_t86, ?_, fun p_q87 H G S n_q87 o w_q87 => ?_⟩
              · intro sh Hh C cl fp x80 pt y u Hc Gc Sc ru h owp
                obtain ⟨_, rfl, rfl⟩ := ru
                have R : Rc [p_pot] Hc Gc Hc Gc := Rc.refl Sc.sub
                have w_pot := owp
                have f_script := Rep.mono Sc.ex f_script; have f_some := Rep.mono Sc.ex f_some
                refine wp_op op_add ?_
                refine EvX.go (ev_int (i := 1)) R.sub (fun v_q81 H G S f_q81 => ?_)
                replace R := R.then S; replace f_script := Rep.mono S.ex f_script; replace f_some := Rep.mono S.ex f_some; replace w_pot := w_pot.step0 S
                obtain rfl : v_q81 = V.int ((1 : Int)) := f_q81
                refine wc c_law_take hG hr (by decide) ?_
                refine wpA_cons (wp_var (i := 4) rfl ?_)
                refine wpA_cons ?_
                refine EvX.go (ev_var (i := 12) (x := (t74 : Int)) rfl rfl) R.sub (fun v_q82 H G S f_q82 => ?_)
                replace R := R.then S; replace f_script := Rep.mono S.ex f_script; replace f_some := Rep.mono S.ex f_some; replace w_pot := w_pot.step0 S
                obtain rfl : v_q82 = V.int (t74) := f_q82
                refine wpA_nil ?_
                obtain ⟨t83, h_t83, h⟩ := bind_some h
                refine ⟨_, _, _, _, (t74, ()), _, _, rfl, R.sub, w_pot, ⟨_, _, rfl, rfl, rfl⟩, h_t83, fun v_q84 H G S o f_q84 => ?_⟩
                replace R := R.trans S; replace f_script := Rep.mono S.ex f_script; replace f_some := Rep.mono S.ex f_some
                replace w_pot := o
                obtain rfl : v_q84 = V.int (t83.1) := f_q84
                refine ⟨_, _, rfl, rfl, ?_⟩
                obtain rfl := Option.some.inj h
                exact ⟨_, R, w_pot, rfl⟩
              have ne_pot_q87 := w_pot.ne n_q87; replace n_q87 := R.back n_q87
              replace R := R.ownS S n_pot; replace f_script := Rep.mono S.ex f_script; replace f_some := Rep.mono S.ex f_some; replace xGs22 := xGs22.trans S.ex; replace xGs29 := xGs29.trans S.ex
              replace w_pot := o
              obtain ⟨vs_q87, hp_q87, np_q87, rp_q87⟩ := w_q87
              replace R := R.freeze n_q87 np_q87 hp_q87; replace f_script := Rep.mono (Ex.new (o := .lst vs_q87) np_q87) f_script; replace f_some := Rep.mono (Ex.new (o := .lst vs_q87) np_q87) f_some; replace w_pot := w_pot.frz (o := .lst vs_q87) np_q87 (ne_pot_q87); replace xGs22 := xGs22.trans (Ex.new (o := .lst vs_q87) np_q87); replace xGs29 := xGs29.trans (Ex.new (o := .lst vs_q87) np_q87); have f_q87 := lend1 np_q87 rp_q87
              have f_value := f_q87
              refine wb_cons (ws_if ?_)
              obtain ⟨t88, h_t88, h⟩ := bind_some h
              obtain ⟨t89, h_t89, h⟩ := bind_some h
              refine EvT.go (et_ne' (α := Bool) (x := t88) (y := t89) hr.units (ec_V (w := ((PyData.list (List.map PyData.int t86.1)), ())) c_is_times hG hr (by decide) h_t88 (ea_cons (ev_dInts (ev_var (i := 11) rfl f_value)) ea_nil)) (ec_V (w := (t86.1, ())) c_law_is_times hG hr (by decide) h_t89 (ea_cons (ev_var (i := 11) rfl f_value) ea_nil))) R.sub (fun H G S => ?_)
              replace R := R.then S; replace f_script := Rep.mono S.ex f_script; replace f_some := Rep.mono S.ex f_some; replace f_value := Rep.mono S.ex f_value; replace w_pot := w_pot.step0 S; replace xGs22 := xGs22.trans S.ex; replace xGs29 := xGs29.trans S.ex
              rcases cond_some h with ⟨hb, h⟩ | ⟨hb, h⟩
              · refine if_t hb ?_
                refine wb_cons (ws_ret ?_)
                refine EvX.go ev_bl R.sub (fun v_q91 H G S f_q91 => ?_)
                replace R := R.then S; replace f_script := Rep.mono S.ex f_script; replace f_some := Rep.mono S.ex f_some; replace f_value := Rep.mono S.ex f_value; replace w_pot := w_pot.step0 S; replace xGs22 := xGs22.trans S.ex; replace xGs29 := xGs29.trans S.ex
                obtain rfl : v_q91 = V.bl (false) := f_q91
                exact ⟨_, (Option.some.inj h).symm, ⟨_, R, rfl⟩⟩
              · refine if_f hb ?_
                refine wb_nil ?_
                obtain ⟨c94, h_c94, h⟩ := bind_some h
                with_reducible refine wb_cons (ws_forL (fun e_g93 he_g93 => ?_))
                refine ws_for (g := (gName 13)) PassesOwn.never rfl (ei_list (EvN.val (EvN.ofLst (α := PyData) he_g93 (eli_cons (ev_dNon ev_non) (eli_cons (ev_dBl ev_bl) (eli_cons (ev_dInt (ev_int (i := 0))) (eli_cons (ev_dInt (EvX.is (x' := (-1 : Int)) (ev_neg (ev_int (i := 1))) (by decide))) (eli_cons (ev_dStr ev_str) (eli_cons (ev_dTup (l := ([(PyData.int (1 : Int))] : List PyData)) (el_cons (ev_dInt (ev_int (i := 1))) el_nil) (by show 1 ≤ 100000; decide)) (eli_cons (ev_dLst (EvN.val (ev_lst (α := PyData) (el_cons (ev_dInt (ev_int (i := 1))) el_nil) (by show 1 ≤ 100000; decide)))) (eli_cons (ev_dInt (ev_pow (k := 1000000000000000000000000000000) (by decide +kernel) (ev_int (i := 10)) (ev_int (i := 30)))) (eli_cons ev_dDic0 eli_nil))))))))) (by show 9 ≤ 100000; decide)))) R.sub (pg_name (i := 13) sc_law.nd rfl (by first | exact Or.inl rfl | exact Or.inr rfl)) h_c94 (fun Gs95 s92 σ H G => ∃ (o_at : Option V) (o_odd : Option V) (p_pot : Addr), σ = [some (v_script), o_size, some ((V.ref p_q42)), some (V.int (x23)), some (V.ref p_pot), some (V.int (x30)), some (V.str (t35)), o_time, o_at, o_one, o_bent, some ((V.ref p_q87)), some (V.int (t74)), o_odd] ∧ Rc [] H0 G0 H G ∧ Ex Gs22 G ∧ Ex Gs29 G ∧ Ex Gs95 G ∧ Rep.rel K G v_script script ∧ Rep.rel K G (V.ref p_q42) (cut t33.1 none (some (59 : Int))) ∧ Own K H G p_pot (s92 : (List Int)) ∧ H0 p_pot = none ∧ Rep.rel K G (V.ref p_q87) t86.1) (RTV K [] H0 G0) ?_ ?_ ?_ ?_ ?_ (hs := by rw [← he_g93]; intro _; rfl)
                · intro H G S
                  replace R := R.then S; replace f_script := Rep.mono S.ex f_script; replace f_some := Rep.mono S.ex f_some; replace f_value := Rep.mono S.ex f_value; replace w_pot := w_pot.step0 S; replace xGs22 := xGs22.trans S.ex; replace xGs29 := xGs29.trans S.ex
                  exact ⟨_, _, _, rfl, R, xGs22, xGs29, Ex.refl _, f_script, f_some, w_pot, n_pot, f_value⟩
                · intro Gs95 s92 σ H G hI
                  obtain ⟨o_at, o_odd, p_pot, rfl, R, xGs22, xGs29, xGs95, f_script, f_some, w_pot, n_pot, f_value⟩ := hI
                  exact ⟨xGs95, R.sub⟩
                · intro Gs95 s92 σ Hb Gb x96 c' u H G h hI S hu
                  obtain ⟨o_at, o_odd, p_pot, rfl, R, xGs22, xGs29, xGs95, f_script, f_some, w_pot, n_pot, f_value⟩ := hI
                  replace R := R.then S; replace f_script := Rep.mono S.ex f_script; replace f_some := Rep.mono S.ex f_some; replace f_value := Rep.mono S.ex f_value; replace w_pot := w_pot.step0 S; replace xGs22 := xGs22.trans S.ex; replace xGs29 := xGs29.trans S.ex; replace xGs95 := xGs95.trans S.ex
                  obtain ⟨v97, f_odd, rfl⟩ := hu
                  refine wb_cons (ws_set (i := 8) sc_law.nd ?_)
                  refine wc c_law_take hG hr (by decide) ?_
                  refine wpA_cons (wp_var (i := 4) rfl ?_)
                  refine wpA_cons ?_
                  refine EvX.go (ev_add (ev_len z_len (ev_var (i := 2) rfl f_some)) (ev_int (i := 1))) R.sub (fun v_q98 H G S f_q98 => ?_)
                  replace R := R.then S; replace f_script := Rep.mono S.ex f_script; replace f_some := Rep.mono S.ex f_some; replace f_odd := Rep.mono S.ex f_odd; replace f_value := Rep.mono S.ex f_value; replace w_pot := w_pot.step0 S; replace xGs22 := xGs22.trans S.ex; replace xGs29 := xGs29.trans S.ex; replace xGs95 := xGs95.trans S.ex
                  obtain rfl : v_q98 = V.int (((((cut t33.1 none (some (59 : Int)))).length : Int) + (1 : Int))) := f_q98
                  refine wpA_nil ?_
                  obtain ⟨t99, h_t99, h⟩ := bind_some h
                  refine ⟨_, _, _, _, (((((cut t33.1 none (some (59 : Int)))).length : Int) + (1 : Int)), ()), _, _, rfl, R.sub, w_pot, ⟨_, _, rfl, rfl, rfl⟩, h_t99, fun v_q100 H G S o f_q100 => ?_⟩
                  replace R := R.ownS S n_pot; replace f_script := Rep.mono S.ex f_script; replace f_some := Rep.mono S.ex f_some; replace f_odd := Rep.mono S.ex f_odd; replace f_value := Rep.mono S.ex f_value; replace xGs22 := xGs22.trans S.ex; replace xGs29 := xGs29.trans S.ex; replace xGs95 := xGs95.trans S.ex
                  replace w_pot := o
                  obtain rfl : v_q100 = V.int (t99.1) := f_q100
                  refine wb_cons (ws_if ?_)
                  obtain ⟨t101, h_t101, h⟩ := bind_some h
                  obtain ⟨t102, h_t102, h⟩ := bind_some h
                  obtain ⟨t103, h_t103, h⟩ := bind_some h
                  obtain ⟨t105, h_t105, h⟩ := bind_some h
                  refine EvT.go (et_w (ew_or (t := t103) (et_val (ec_V (w := ((PyData.list t102), ())) c_is_times hG hr (by decide) h_t103 (ea_cons (ev_dLst (EvN.val (ev_cat h_t102 (EvN.val (ev_cat h_t101 (ev_dsInts (EvN.val (ev_slice (ev_var (i := 2) rfl f_some) eo_none (eo_some (ev_var (i := 8) (x := (t99.1 : Int)) rfl rfl))))) (EvN.val (ev_lst (α := PyData) (el_cons (ev_var (i := 13) rfl f_odd) el_nil) (by show 1 ≤ 100000; decide))))) (ev_dsInts (EvN.val (ev_slice (ev_var (i := 2) rfl f_some) (eo_some (ev_var (i := 8) (x := (t99.1 : Int)) rfl rfl)) eo_none)))))) ea_nil))) (fun ha => by have hh := cond_f ha h_t105; obtain ⟨t104, h_t104, hh⟩ := bind_some hh; obtain rfl := Option.some.inj hh; exact (ew_or1 (et_val (ec_V (w := ((PyData.tuple (List.map PyData.int (cut t33.1 none (some (59 : Int))))), ())) c_is_times hG hr (by decide) h_t104 (ea_cons (ev_dTupI z_tuple (ev_var (i := 2) rfl f_some)) ea_nil))))) (fun ha => (Option.some.inj (cond_t ha h_t105)).symm))) R.sub (fun H G S => ?_)
                  replace R := R.then S; replace f_script := Rep.mono S.ex f_script; replace f_some := Rep.mono S.ex f_some; replace f_odd := Rep.mono S.ex f_odd; replace f_value := Rep.mono S.ex f_value; replace w_pot := w_pot.step0 S; replace xGs22 := xGs22.trans S.ex; replace xGs29 := xGs29.trans S.ex; replace xGs95 := xGs95.trans S.ex
                  rcases cond_some h with ⟨hb, h⟩ | ⟨hb, h⟩
                  · refine if_t hb ?_
                    refine wb_cons (ws_ret ?_)
                    refine EvX.go ev_bl R.sub (fun v_q107 H G S f_q107 => ?_)
                    replace R := R.then S; replace f_script := Rep.mono S.ex f_script; replace f_some := Rep.mono S.ex f_some; replace f_odd := Rep.mono S.ex f_odd; replace f_value := Rep.mono S.ex f_value; replace w_pot := w_pot.step0 S; replace xGs22 := xGs22.trans S.ex; replace xGs29 := xGs29.trans S.ex; replace xGs95 := xGs95.trans S.ex
                    obtain rfl : v_q107 = V.bl (false) := f_q107
                    exact ⟨_, (Option.some.inj h).symm, ⟨_, R, rfl⟩⟩
                  · refine if_f hb ?_
                    refine wb_nil ?_
                    refine wb_cons (ws_if ?_)
                    obtain ⟨t108, h_t108, h⟩ := bind_some h
                    obtain ⟨t109, h_t109, h⟩ := bind_some h
                    refine EvT.go (et_ne' (α := Bool) (x := t108) (y := t109) hr.units (ec_V (w := (x96, ())) c_is_times hG hr (by decide) h_t108 (ea_cons (ev_var (i := 13) rfl f_odd) ea_nil)) (ev_eqLD hr.units h_t109 (ev_var (i := 13) rfl f_odd) (EvN.val (ev_lst (α := Int) (el_cons (ev_int (i := 1)) el_nil) (by show 1 ≤ 100000; decide))))) R.sub (fun H G S => ?_)
                    replace R := R.then S; replace f_script := Rep.mono S.ex f_script; replace f_some := Rep.mono S.ex f_some; replace f_odd := Rep.mono S.ex f_odd; replace f_value := Rep.mono S.ex f_value; replace w_pot := w_pot.step0 S; replace xGs22 := xGs22.trans S.ex; replace xGs29 := xGs29.trans S.ex; replace xGs95 := xGs95.trans S.ex
                    rcases cond_some h with ⟨hb, h⟩ | ⟨hb, h⟩
                    · refine if_t hb ?_
                      refine wb_cons (ws_ret ?_)
                      refine EvX.go ev_bl R.sub (fun v_q111 H G S f_q111 => ?_)
                      replace R := R.then S; replace f_script := Rep.mono S.ex f_script; replace f_some := Rep.mono S.ex f_some; replace f_odd := Rep.mono S.ex f_odd; replace f_value := Rep.mono S.ex f_value; replace w_pot := w_pot.step0 S; replace xGs22 := xGs22.trans S.ex; replace xGs29 := xGs29.trans S.ex; replace xGs95 := xGs95.trans S.ex
                      obtain rfl : v_q111 = V.bl (false) := f_q111
                      exact ⟨_, (Option.some.inj h).symm, ⟨_, R, rfl⟩⟩
                    · refine if_f hb ?_
                      refine wb_nil ?_
                      refine wb_nil ?_
                      exact ⟨_, _, (Option.some.inj h).symm, ⟨_, _, _, rfl, R, xGs22, xGs29, xGs95, f_script, f_some, w_pot, n_pot, f_value⟩⟩
                · intro Gs95 s92 σ H G ec hI
                  have h := aft_nx ec h
                  obtain ⟨o_at, o_odd, p_pot, rfl, R, xGs22, xGs29, xGs95, f_script, f_some, w_pot, n_pot, f_value⟩ := hI
                  refine wb_nil ?_
                  exact ⟨_, _, (Option.some.inj h).symm, ⟨_, _, _, _, _, _, _, _, _, _, _, rfl, R, xGs22, xGs29, f_script, w_pot, n_pot⟩⟩
                · intro y v H ec hrt
                  have h := aft_rt ec h
                  exact ⟨_, (Option.some.inj h).symm, hrt⟩
            · intro y v H ec hrt
              have h := aft_rt ec h
              exact ⟨_, (Option.some.inj h).symm, hrt⟩
        · intro Gs29 s26 σ H G ec hI
          have h := aft_nx ec h
          obtain ⟨o_at, o_bent, o_kept, o_odd, o_one, o_some, o_time, o_turn, o_value, o_wide, p_pot, rfl, R, xGs22, xGs29, f_script, w_pot, n_pot⟩ := hI
          refine wb_nil ?_
          exact ⟨_, _, (Option.some.inj h).symm, ⟨_, _, _, _, _, _, _, _, _, _, _, _, rfl, R, xGs22, f_script⟩⟩
        · intro y v H ec hrt
          have h := aft_rt ec h
          exact ⟨_, (Option.some.inj h).symm, hrt⟩
      · intro Gs22 s19 σ H G ec hI
        have h := aft_nx ec h
        obtain ⟨o_at, o_bent, o_k, o_kept, o_odd, o_one, o_pot, o_some, o_time, o_turn, o_value, o_wide, rfl, R, xGs22, f_script⟩ := hI
        refine wb_cons (ws_ret ?_)
        obtain ⟨t112, h_t112, h⟩ := bind_some h
        obtain ⟨t118, h_t118, h⟩ := bind_some h
        refine EvX.go (ev_and (t := t112) (ec_V (w := ((PyData.list ([] : (List PyData))), ())) c_is_times hG hr (by decide) h_t112 (ea_cons (ev_dLst (EvN.val (ev_lst (α := PyData) el_nil (by show 0 ≤ 100000; decide)))) ea_nil)) (fun ha => by have hh := cond_t ha h_t118; obtain ⟨t113, h_t113, hh⟩ := bind_some hh; obtain ⟨t117, h_t117, hh⟩ := bind_some hh; obtain rfl := Option.some.inj hh; exact (ev_and (t := t113) (ec_V (w := ((PyData.list ([(PyData.int (2 : Int)), (PyData.int (1 : Int)), (PyData.int (2 : Int))] : (List PyData))), ())) c_is_times hG hr (by decide) h_t113 (ea_cons (ev_dLst (EvN.val (ev_lst (α := PyData) (el_cons (ev_dInt (ev_int (i := 2))) (el_cons (ev_dInt (ev_int (i := 1))) (el_cons (ev_dInt (ev_int (i := 2))) el_nil))) (by show 3 ≤ 100000; decide)))) ea_nil)) (fun ha => by have hh := cond_t ha h_t117; obtain ⟨t114, h_t114, hh⟩ := bind_some hh; obtain ⟨t116, h_t116, hh⟩ := bind_some hh; obtain rfl := Option.some.inj hh; exact (ev_and (t := (!t114)) (ev_not (ec_V (w := ((PyData.list ([(PyData.int (1 : Int)), (PyData.int (2 : Int)), (PyData.int (2 : Int))] : (List PyData))), ())) c_is_times hG hr (by decide) h_t114 (ea_cons (ev_dLst (EvN.val (ev_lst (α := PyData) (el_cons (ev_dInt (ev_int (i := 1))) (el_cons (ev_dInt (ev_int (i := 2))) (el_cons (ev_dInt (ev_int (i := 2))) el_nil))) (by show 3 ≤ 100000; decide)))) ea_nil))) (fun ha => by have hh := cond_t ha h_t116; obtain ⟨t115, h_t115, hh⟩ := bind_some hh; obtain rfl := Option.some.inj hh; exact (ev_one (ev_not (ec_V (w := ((PyData.str ("" : Str)), ())) c_is_times hG hr (by decide) h_t115 (ea_cons (ev_dStr ev_str) ea_nil))))) (fun ha => (Option.some.inj (cond_f ha h_t116)).symm))) (fun ha => (Option.some.inj (cond_f ha h_t117)).symm))) (fun ha => (Option.some.inj (cond_f ha h_t118)).symm)) R.sub (fun v_q119 H G S f_q119 => ?_)
        replace R := R.then S; replace f_script := Rep.mono S.ex f_script
        obtain rfl : v_q119 = V.bl (t118) := f_q119
        obtain rfl := Option.some.inj h
        exact q0 _ _ _ R rfl
      · intro y v H ec hrt
        have h := aft_rt ec h
        obtain rfl := Option.some.inj h
        obtain ⟨G, R, f⟩ := hrt
        exact q0 _ _ _ R f
    · intro y v H ec hrt
      have h := aft_rt ec h
      obtain rfl := Option.some.inj h
      obtain ⟨G, R, f⟩ := hrt
      exact q0 _ _ _ R f
  · intro y v H ec hrt
    have h := aft_rt ec h
    obtain rfl := Option.some.inj h
    obtain ⟨G, R, f⟩ := hrt
    exact q0 _ _ _ R f
end

theorem rounds_ok (row : List Int) (hl : row.length < line) : Ok (m_rounds_of row) (IsT row) := by
  unfold m_rounds_of
  have hline : line = 16000000 := rfl
  have hmin : ∀ x ∈ row, minD 0 row - 1 < x := fun x hx => by
    have := minD_le (d := 0) hx
    omega
  generalize hs : minD (0 : Int) row - 1 = s at hmin ⊢
  have hN : (row ++ [s]).length = row.length + 1 := by rw [List.length_append]; rfl
  refine Ok.bis (catO_ok (by simp only [List.length_cons, List.length_nil]; omega)) ?_
  refine Ok.bis (repO_0 (by omega)) ?_
  have hlast : nth (row ++ [s]) row.length = s := by
    unfold nth
    rw [List.getElem?_append_right (Nat.le_refl _), Nat.sub_self]
    rfl
  have hfst : ∀ j, j < row.length → nth (row ++ [s]) j = nth row j := fun j hj => nth_app hj
  generalize ht : row ++ [s] = t1 at hN hlast hfst ⊢
  generalize hNN : t1.length = N at hN ⊢
  refine Ok.aft (P := fun st => st.1.length = N ∧ ∃ ws : List Nat, st.2 = (ws.map fun (i : Nat) => (i : Int)).reverse ∧ SK (nth t1) (nth st.1) N ws ∧ Closed (nth t1) (nth st.1) N N ws ∧ lo ws = N) (Ok.mono (forL_ok (fun p st => p ≤ N ∧ st.1.length = N ∧ ∃ ws : List Nat, st.2 = (ws.map fun (i : Nat) => (i : Int)).reverse ∧ SK (nth t1) (nth st.1) p ws ∧ Closed (nth t1) (nth st.1) N p ws ∧ lo ws = p) ?h0 ?step) ?fin) ?post
  case h0 => exact ⟨Nat.zero_le _, List.length_replicate, [], rfl, trivial, fun j hj => absurd hj (Nat.not_lt_zero _), rfl⟩
  case fin =>
    rintro _ ⟨st, rfl, h⟩
    rw [enumI_length, hNN] at h
    exact ⟨st, rfl, h.2⟩
  case post =>
    rintro st ⟨hlen, ws, _, hsk, hcl, hlo⟩
    refine Ok.ret ?_
    rw [cut_last]
    cases ws with
    | nil =>
      have : 0 = N := hlo
      omega
    | cons w rest =>
      have hw : w + 1 = N := hlo
      have hwr : w = row.length := by omega
      subst hwr
      have hrest : rest = [] := by
        cases rest with
        | nil => rfl
        | cons t r =>
          have h1 := hsk.2.2.2.1 t rfl
          have h2 : t + 1 ≤ row.length := hsk.2.1
          have h3 := hmin (nth row t) (nth_mem (by omega))
          rw [hfst t (by omega), hlast] at h1
          omega
      subst hrest
      have hr : st.1.dropLast.length = row.length := by rw [List.length_dropLast]; omega
      refine ⟨hr, fun j hj => ?_⟩
      have hc := (hcl j (by omega) (by simp; omega)).2
      have hn : ∀ k, k < row.length → nth st.1.dropLast k = nth st.1 k := fun k hk => by rw [List.dropLast_eq_take, nth_take (by omega)]
      have hsee : ∀ k, Sees (nth t1) N j k ↔ Sees (nth row) row.length j k := by
        intro k
        constructor
        · rintro ⟨a, b, c⟩
          have hk : k < row.length := by
            by_cases hk : k < row.length
            · exact hk
            · have h1 := c row.length (Or.inl ⟨hj, by omega⟩)
              have h2 := hmin (nth row j) (nth_mem hj)
              rw [hlast, hfst j hj] at h1
              omega
          refine ⟨hk, b, fun m hm => ?_⟩
          have := c m hm
          rw [hfst j hj, hfst m (by omega)] at this
          exact this
        · rintro ⟨a, b, c⟩
          refine ⟨by omega, b, fun m hm => ?_⟩
          rw [hfst j hj, hfst m (by omega)]
          exact c m hm
      obtain ⟨a, b, c⟩ := hc
      refine ⟨by rw [hn j hj]; exact a, fun k hk => ?_, ?_⟩
      · rw [hn j hj, hn k hk.1]
        exact b k ((hsee k).mpr hk)
      · rw [hn j hj]
        rcases c with c | ⟨k, hk, c⟩
        · exact Or.inl c
        · refine Or.inr ⟨k, (hsee k).mp hk, ?_⟩
          rw [hn k ((hsee k).mp hk).1]
          exact c
  case step =>
    rintro p ⟨x1, x2⟩ ⟨r0, wt0⟩ hx ⟨hpN, hlen, ws0, hws, hsk, hcl, hlo⟩
    obtain ⟨hp, rfl, hx2⟩ := enumI_get hx
    have hx2' : nth t1 p = x2 := nth_of hx2
    simp only at hlen hws hsk hcl
    subst hws
    subst hx2'
    rw [hNN] at hp
    refine Ok.aft (P := fun s => s.2.1.length = N ∧ ∃ ws : List Nat, s.2.2 = (ws.map fun (i : Nat) => (i : Int)).reverse ∧ SK (nth t1) (nth s.2.1) p ws ∧ Closed (nth t1) (nth s.2.1) N p ws ∧ Top (nth t1) p s.1 (nth s.2.1) ws ∧ ∀ t, ws.head? = some t → nth t1 t ≤ nth t1 p) (Ok.mono (whl_ok (fun s => s.2.1.length = N ∧ ∃ ws : List Nat, s.2.2 = (ws.map fun (i : Nat) => (i : Int)).reverse ∧ SK (nth t1) (nth s.2.1) p ws ∧ Closed (nth t1) (nth s.2.1) N p ws ∧ Top (nth t1) p s.1 (nth s.2.1) ws) (fun s => ∀ ws : List Nat, s.2.2 = (ws.map fun (i : Nat) => (i : Int)).reverse → ∀ t, ws.head? = some t → nth t1 t ≤ nth t1 p) (fun s => s.2.2.length) ?stp ?w0 ?wn) ?wfin) ?wpost
    case w0 =>
      refine ⟨hlen, ws0, rfl, hsk, hcl, Int.le_refl _, fun k h1 h2 => ?_, Or.inl rfl, fun t h k h1 h2 => ?_⟩
      · omega
      · have : lo ws0 = t + 1 := by
          cases ws0 with
          | nil => cases h
          | cons y z =>
            have : y = t := Option.some.inj h
            subst this
            rfl
        omega
    case wn => exact Nat.lt_succ_self _
    case wfin =>
      rintro _ ⟨s, rfl, ⟨h1, ws, h2, h3⟩, hQ⟩
      exact ⟨s, rfl, h1, ws, h2, h3.1, h3.2.1, h3.2.2, hQ ws h2⟩
    case wpost =>
      rintro ⟨g, r, wt⟩ ⟨h1, ws, h2, h3, h4, h5, h6⟩
      simp only at h1 h2 h3 h4 h5
      subst h2
      have hr : ∀ k, k ≠ p → nth (r.set p (g + 1)) k = nth r k := fun k hk => by rw [nth_set (by omega), if_neg (fun e => hk e.symm)]
      have hu : nth (r.set p (g + 1)) p = g + 1 := by rw [nth_set (by omega), if_pos rfl]
      have hP := push (by omega) h3 h4 h5 h6 hr hu
      have hlw := h3.len
      refine Ok.bis (setO_nat (show p < r.length by omega)) ?_
      refine Ok.bis (appO_ok (by rw [List.length_reverse, List.length_map]; omega)) ?_
      refine Ok.ret ⟨_, rfl, by omega, by rw [List.length_set]; exact h1, p :: ws, ?_, hP.1, hP.2, rfl⟩
      rw [List.map_cons, List.reverse_cons]
    case stp =>
      rintro ⟨g, r, wt⟩ ⟨h1, ws, h2, h3, h4, h5⟩
      simp only at h1 h2 h3 h4 h5
      subst h2
      cases ws with
      | nil =>
        refine Ok.is (a := false) rfl ⟨fun h => (nomatch h), fun _ ws' e t h => ?_⟩
        have : ws' = [] := by
          have := congrArg List.length e
          rw [List.length_reverse, List.length_map, List.length_reverse, List.length_map] at this
          exact List.length_eq_zero_iff.mp this.symm
        subst this
        cases h
      | cons w rest =>
        have hw : w < p := h3.1
        have hrev : ((w :: rest).map fun (i : Nat) => (i : Int)).reverse = (rest.map fun (i : Nat) => (i : Int)).reverse ++ [(w : Int)] := by rw [List.map_cons, List.reverse_cons]
        have hne : (!((w :: rest).map fun (i : Nat) => (i : Int)).reverse.isEmpty) = true := by rw [hrev]; simp
        refine Ok.bind (P := fun b => b = decide (nth t1 p < nth t1 w)) ?_ ?_
        · refine Ok.tt hne ?_
          refine Ok.bis (by rw [hrev]; exact ix_last) ?_
          refine Ok.bis (ix_nat (by omega)) ?_
          exact Ok.ret rfl
        · rintro _ rfl
          refine Ok.ret ⟨fun hb => ?_, fun hb ws' e t h => ?_⟩
          · have he : nth t1 p < nth t1 w := of_decide_eq_true hb
            refine Ok.bis (by rw [hrev]; exact popO_last) ?_
            refine Ok.bis (ix_nat (show w < r.length by omega)) ?_
            have hT := pop_top h3 h5 he
            have hC := pop_closed (by omega) h3 h4 he
            cases rest with
            | nil =>
              refine Ok.bis (a := false) rfl ?_
              refine Ok.ff rfl ?_
              refine Ok.ret ⟨_, rfl, ⟨h1, [], rfl, trivial, hC, hT⟩, ?_⟩
              simp
            | cons t rest =>
              have htw : t + 1 ≤ w := h3.2.1
              have hrev2 : ((t :: rest).map fun (i : Nat) => (i : Int)).reverse = (rest.map fun (i : Nat) => (i : Int)).reverse ++ [(t : Int)] := by rw [List.map_cons, List.reverse_cons]
              have hne2 : (!((t :: rest).map fun (i : Nat) => (i : Int)).reverse.isEmpty) = true := by rw [hrev2]; simp
              refine Ok.bis (a := decide (nth t1 t < nth t1 w)) ?_ ?_
              · refine Ok.eq (Ok.tt hne2 ?_)
                refine Ok.bis (by rw [hrev2]; exact ix_last) ?_
                refine Ok.bis (ix_nat (by omega)) ?_
                refine Ok.bis (ix_nat (by omega)) ?_
                exact Ok.ret rfl
              · refine Ok.cond (fun hd => ?_) fun hd => ?_
                · have hd' : nth t1 t < nth t1 w := of_decide_eq_true hd
                  refine Ok.bis (by rw [hrev2]; exact ix_last) ?_
                  refine Ok.bis (ix_nat (show t < r.length by omega)) ?_
                  refine Ok.bis (by rw [hrev2]; exact ix_last) ?_
                  refine Ok.bis (setO_nat (show t < r.length by omega)) ?_
                  have hr : ∀ k, k ≠ t → nth (r.set t (max (nth r t) (max g (nth r w) + 1))) k = nth r k := fun k hk => by rw [nth_set (by omega), if_neg (fun e => hk e.symm)]
                  have hu : nth (r.set t (max (nth r t) (max g (nth r w) + 1))) t = max (nth r t) (max g (nth r w) + 1) := by rw [nth_set (by omega), if_pos rfl]
                  refine Ok.ret ⟨_, rfl, ⟨by rw [List.length_set]; exact h1, t :: rest, rfl, pop_more h3 h5 he hd' hr hu, closed_congr hC fun k _ hk => hr k fun e => hk (e ▸ List.mem_cons_self), top_congr (fun k hk _ => hr k (by have : t + 1 ≤ k := hk; omega)) hT⟩, ?_⟩
                  simp
                · have hd' : ¬ nth t1 t < nth t1 w := of_decide_eq_false hd
                  refine Ok.ret ⟨_, rfl, ⟨h1, t :: rest, rfl, pop_same h3 hd', hC, hT⟩, ?_⟩
                  simp
          · have he : ¬ nth t1 p < nth t1 w := of_decide_eq_false hb
            have e2 : ws' = w :: rest := by
              have e3 := List.reverse_inj.mp e
              have inj : ∀ (a b : List Nat), (a.map fun (i : Nat) => (i : Int)) = b.map (fun (i : Nat) => (i : Int)) → a = b := by
                intro a b
                exact (List.map_inj_right (fun x y h => by omega)).mp
              exact (inj _ _ e3).symm
            subst e2
            have : w = t := Option.some.inj h
            subst this
            omega

def LC (ts : List Int) : Prop := ∀ j, j < ts.length → 1 ≤ nth ts j ∧ (1 < nth ts j → ∃ k, Les (nth ts) ts.length j k ∧ nth ts k = nth ts j - 1)
theorem neg_iff {ts : List Int} : IsT (ts.map fun x => -x) ts ↔ LC ts := by
  have hl : (ts.map fun x => -x).length = ts.length := List.length_map _
  have hn : ∀ m, m < ts.length → nth (ts.map fun x => -x) m = - nth ts m := fun m hm => nth_map hm
  have hs : ∀ j, j < ts.length → ∀ k, Sees (nth (ts.map fun x => -x)) ts.length j k ↔ Les (nth ts) ts.length j k := by
    intro j hj k
    constructor
    · rintro ⟨a, b, c⟩
      refine ⟨a, b, fun m hm => ?_⟩
      have := c m hm
      rw [hn j hj, hn m (by omega)] at this
      omega
    · rintro ⟨a, b, c⟩
      refine ⟨a, b, fun m hm => ?_⟩
      have := c m hm
      rw [hn j hj, hn m (by omega)]
      omega
  constructor
  · rintro ⟨_, h⟩ j hj
    rw [hl] at h
    obtain ⟨a, b, c⟩ := h j hj
    refine ⟨a, fun k => ?_⟩
    rcases c with c | ⟨k', h1, h2⟩
    · omega
    · exact ⟨k', (hs j hj k').mp h1, by omega⟩
  · intro h
    refine ⟨hl.symm, fun j hj => ?_⟩
    rw [hl] at hj ⊢
    obtain ⟨a, b⟩ := h j hj
    refine ⟨a, fun k hk => ?_, ?_⟩
    · have h1 := (hs j hj k).mp hk
      have := h1.2.1
      exact h1.2.2 k (by omega)
    · by_cases c : nth ts j = 1
      · exact Or.inl c
      · obtain ⟨k, h1, h2⟩ := b (by omega)
        exact Or.inr ⟨k, (hs j hj k).mpr h1, by omega⟩
theorem isT_neg {row ts : List Int} (h : IsT row ts) : IsT (ts.map fun x => -x) ts := h.anti fun x y => by omega

/-! ### data of any kind, judged -/
def isI : PyData → Bool
  | .int _ => true
  | _ => false
def rowD : PyData → Bool
  | .list ds => ds.all isI
  | _ => false
abbrev D (l : List Int) : PyData := .list (l.map .int)
theorem is_int_d (d : PyData) : m_is_an_integer d = some (isI d) := by cases d <;> rfl
theorem is_row_d (d : PyData) : m_is_row d = some (rowD d) := by
  unfold m_is_row
  cases d with
  | list ds =>
    refine Ok.eq (Ok.bis (a := ds.all isI) (Ok.eq (Ok.tt rfl (Ok.bis (a := ds) rfl (Ok.bis (lcO_map (g := isI) ds fun x _ => by rw [is_int_d]; rfl) (Ok.ret ?_))))) (Ok.ret rfl))
    rw [List.all_map]
    rfl
  | _ => rfl
theorem intsOf_map : ∀ l : List Int, intsOf (l.map .int) = some l
  | [] => rfl
  | i :: r => by
    show (some i).bind (fun i => (intsOf (r.map .int)).bind fun is => some (i :: is)) = _
    rw [intsOf_map r]
    rfl
theorem asInts_D (l : List Int) : asInts (D l) = some l := intsOf_map l
theorem rowD_D (l : List Int) : rowD (D l) = true := by
  show (l.map PyData.int).all isI = true
  rw [List.all_eq_true]
  intro x hx
  obtain ⟨_, _, rfl⟩ := List.mem_map.mp hx
  rfl
/-- a list that is the times of no row -/
def NoT (l : List Int) : Prop := ∀ row, ¬ IsT row l
theorem is_times_bad {d : PyData} (h : rowD d = false) : m_is_times d = some false := by
  unfold m_is_times
  rw [is_row_d, h]
  rfl
theorem is_times_gen (l : List Int) (hl : l.length < line) : ∃ ts, IsT (l.map fun x => -x) ts ∧ m_is_times (D l) = some (eqs ts l) := by
  obtain ⟨ts, e, h⟩ := rounds_ok (l.map fun x => -x) (by rw [List.length_map]; exact hl)
  refine ⟨ts, h, ?_⟩
  unfold m_is_times
  rw [is_row_d, rowD_D]
  refine Ok.eq (Ok.bis rfl (Ok.bis (a := eqs ts l) (Ok.eq (Ok.tt rfl (Ok.bis (asInts_D l) (Ok.bis (lcO_map (g := fun x => -x) l fun x _ => rfl) (Ok.bis e (Ok.bis (asInts_D l) (Ok.ret rfl))))))) (Ok.ret rfl)))
theorem is_times_D {row ts : List Int} (h : IsT row ts) (hl : row.length < line) : m_is_times (D ts) = some true := by
  obtain ⟨ts', h', e⟩ := is_times_gen ts (by have := h.1; omega)
  have hn : IsT (ts.map fun x => -x) ts := h.anti fun x y => by omega
  rw [e, h'.unique hn, eqs_self]
theorem is_times_no {l : List Int} (h : NoT l) (hl : l.length < line) : m_is_times (D l) = some false := by
  obtain ⟨ts', h', e⟩ := is_times_gen l hl
  rw [e, eqs_false.mpr fun q => h _ (q ▸ h')]

theorem log_lt {x : Int} (h : x.natAbs < 2 ^ 200) : x.natAbs.log2 < 200 := by
  by_cases c : x.natAbs = 0
  · rw [c]
    decide
  · exact (Nat.log2_lt c).mpr h
theorem mul_ok {x y : Int} (h : x.natAbs < 2 ^ 200) (k : y.natAbs < 2 ^ 200) : mulO x y = some (x * y) := by
  have := log_lt h
  have := log_lt k
  unfold mulO
  exact if_pos (by omega)
theorem pow3_ok {x : Int} (h : x.natAbs < 2 ^ 200) : powO x 3 = some (x ^ 3) := by
  have := log_lt h
  unfold powO
  refine if_pos ⟨by decide, ?_⟩
  have e : Builtin.Int.intBits x ≤ 201 := by
    unfold Builtin.Int.intBits
    split <;> omega
  omega
theorem mod_ok {x y : Int} (h : 0 < y) : modO x y = some (x % y) := by
  unfold modO
  exact if_pos h
theorem fdiv_ok {x y : Int} (h : 0 < y) (k : y < 2 ^ 200) : fdivO x y = some (x / y) := by
  have := log_lt (x := y) (by omega)
  unfold fdivO
  exact if_pos ⟨h, by omega⟩
def PotI (n : Nat) (pot : List Int) : Prop := ∃ a b c : Int, pot = [a, b, c] ∧ 0 ≤ a ∧ 0 ≤ b ∧ b < 2 ^ 130 ∧ 0 ≤ c ∧ c ≤ n
theorem PotI.mono {n m : Nat} {pot : List Int} (h : PotI n pot) (k : n ≤ m) : PotI m pot := by
  obtain ⟨a, b, c, h1, h2, h3, h4, h5, h6⟩ := h
  exact ⟨a, b, c, h1, h2, h3, h4, h5, by omega⟩
theorem take_ok {n : Nat} {pot : List Int} {many : Int} (hp : PotI n pot) (hn : n < 2 ^ 40) (h0 : 0 < many) (h1 : many < 2 ^ 200) : Ok (m_law_take pot many) fun r => 0 ≤ r.1 ∧ r.1 < many ∧ PotI (n + 1) r.2 := by
  obtain ⟨a, b, c, rfl, ha, hb, hb2, hc, hcn⟩ := hp
  unfold m_law_take
  refine Ok.bis (a := a) rfl ?_
  refine Ok.cond (fun h => ?_) fun h => ?_
  · refine Ok.bis (a := a) rfl ?_
    refine Ok.bis (mod_ok h0) ?_
    refine Ok.bis (a := a) rfl ?_
    refine Ok.bis (fdiv_ok h0 h1) ?_
    refine Ok.bis (a := [a / many, b, c]) rfl ?_
    exact Ok.ret ⟨Int.emod_nonneg _ (by omega), Int.emod_lt_of_pos _ h0, _, b, c, rfl, Int.ediv_nonneg ha (by omega), hb, hb2, hc, by omega⟩
  · refine Ok.bis (a := c) rfl ?_
    refine Ok.bis (a := [a, b, c + 1]) rfl ?_
    refine Ok.bis (a := b) rfl ?_
    refine Ok.bis (a := c + 1) rfl ?_
    refine Ok.bis (mul_ok (by decide) (by omega)) ?_
    refine Ok.bis (pow3_ok (by omega)) ?_
    generalize (b + 14472334024676221 * (c + 1)) ^ 3 = y
    have y1 : 0 ≤ y % 100000000000000000000000000000000000000037 := Int.emod_nonneg _ (by decide)
    have y2 : y % 100000000000000000000000000000000000000037 < 100000000000000000000000000000000000000037 := Int.emod_lt_of_pos _ (by decide)
    refine Ok.bis (a := c + 1) rfl ?_
    refine Ok.bis (mul_ok (by decide) (by omega)) ?_
    refine Ok.bis (pow3_ok (by omega)) ?_
    refine Ok.bis (mod_ok h0) ?_
    exact Ok.ret ⟨Int.emod_nonneg _ (by omega), Int.emod_lt_of_pos _ h0, a, b, c + 1, rfl, ha, hb, hb2, by omega, by omega⟩
theorem pot_ok {ns : List Int} {k : Int} (h0 : 0 ≤ k) (h : k < 64) : Ok (m_law_pot ⟨ns⟩ k) (PotI 0) := by
  unfold m_law_pot
  refine Ok.bind (P := fun _ => True) (Ok.cond (fun hk => ?_) fun _ => Ok.ret trivial) fun t _ => ?_
  · refine Ok.bis (ix_int h0 (of_decide_eq_true hk)) (Ok.ret trivial)
  · refine Ok.bis (mul_ok (by decide) (by omega)) (Ok.ret ⟨_, _, _, rfl, by omega, ?_, ?_, by decide, by decide⟩)
    · have := Int.emod_nonneg t (b := 100000000000000000000000000000000000133) (by decide)
      omega
    · have := Int.emod_lt_of_pos t (b := 100000000000000000000000000000000000133) (by decide)
      omega

theorem row_ok {n : Nat} {pot : List Int} {most : Int} (hp : PotI n pot) (hn : n < 2 ^ 30) (h0 : 0 ≤ most) (h1 : most ≤ 60) : Ok (m_law_row pot most) fun r => r.1.length ≤ 60 ∧ PotI (n + 300) r.2 := by
  have hline : line = 16000000 := rfl
  unfold m_law_row
  refine Ok.bind (take_ok hp (by omega) (by decide) (by decide)) ?_
  rintro ⟨y1, p1⟩ ⟨a1, b1, hp⟩
  refine Ok.bind (take_ok hp (by omega) (by omega) (by omega)) ?_
  rintro ⟨y2, p2⟩ ⟨a2, b2, hp⟩
  refine Ok.bind (take_ok hp (by omega) (by decide) (by decide)) ?_
  rintro ⟨y3, p3⟩ ⟨a3, b3, hp⟩
  simp only at a1 b1 a2 b2 a3 b3 hp
  refine Ok.bind (P := fun t => 0 ≤ t ∧ t ≤ 60) ?_ ?_
  · by_cases c : y3 = 0
    · rw [if_pos (eqs_true.mpr c)]
      exact Ok.is (a := most) rfl ⟨h0, h1⟩
    · rw [if_neg (fun h => c (eqs_true.mp h))]
      exact Ok.is (a := y2) rfl ⟨a2, by omega⟩
  rintro t16 ⟨t0, t1⟩
  refine Ok.bind (take_ok hp (by omega) (by decide) (by decide)) ?_
  rintro ⟨y4, p4⟩ ⟨a4, b4, hp⟩
  simp only at a4 b4 hp
  refine Ok.bis (rng_ok t0 (by omega)) ?_
  refine Ok.aft (P := fun s => s.1.length ≤ 60 ∧ PotI (n + 300) s.2.2) (Ok.mono (forL_ok (fun i s => s.1.length = i ∧ PotI (n + 4 + 4 * i) s.2.2) ⟨rfl, hp.mono (by omega)⟩ ?_) ?_) ?_
  · rintro i x ⟨l, s, pt⟩ hx ⟨hl, hp⟩
    obtain ⟨hi, rfl⟩ := rng_get hx
    simp only at hl hp
    refine Ok.bind (take_ok hp (by omega) (by decide) (by decide)) ?_
    rintro ⟨z1, q1⟩ ⟨c1, d1, hp⟩
    simp only at c1 d1 hp
    refine Ok.bis (ix_int c1 (by simp only [List.length_cons, List.length_nil]; omega)) ?_
    refine Ok.bind (take_ok hp (by omega) (by omega) (by omega)) ?_
    rintro ⟨z2, q2⟩ ⟨c2, d2, hp⟩
    refine Ok.bind (take_ok hp (by omega) (by decide) (by decide)) ?_
    rintro ⟨z3, q3⟩ ⟨c3, d3, hp⟩
    simp only at hp
    refine Ok.bis (mod_ok (by omega)) ?_
    refine Ok.bind (take_ok hp (by omega) (by decide) (by decide)) ?_
    rintro ⟨z4, q4⟩ ⟨c4, d4, hp⟩
    simp only at hp
    refine Ok.bis (catO_ok (by simp only [List.length_cons, List.length_nil]; omega)) ?_
    refine Ok.bis (ix_int a1 (by simp only [List.length_append, List.length_cons, List.length_nil]; omega)) ?_
    refine Ok.bis (appO_ok (show l.length < line by omega)) ?_
    refine Ok.ret ⟨_, rfl, ?_, hp.mono (by omega)⟩
    rw [List.length_append, hl]
    rfl
  · rintro _ ⟨s, rfl, h1, h2⟩
    rw [List.length_map, List.length_range] at h1 h2
    exact ⟨s, rfl, by omega, h2.mono (by omega)⟩
  · rintro s ⟨h1, h2⟩
    exact Ok.ret ⟨h1, h2⟩

theorem near_lem {L : List Nat} {i p : Nat} (h : L[i]? = some p) : Ok (catO (cut (L.map fun (x : Nat) => (x : Int)) (some (max (0 : Int) ((i : Int) - 1))) (some (i : Int))) (cut (L.map fun (x : Nat) => (x : Int)) (some ((i : Int) + 1)) (some ((i : Int) + 2)))) fun near => ∀ x, x ∈ near ↔ ∃ q : Nat, x = (q : Int) ∧ (L[i + 1]? = some q ∨ (0 < i ∧ L[i - 1]? = some q)) := by
  have hline : line = 16000000 := rfl
  have hi := (List.getElem?_eq_some_iff.mp h).1
  have e1 : cut (L.map fun (x : Nat) => (x : Int)) (some (max (0 : Int) ((i : Int) - 1))) (some (i : Int)) = ((L.drop (i - 1)).take (i - (i - 1))).map fun (x : Nat) => (x : Int) := by
    rw [cut_mid _ (by omega) (by omega), List.map_take, List.map_drop]
    congr 1
    · omega
    · congr 1
      omega
  have e2 : cut (L.map fun (x : Nat) => (x : Int)) (some ((i : Int) + 1)) (some ((i : Int) + 2)) = ((L.drop (i + 1)).take 1).map fun (x : Nat) => (x : Int) := by
    rw [cut_mid _ (by omega) (by omega), List.map_take, List.map_drop, show ((i : Int) + 1).toNat = i + 1 by omega, show ((i : Int) + 2 - ((i : Int) + 1)).toNat = 1 by omega]
  rw [e1, e2]
  refine Ok.is (catO_ok (by rw [List.length_map, List.length_map, List.length_take, List.length_take]; omega)) fun x => ?_
  have hd : ∀ (l : List Nat) (a : Nat) (q : Nat), q ∈ (l.drop a).take 1 ↔ l[a]? = some q := by
    intro l a q
    cases hh : l[a]? with
    | none =>
      rw [List.drop_of_length_le (by have := List.getElem?_eq_none_iff.mp hh; omega)]
      simp
    | some y =>
      obtain ⟨hl, e⟩ := List.getElem?_eq_some_iff.mp hh
      rw [List.drop_eq_getElem_cons hl, e]
      simp [eq_comm]
  rw [List.mem_append, List.mem_map, List.mem_map]
  constructor
  · rintro (⟨q, hq, rfl⟩ | ⟨q, hq, rfl⟩)
    · by_cases c : i = 0
      · subst c
        simp at hq
      · rw [show i - (i - 1) = 1 by omega] at hq
        exact ⟨q, rfl, Or.inr ⟨by omega, (hd _ _ _).mp hq⟩⟩
    · exact ⟨q, rfl, Or.inl ((hd _ _ _).mp hq)⟩
  · rintro ⟨q, rfl, h | ⟨h0, h⟩⟩
    · exact Or.inr ⟨q, (hd _ _ _).mpr h, rfl⟩
    · refine Or.inl ⟨q, ?_, rfl⟩
      rw [show i - (i - 1) = 1 by omega]
      exact (hd _ _ _).mpr h
theorem played_ok {row ts : List Int} (h : IsT row ts) (hl : row.length ≤ 1000) : m_law_times row = some ts := by
  have hline : line = 16000000 := rfl
  have hlen := h.1
  unfold m_law_times
  refine Ok.eq (Ok.bis (repO_0 (by omega)) (Ok.bis (rng_ok (by omega) (by omega)) ?_))
  refine Ok.aft (P := fun s => s.1 = ts) (Ok.mono (whl_ok (fun s => ∃ r : Nat, s.2.2 = (r : Int) ∧ s.2.1 = (Lft ts row.length r).map (fun (x : Nat) => (x : Int)) ∧ s.1.length = row.length ∧ ∀ j, j < row.length → nth s.1 j = if nth ts j ≤ (r : Int) then nth ts j else 0) (fun s => s.2.1 = []) (fun s => s.2.1.length) ?st ?in0 ?fu) ?fi) ?po
  case po =>
    rintro s rfl
    exact Ok.ret rfl
  case fu =>
    show ((List.range _).map _).length < _
    rw [List.length_map, List.length_range, Int.toNat_natCast]
    omega
  case in0 =>
    refine ⟨0, rfl, ?_, List.length_replicate, fun j hj => ?_⟩
    · have e : Lft ts row.length 0 = List.range row.length := by
        unfold Lft
        refine List.filter_eq_self.mpr fun j hj => ?_
        have := (h.2 j (List.mem_range.mp hj)).1
        exact decide_eq_true (by omega)
      show (List.range _).map _ = _
      rw [e, Int.toNat_natCast]
    · have := (h.2 j hj).1
      rw [if_neg (by omega)]
      unfold nth
      rw [List.getElem?_replicate]
      split <;> rfl
  case fi =>
    rintro _ ⟨s, rfl, ⟨r, h1, h2, h3, h4⟩, hq⟩
    refine ⟨s, rfl, ext_nth (by omega) fun j hj => ?_⟩
    rw [h4 j (by omega)]
    have he : Lft ts row.length r = [] := by
      have := h2.symm.trans hq
      exact List.map_eq_nil_iff.mp this
    by_cases c : nth ts j ≤ (r : Int)
    · rw [if_pos c]
    · have : j ∈ Lft ts row.length r := lft_mem.mpr ⟨by omega, by omega⟩
      rw [he] at this
      cases this
  case st =>
    rintro ⟨found, left, number⟩ ⟨r, h1, h2, h3, h4⟩
    dsimp only at h1 h2 h3 h4 ⊢
    subst h1
    subst h2
    refine Ok.ret ⟨fun hb => ?_, fun hb => ?_⟩
    · have hne : Lft ts row.length r ≠ [] := by
        intro e
        rw [e] at hb
        have hb2 : (!eqs ([] : List Int) ([] : List Int)) = true := hb
        rw [eqs_self] at hb2
        cases hb2
      have hLl : (Lft ts row.length r).length ≤ row.length := by
        have := List.length_filter_le (fun j => decide ((r : Int) < nth ts j)) (List.range row.length)
        rw [List.length_range] at this
        exact this
      refine Ok.aft (P := fun gone => gone = ((Lft ts row.length r).filter fun j => decide (nth ts j = (r : Int) + 1)).map fun (x : Nat) => (x : Int)) (Ok.mono (forL_ok (fun i gone => gone = (((Lft ts row.length r).take i).filter fun j => decide (nth ts j = (r : Int) + 1)).map fun (x : Nat) => (x : Int)) (by simp) ?step) ?fin) ?nxt
      case fin =>
        rintro _ ⟨s, rfl, e⟩
        refine ⟨s, rfl, ?_⟩
        rw [enumI_length, List.length_map, List.take_length] at e
        exact e
      case step =>
        rintro i ⟨x1, x2⟩ gone hx hI
        obtain ⟨hi, hx1, hx2⟩ := enumI_get hx
        dsimp only at hx1 hx2 ⊢
        subst hx1
        rw [List.getElem?_map] at hx2
        cases hp : (Lft ts row.length r)[i]? with
        | none =>
          rw [hp] at hx2
          cases hx2
        | some p =>
          rw [hp] at hx2
          obtain rfl : (p : Int) = x2 := Option.some.inj hx2
          have hpm := lft_mem.mp (List.mem_of_getElem? hp)
          refine Ok.bind (near_lem hp) fun near hnear => ?_
          have hnb : ∀ x ∈ near, ∃ q : Nat, x = (q : Int) ∧ q < row.length := by
            intro x hx
            obtain ⟨q, e, hq⟩ := (hnear x).mp hx
            have hq' := (lft_adj hp).mpr hq
            exact ⟨q, e, hq'.1⟩
          refine Ok.bis (lcO_filter (p := fun x => decide (nth row p < nth row x.toNat)) (g := fun x => x) near (fun x hx => ?_) fun x hx _ => rfl) ?_
          · obtain ⟨q, rfl, hq⟩ := hnb x hx
            exact Ok.eq (Ok.bis (ix_nat hq) (Ok.bis (ix_nat hpm.1) (Ok.ret rfl)))
          have hiff : nth ts p = (r : Int) + 1 ↔ (near.filter fun x => decide (nth row p < nth row x.toNat)).map (fun x => x) = [] := by
            rw [peak_iff h.2 (by omega) hpm.1 hpm.2, List.map_eq_nil_iff, List.filter_eq_nil_iff]
            constructor
            · intro hk x hx
              obtain ⟨q, rfl, hq⟩ := (hnear x).mp hx
              have := hk q ((lft_adj hp).mpr hq)
              rw [Int.toNat_natCast]
              simp only [decide_eq_true_eq]
              omega
            · intro hk q hq
              have := hk (q : Int) ((hnear _).mpr ⟨q, rfl, (lft_adj hp).mp hq⟩)
              rw [Int.toNat_natCast] at this
              simp only [decide_eq_true_eq] at this
              omega
          have htake : (Lft ts row.length r).take (i + 1) = (Lft ts row.length r).take i ++ [p] := by
            rw [List.take_add_one, hp]
            rfl
          refine Ok.cond (fun hb2 => ?_) fun hb2 => Ok.ret ⟨_, rfl, ?_⟩
          · have hpk := hiff.mpr (eqs_true.mp hb2)
            refine Ok.bis (appO_ok ?_) (Ok.ret ⟨_, rfl, ?_⟩)
            · rw [hI, List.length_map]
              have := List.length_filter_le (fun j => decide (nth ts j = (r : Int) + 1)) ((Lft ts row.length r).take i)
              rw [List.length_take] at this
              omega
            · rw [htake, List.filter_append, List.map_append, ← hI]
              simp [hpk]
          · have hpk : ¬ nth ts p = (r : Int) + 1 := fun e => eqs_false.mp hb2 (hiff.mp e)
            rw [htake, List.filter_append, List.map_append, ← hI]
            simp [hpk]
      case nxt =>
        rintro gone rfl
        refine Ok.aft (P := fun (f2 : List Int) => f2.length = row.length ∧ ∀ j, j < row.length → nth f2 j = if nth ts j ≤ ((r + 1 : Nat) : Int) then nth ts j else 0) (Ok.mono (forL_ok (fun i (f2 : List Int) => f2.length = row.length ∧ ∀ j, j < row.length → nth f2 j = if nth ts j ≤ (r : Int) ∨ j ∈ ((Lft ts row.length r).filter fun j => decide (nth ts j = (r : Int) + 1)).take i then nth ts j else 0) ⟨h3, fun j hj => ?a0⟩ ?a1) ?a2) ?a3
        case a0 => rw [h4 j hj]; simp
        case a1 =>
          rintro i x f2 hx ⟨g1, g2⟩
          rw [List.getElem?_map] at hx
          cases hp : ((Lft ts row.length r).filter fun j => decide (nth ts j = (r : Int) + 1))[i]? with
          | none =>
            rw [hp] at hx
            cases hx
          | some p =>
            rw [hp] at hx
            obtain rfl : (p : Int) = x := Option.some.inj hx
            obtain ⟨m1, m2⟩ := List.mem_filter.mp (List.mem_of_getElem? hp)
            have m3 := (lft_mem.mp m1).1
            have m4 := of_decide_eq_true m2
            refine Ok.bis (setO_nat (by omega)) (Ok.ret ⟨_, rfl, by rw [List.length_set]; exact g1, fun j hj => ?_⟩)
            rw [nth_set (by omega), List.take_add_one, hp]
            by_cases c : p = j
            · subst c
              rw [if_pos rfl, if_pos (Or.inr (List.mem_append_right _ (by simp)))]
              omega
            · rw [if_neg c, g2 j hj]
              have : j ∈ ((Lft ts row.length r).filter fun j => decide (nth ts j = (r : Int) + 1)).take i ++ (some p).toList ↔ j ∈ ((Lft ts row.length r).filter fun j => decide (nth ts j = (r : Int) + 1)).take i := by
                rw [List.mem_append]
                refine ⟨fun z => z.elim id fun z => ?_, Or.inl⟩
                have : j = p := by simpa using z
                exact absurd this.symm c
              simp only [this]
        case a2 =>
          rintro _ ⟨f2, rfl, g1, g2⟩
          refine ⟨f2, rfl, g1, fun j hj => ?_⟩
          rw [List.length_map, List.take_length] at g2
          rw [g2 j hj]
          have : (nth ts j ≤ (r : Int) ∨ j ∈ (Lft ts row.length r).filter fun j => decide (nth ts j = (r : Int) + 1)) ↔ nth ts j ≤ ((r + 1 : Nat) : Int) := by
            rw [List.mem_filter, lft_mem, decide_eq_true_iff]
            constructor
            · rintro (z | z) <;> omega
            · intro z
              by_cases c : nth ts j ≤ (r : Int)
              · exact Or.inl c
              · exact Or.inr ⟨⟨hj, by omega⟩, by omega⟩
          simp only [this]
        case a3 =>
          rintro f2 ⟨g1, g2⟩
          refine Ok.bis (lcO_filter (p := fun x => !decide (x ∈ ((Lft ts row.length r).filter fun j => decide (nth ts j = (r : Int) + 1)).map fun (x : Nat) => (x : Int))) (g := fun x => x) _ (fun x hx => rfl) fun x hx _ => rfl) ?_
          have e : ((((Lft ts row.length r).map fun (x : Nat) => (x : Int)).filter fun x => !decide (x ∈ ((Lft ts row.length r).filter fun j => decide (nth ts j = (r : Int) + 1)).map fun (x : Nat) => (x : Int))).map fun x => x) = (Lft ts row.length (r + 1)).map fun (x : Nat) => (x : Int) := by
            rw [List.map_id', List.filter_map, ← lft_next]
            congr 1
            refine List.filter_congr fun j hj => ?_
            rw [Bool.eq_iff_iff]
            simp only [Function.comp, Bool.not_eq_true', decide_eq_false_iff_not, decide_eq_true_iff]
            constructor
            · intro z k
              exact z (List.mem_map.mpr ⟨j, List.mem_filter.mpr ⟨hj, decide_eq_true k⟩, rfl⟩)
            · intro z k
              obtain ⟨j', hj', e⟩ := List.mem_map.mp k
              have : j' = j := by omega
              subst this
              exact z (of_decide_eq_true (List.mem_filter.mp hj').2)
          rw [e]
          refine Ok.ret ⟨_, rfl, ⟨r + 1, by dsimp only; omega, rfl, g1, g2⟩, ?_⟩
          dsimp only
          rw [List.length_map, List.length_map]
          exact lft_less h hne
    · have hb' : eqs ((Lft ts row.length r).map fun (x : Nat) => (x : Int)) ([] : List Int) = true := by simpa using hb
      exact eqs_true.mp hb'

theorem eqs_refl_not {α : Type} [Eqs α] {x y : α} (h : x = y) : (!eqs x y) = false := by
  rw [eqs_true.mpr h]
  rfl
theorem top_le {row ts : List Int} (h : IsT row ts) : maxD 0 ts ≤ ts.length := by
  have hd := dif_row h
  obtain ⟨hn, hm⟩ := dif_spec (ts.map fun x => maxD 0 ts - x)
  have := nodup_len hn (l' := ts.map fun x => maxD 0 ts - x) fun y hy => (hm y).mp hy
  rw [List.length_map] at this
  omega
theorem small_log {x : Int} (h : x.natAbs ≤ 1000) : x.natAbs.log2 < 1920 := by
  by_cases c : x.natAbs = 0
  · rw [c]
    decide
  · have : x.natAbs.log2 < 10 := (Nat.log2_lt c).mpr (by omega)
    omega
theorem repr_times {row ts : List Int} (h : IsT row ts) (hl : ts.length ≤ 1000) : ∃ t, reprO ts = some t :=
  repr_ok (fun x hx => small_log (by have := h.pos x hx; have := maxD_ge (d := 0) hx; have := top_le h; omega)) hl
theorem repr_row {row ts : List Int} (h : IsT row ts) (hl : ts.length ≤ 1000) : ∃ t, reprO (ts.map fun x => maxD 0 ts - x) = some t :=
  repr_ok (fun y hy => by
    obtain ⟨x, hx, rfl⟩ := List.mem_map.mp hy
    exact small_log (by have := h.pos x hx; have := maxD_ge (d := 0) hx; have := top_le h; omega)) (by rw [List.length_map]; exact hl)
theorem tall_ok {n : Nat} {pot : List Int} {most : Int} (hp : PotI n pot) (hn : n < 2 ^ 30) (h0 : 0 ≤ most) (h1 : most ≤ 60) : Ok (m_law_tall pot most) fun r => (∃ row, IsT row r.1) ∧ r.1.length ≤ 60 ∧ PotI (n + 400) r.2 := by
  have hline : line = 16000000 := rfl
  unfold m_law_tall
  refine Ok.bind (row_ok hp hn h0 h1) ?_
  rintro ⟨row, p1⟩ ⟨hl, hp⟩
  dsimp only at hl hp ⊢
  refine Ok.bind (P := fun (s : List Int × List Int) => s.2.length ≤ 60 ∧ PotI (n + 380) s.1) ?_ ?_
  · refine Ok.bind (take_ok hp (by omega) (by decide) (by decide)) ?_
    rintro ⟨z, p2⟩ ⟨a1, b1, hp⟩
    dsimp only at a1 b1 hp ⊢
    refine Ok.cond (fun _ => ?_) fun _ => Ok.ret ⟨hl, hp.mono (by omega)⟩
    refine Ok.bind (take_ok hp (by omega) (by omega) (by omega)) ?_
    rintro ⟨k, p3⟩ ⟨a2, b2, hp⟩
    dsimp only at a2 b2 hp ⊢
    refine Ok.bis (rng_ok a2 (by omega)) ?_
    refine Ok.bind (lcM_ok (fun i pt => PotI (n + 302 + i) pt) (fun _ => True) _ 0 p3 (hp.mono (by omega)) fun i x s hx hi hs => ?_) ?_
    · rw [List.length_map, List.length_range] at hi
      exact Ok.bind (take_ok hs (by omega) (by decide) (by decide)) fun r hr => Ok.ret ⟨trivial, hr.2.2⟩
    · rintro ⟨ys, p⟩ ⟨e1, _, e3⟩
      rw [List.length_map, List.length_range] at e1 e3
      dsimp only at e1
      exact Ok.ret ⟨show ys.length ≤ 60 by omega, e3.mono (by omega)⟩
  rintro ⟨p4, row2⟩ ⟨hl2, hp⟩
  dsimp only at hl2 hp ⊢
  obtain ⟨ts, _, h⟩ := rounds_ok row2 (by omega)
  have hlen := h.1
  refine Ok.bis (played_ok h (by omega)) ?_
  refine Ok.bind (P := fun (s : List Int × List Int) => (∃ row, IsT row s.1) ∧ s.1.length ≤ 60 ∧ PotI (n + 400) s.2) ?_ fun s hs => Ok.ret hs
  refine Ok.bind (take_ok hp (by omega) (by decide) (by decide)) ?_
  rintro ⟨z, p5⟩ ⟨_, _, hp⟩
  dsimp only at hp ⊢
  refine Ok.bind (P := fun b => b = true → 2 * (ts.length : Int) < most) (Ok.cond (fun _ => Ok.bis (mul_ok (by decide) (by omega)) (Ok.ret fun hb => of_decide_eq_true hb)) fun _ => Ok.ret fun hb => (nomatch hb)) ?_
  intro b hb
  refine Ok.cond (fun hb1 => ?_) fun _ => Ok.ret ⟨⟨row2, h⟩, (show ts.length ≤ 60 by omega), hp.mono (by omega)⟩
  have hsmall := hb hb1
  refine Ok.bis (catO_ok (by simp only [List.length_cons, List.length_nil]; omega)) ?_
  refine Ok.bis (maxD0_pos h) ?_
  refine Ok.bis (catO_ok (by simp only [List.length_cons, List.length_nil]; omega)) ?_
  refine Ok.bis (catO_ok (by rw [List.length_append, List.length_singleton, List.length_reverse]; omega)) ?_
  have hr := h.rev
  have hmr : maxD 0 ts.reverse = maxD 0 ts := by
    by_cases c : ts = []
    · rw [c]
      rfl
    · exact maxD_eq (fun y hy => maxD_ge (List.mem_reverse.mp hy)) (Or.inl (List.mem_reverse.mpr (maxD_mem c)))
  have hj := h.join (s := minD 0 (row2 ++ row2.reverse) - 1) (g := maxD 0 ts + 1) hr (fun x hx => by have := minD_le (d := 0) hx; omega) (by rw [hmr]; omega)
  refine Ok.ret ⟨⟨_, hj⟩, ?_, hp.mono (by omega)⟩
  simp only [List.length_append, List.length_singleton, List.length_reverse]
  omega

/-! ### is_times, as the law tells it -/
theorem is_times_lc {l : List Int} (hl : l.length < line) : Ok (m_is_times (D l)) fun b => b = true ↔ LC l := by
  obtain ⟨ts, h, e⟩ := is_times_gen l hl
  refine Ok.is e ?_
  rw [eqs_true]
  constructor
  · intro q
    subst q
    exact neg_iff.mp h
  · intro q
    exact h.unique (neg_iff.mpr q)
theorem near_ok {α : Type} {p : List Int} {x : Int} {f : Int → Option α} {Q : α → Prop} (hl : p.length < line) (k : ∀ a : Nat, a ≤ p.length → (∀ m, m < a → nth p m < x) → (a = p.length ∨ x ≤ nth p a) → Ok (f (a : Int)) Q) :
    Ok (Option.bind (lcO (fun (z : Int × Int) => some (decide (x ≤ z.2))) (fun (z : Int × Int) => some z.1) (enumI p)) fun t12 => (Option.bind (catO t12 ([((p).length : Int)] : (List Int))) fun t13 => (Option.bind (ix t13 (0 : Int)) f))) Q := by
  have hline : line = 16000000 := rfl
  refine Ok.bis (lcO_filter (p := fun z : Int × Int => decide (x ≤ z.2)) (g := fun z => z.1) _ (fun z _ => rfl) (fun z _ _ => rfl)) ?_
  have hle : ((enumI p).filter fun z => decide (x ≤ z.2)).length ≤ p.length := by
    have := List.length_filter_le (fun z : Int × Int => decide (x ≤ z.2)) (enumI p)
    rw [enumI_length] at this
    exact this
  refine Ok.bis (catO_ok (by rw [List.length_map, List.length_singleton]; omega)) ?_
  have hf := List.head?_filter (p := fun z : Int × Int => decide (x ≤ z.2)) (l := enumI p)
  cases hF : (enumI p).filter fun z => decide (x ≤ z.2) with
  | nil =>
    refine Ok.bis (a := (p.length : Int)) rfl (k _ (Nat.le_refl _) (fun m hm => ?_) (Or.inl rfl))
    have h1 := List.filter_eq_nil_iff.mp hF
    have hm2 : m < (enumI p).length := by rw [enumI_length]; exact hm
    have h2 := h1 _ (List.getElem_mem hm2)
    obtain ⟨_, _, h3⟩ := enumI_get (List.getElem?_eq_getElem hm2)
    have h4 := nth_of h3
    rw [decide_eq_true_iff] at h2
    omega
  | cons z r =>
    rw [hF] at hf
    obtain ⟨h1, i, hi, h2, h3⟩ := List.find?_eq_some_iff_getElem.mp hf.symm
    obtain ⟨a1, a2, a3⟩ := enumI_get (x := z) (by rw [List.getElem?_eq_getElem hi, h2])
    have a4 := nth_of a3
    rw [decide_eq_true_iff] at h1
    refine Ok.bis (a := z.1) (ix_nat (xs := z.1 :: _) (i := 0) (Nat.succ_pos _)) ?_
    rw [a2]
    refine k i (Nat.le_of_lt a1) (fun m hm => ?_) (Or.inr (by omega))
    have hm2 : m < (enumI p).length := by omega
    have h5 := h3 m hm
    obtain ⟨_, _, h6⟩ := enumI_get (List.getElem?_eq_getElem hm2)
    have h7 := nth_of h6
    rw [Bool.not_eq_true', decide_eq_false_iff_not] at h5
    omega
theorem near_mem {ts p : List Int} {j a : Nat} {y : Int} (pos : Nat → Nat) (hn : ∀ m, m < p.length → nth p m = nth ts (pos m)) (h1 : ∀ m m', m ≤ m' → m' < p.length → Les (nth ts) ts.length j (pos m') → nth ts (pos m) < nth ts j)
    (h2 : ∀ m, m < p.length → (∀ m', m' ≤ m → nth ts (pos m') < nth ts j) → Les (nth ts) ts.length j (pos m)) (ha : a ≤ p.length) (hlt : ∀ m, m < a → nth p m < nth ts j) (hge : a = p.length ∨ nth ts j ≤ nth p a) :
    y ∈ p.take a ↔ ∃ m, m < p.length ∧ Les (nth ts) ts.length j (pos m) ∧ nth ts (pos m) = y := by
  constructor
  · intro h
    obtain ⟨i, hi, e⟩ := mem_nth h
    rw [List.length_take] at hi
    rw [nth_take (by omega)] at e
    refine ⟨i, by omega, h2 i (by omega) fun m' hm' => ?_, by rw [← hn i (by omega)]; exact e⟩
    rw [← hn m' (by omega)]
    exact hlt m' (by omega)
  · rintro ⟨m, hm, hL, e⟩
    by_cases c : m < a
    · have : nth (p.take a) m = y := by
        rw [nth_take c, hn m hm]
        exact e
      rw [← this]
      exact nth_mem (by rw [List.length_take]; omega)
    · have h3 := h1 a m (by omega) hm hL
      rcases hge with hge | hge
      · omega
      · rw [hn a (by omega)] at hge
        omega
theorem law_is_ok {ts : List Int} (hm : ts.length ≤ 1000) : Ok (m_law_is_times ts) fun b => b = true ↔ LC ts := by
  have hline : line = 16000000 := rfl
  unfold m_law_is_times
  refine Ok.aft2 (P := fun (_ : Unit) => LC ts) (R := fun (b : Bool) => b = false ∧ ¬ LC ts) ?hh ?pp ?rr
  case pp => exact fun _ h => Ok.ret ⟨fun _ => h, fun _ => rfl⟩
  case rr =>
    rintro b ⟨rfl, h⟩
    exact Ok.ret ⟨fun h => (nomatch h), fun k => absurd k h⟩
  refine Ok.mono (forL_ret (fun i (_ : Unit) => ∀ j, j < i → 1 ≤ nth ts j ∧ (1 < nth ts j → ∃ k, Les (nth ts) ts.length j k ∧ nth ts k = nth ts j - 1)) (fun (b : Bool) => b = false ∧ ¬ LC ts) (fun j hj => absurd hj (Nat.not_lt_zero _)) ?_) ?_
  · rintro j ⟨x1, x2⟩ s hx hI
    obtain ⟨hj, rfl, hx2⟩ := enumI_get hx
    have e2 : nth ts j = x2 := nth_of hx2
    subst e2
    simp only
    have c1 : cut ts none (some (j : Int)) = ts.take j := by
      rw [cut_head _ (by omega)]
      rw [Int.toNat_natCast]
    have c2 : cut ts (some ((j : Int) + 1)) none = ts.drop (j + 1) := by
      rw [cut_tail _ (by omega), show ((j : Int) + 1).toNat = j + 1 by omega]
    rw [c1, c2]
    refine Ok.aft (P := fun (s : List Bool) => true ∈ s ↔ (nth ts j = 1 ∨ (∃ m, m < j ∧ Les (nth ts) ts.length j (j - 1 - m) ∧ nth ts (j - 1 - m) = nth ts j - 1) ∨ ∃ m, m < ts.length - (j + 1) ∧ Les (nth ts) ts.length j (j + 1 + m) ∧ nth ts (j + 1 + m) = nth ts j - 1))
      (Ok.mono (forL_ok (fun i (s : List Bool) => s.length = i + 1 ∧ (true ∈ s ↔ (nth ts j = 1 ∨ (1 ≤ i ∧ ∃ m, m < j ∧ Les (nth ts) ts.length j (j - 1 - m) ∧ nth ts (j - 1 - m) = nth ts j - 1) ∨ (2 ≤ i ∧ ∃ m, m < ts.length - (j + 1) ∧ Les (nth ts) ts.length j (j + 1 + m) ∧ nth ts (j + 1 + m) = nth ts j - 1)))) ⟨rfl, ?ba⟩ ?st) ?fi) ?po
    case ba =>
      rw [List.mem_singleton]
      constructor
      · intro h
        exact Or.inl (eqs_true.mp h.symm)
      · rintro (h | h | h)
        · exact (eqs_true.mpr h).symm
        · omega
        · omega
    case fi =>
      rintro _ ⟨s, rfl, _, h⟩
      refine ⟨s, rfl, h.trans ?_⟩
      rw [show ([(List.reverse (ts.take j)), ts.drop (j + 1)] : List (List Int)).length = 2 from rfl]
      constructor
      · rintro (h | ⟨_, h⟩ | ⟨_, h⟩)
        · exact Or.inl h
        · exact Or.inr (Or.inl h)
        · exact Or.inr (Or.inr h)
      · rintro (h | h | h)
        · exact Or.inl h
        · exact Or.inr (Or.inl ⟨by decide, h⟩)
        · exact Or.inr (Or.inr ⟨by decide, h⟩)
    case st =>
      rintro i p s hp ⟨hs, hI2⟩
      have hi : (i = 0 ∧ p = List.reverse (ts.take j)) ∨ (i = 1 ∧ p = ts.drop (j + 1)) := by
        match i, hp with
        | 0, hp => exact Or.inl ⟨rfl, (Option.some.inj hp).symm⟩
        | 1, hp => exact Or.inr ⟨rfl, (Option.some.inj hp).symm⟩
        | n + 2, hp => cases hp
      rcases hi with ⟨rfl, rfl⟩ | ⟨rfl, rfl⟩
      · have hlen : (List.reverse (ts.take j)).length = j := by
          rw [List.length_reverse, List.length_take]
          omega
        have hn : ∀ m, m < (List.reverse (ts.take j)).length → nth (List.reverse (ts.take j)) m = nth ts (j - 1 - m) := fun m hm => by
          rw [List.length_reverse] at hm
          have hm2 := hm
          rw [List.length_take] at hm2
          rw [nth_rev hm, nth_take (by rw [List.length_take]; omega), List.length_take, Nat.min_eq_left (by omega)]
        refine near_ok (by omega) fun a ha hlt hge => ?_
        refine Ok.bis (appO_ok (by omega)) (Ok.ret ⟨_, rfl, by rw [List.length_append, hs]; rfl, ?_⟩)
        rw [List.mem_append, List.mem_singleton, hI2, cut_head _ (by omega), Int.toNat_natCast]
        have key := near_mem (y := nth ts j - 1) (fun m => j - 1 - m) hn (fun m m' h1 h2 hL => hL.2.2 _ (Or.inr (by omega))) (fun m h1 h2 => ⟨by omega, by omega, fun q hq => by
          have := h2 (j - 1 - q) (by omega)
          rw [show j - 1 - (j - 1 - q) = q by omega] at this
          exact this⟩) ha hlt hge
        rw [hlen] at key
        constructor
        · rintro (h | h)
          · rcases h with h | h | h
            · exact Or.inl h
            · omega
            · omega
          · exact Or.inr (Or.inl ⟨Nat.le_refl _, key.mp (of_decide_eq_true h.symm)⟩)
        · rintro (h | h | h)
          · exact Or.inl (Or.inl h)
          · exact Or.inr (decide_eq_true (key.mpr h.2)).symm
          · omega
      · have hlen : (ts.drop (j + 1)).length = ts.length - (j + 1) := List.length_drop
        have hn : ∀ m, m < (ts.drop (j + 1)).length → nth (ts.drop (j + 1)) m = nth ts (j + 1 + m) := fun m hm => nth_drop
        refine near_ok (by omega) fun a ha hlt hge => ?_
        refine Ok.bis (appO_ok (by omega)) (Ok.ret ⟨_, rfl, by rw [List.length_append, hs]; rfl, ?_⟩)
        rw [List.mem_append, List.mem_singleton, hI2, cut_head _ (by omega), Int.toNat_natCast]
        have key := near_mem (y := nth ts j - 1) (fun m => j + 1 + m) hn (fun m m' h1 h2 hL => hL.2.2 _ (Or.inl (by omega))) (fun m h1 h2 => ⟨by omega, by omega, fun q hq => by
          have := h2 (q - (j + 1)) (by omega)
          rw [show j + 1 + (q - (j + 1)) = q by omega] at this
          exact this⟩) ha hlt hge
        rw [hlen] at key
        constructor
        · rintro (h | h)
          · rcases h with h | h | h
            · exact Or.inl h
            · exact Or.inr (Or.inl ⟨by omega, h.2⟩)
            · omega
          · exact Or.inr (Or.inr ⟨Nat.le_refl _, key.mp (of_decide_eq_true h.symm)⟩)
        · rintro (h | h | h)
          · exact Or.inl (Or.inl h)
          · exact Or.inl (Or.inr (Or.inl ⟨Nat.le_refl _, h.2⟩))
          · exact Or.inr (decide_eq_true (key.mpr h.2)).symm
    case po =>
      intro s hs
      have good : ((decide (nth ts j < 1)) || (!decide (true ∈ s))) = true ↔ ¬ (1 ≤ nth ts j ∧ (1 < nth ts j → ∃ k, Les (nth ts) ts.length j k ∧ nth ts k = nth ts j - 1)) := by
        rw [Bool.or_eq_true, decide_eq_true_iff, Bool.not_eq_true', decide_eq_false_iff_not, hs]
        constructor
        · rintro (h | h) ⟨g1, g2⟩
          · omega
          · by_cases c : nth ts j = 1
            · exact h (Or.inl c)
            · obtain ⟨k, k1, k2⟩ := g2 (by omega)
              have kk1 := k1.1
              have kk2 := k1.2.1
              by_cases c2 : k < j
              · refine h (Or.inr (Or.inl ⟨j - 1 - k, by omega, ?_⟩))
                rw [show j - 1 - (j - 1 - k) = k by omega]
                exact ⟨k1, k2⟩
              · refine h (Or.inr (Or.inr ⟨k - (j + 1), by omega, ?_⟩))
                rw [show j + 1 + (k - (j + 1)) = k by omega]
                exact ⟨k1, k2⟩
        · intro h
          by_cases c : nth ts j < 1
          · exact Or.inl c
          · right
            intro z
            apply h
            refine ⟨by omega, fun c1 => ?_⟩
            rcases z with z | ⟨m, _, z⟩ | ⟨m, _, z⟩
            · omega
            · exact ⟨_, z⟩
            · exact ⟨_, z⟩
      refine Ok.cond (fun hb => Ok.ret (Or.inr ⟨_, rfl, rfl, fun z => good.mp hb (z j hj)⟩)) fun hb => Ok.ret (Or.inl ⟨_, rfl, fun j' hj' => ?_⟩)
      by_cases c : j' = j
      · subst c
        by_cases c3 : 1 ≤ nth ts j' ∧ (1 < nth ts j' → ∃ k, Les (nth ts) ts.length j' k ∧ nth ts k = nth ts j' - 1)
        · exact c3
        · have := good.mpr c3
          rw [hb] at this
          cases this
      · exact hI j' (by omega)
  · rintro _ (⟨s, rfl, h⟩ | ⟨y, rfl, h⟩)
    · rw [enumI_length] at h
      exact Or.inl ⟨s, rfl, h⟩
    · exact Or.inr ⟨y, rfl, h⟩

/-! ### the short lists -/
theorem rng2_ok {lo hi : Int} (h0 : 0 ≤ lo) (h1 : lo ≤ 10) (h2 : hi ≤ 10) (h3 : -10 ≤ hi) : rngO lo hi = some ((List.range (hi - lo).toNat).map fun (i : Nat) => lo + (i : Int)) := by
  have hline : line = 16000000 := rfl
  have e : (line : Int) = 16000000 := rfl
  unfold rngO
  rw [if_pos (by refine ⟨?_, ?_, ?_, ?_, ?_⟩ <;> omega)]
  rfl
theorem lists_ok {n w : Nat} {lo hi : Int} (hn : n ≤ 6) (hw : hi + 1 - lo = w) (hw4 : w ≤ 4) (h0 : 0 ≤ lo) (h1 : lo ≤ 1) : Ok (m_law_lists n lo hi) fun rows => rows.length ≤ 4096 ∧ ∀ r, r ∈ rows ↔ r.length = n ∧ ∀ y ∈ r, lo ≤ y ∧ y ≤ hi := by
  have hline : line = 16000000 := rfl
  have hpow : ∀ i, i ≤ 6 → w ^ i ≤ 4096 := fun i hi => Nat.le_trans (Nat.pow_le_pow_left hw4 i) (Nat.le_trans (Nat.pow_le_pow_right (by decide) hi) (by decide))
  unfold m_law_lists
  refine Ok.bis (rng_ok (by omega) (by omega)) ?_
  refine Ok.aft (P := fun (s : List (List Int)) => s.length = w ^ n ∧ ∀ r, r ∈ s ↔ r.length = n ∧ ∀ y ∈ r, lo ≤ y ∧ y ≤ hi) (Ok.mono (forL_ok (fun i (s : List (List Int)) => s.length = w ^ i ∧ ∀ r, r ∈ s ↔ r.length = i ∧ ∀ y ∈ r, lo ≤ y ∧ y ≤ hi) ⟨rfl, fun r => ?ba⟩ ?_) ?_) ?_
  case ba =>
    rw [List.mem_singleton, List.length_eq_zero_iff]
    constructor
    · rintro rfl
      exact ⟨rfl, fun y hy => nomatch hy⟩
    · exact fun h => h.1
  · rintro i x s hx ⟨h2, h3⟩
    obtain ⟨hi6, rfl⟩ := rng_get hx
    have hp := hpow (i + 1) (by omega)
    rw [Nat.pow_succ] at hp
    refine Ok.aft (P := fun (t : List (List Int)) => t.length = w * s.length ∧ ∀ r, r ∈ t ↔ ∃ row ∈ s, ∃ y : Int, lo ≤ y ∧ y ≤ hi ∧ r = row ++ [y]) (Ok.mono (forL_ok (fun j (t : List (List Int)) => t.length = w * j ∧ ∀ r, r ∈ t ↔ ∃ k, k < j ∧ ∃ row, s[k]? = some row ∧ ∃ y : Int, lo ≤ y ∧ y ≤ hi ∧ r = row ++ [y]) ⟨rfl, fun r => ⟨fun h => (nomatch h), fun ⟨k, hk, _⟩ => absurd hk (Nat.not_lt_zero _)⟩⟩ ?_) ?_) ?_
    · rintro j row t hrow ⟨g1, g2⟩
      have hm := List.mem_of_getElem? hrow
      have hj := (List.getElem?_eq_some_iff.mp hrow).1
      have hlr := ((h3 row).mp hm).1
      have hjs : w * j + w ≤ w * s.length := by
        rw [← Nat.mul_succ]
        exact Nat.mul_le_mul_left _ hj
      rw [h2, Nat.mul_comm w (w ^ i)] at hjs
      refine Ok.bis (rng2_ok h0 (by omega) (by omega) (by omega)) ?_
      refine Ok.bis (lcO_map (g := fun y => row ++ [y]) _ fun y _ => Ok.eq (Ok.bis (catO_ok (by simp only [List.length_cons, List.length_nil]; omega)) (Ok.ret rfl))) ?_
      have hwn : (hi + 1 - lo).toNat = w := by omega
      refine Ok.bis (a := t ++ _) (if_pos ?_) (Ok.ret ⟨_, rfl, ?_, fun r => ?_⟩)
      · rw [List.length_map, List.length_map, List.length_range, hwn]
        omega
      · rw [List.length_append, List.length_map, List.length_map, List.length_range, hwn, g1, Nat.mul_succ]
      · rw [List.mem_append, g2]
        constructor
        · rintro (⟨k, hk, z⟩ | hr)
          · exact ⟨k, by omega, z⟩
          · obtain ⟨y, hy, rfl⟩ := List.mem_map.mp hr
            obtain ⟨m, hm, rfl⟩ := List.mem_map.mp hy
            have := List.mem_range.mp hm
            exact ⟨j, by omega, row, hrow, _, by omega, by omega, rfl⟩
        · rintro ⟨k, hk, row', hrow', y, y0, y1, rfl⟩
          by_cases c : k = j
          · subst c
            rw [hrow] at hrow'
            obtain rfl := Option.some.inj hrow'
            right
            refine List.mem_map.mpr ⟨y, List.mem_map.mpr ⟨(y - lo).toNat, List.mem_range.mpr (by omega), by omega⟩, rfl⟩
          · exact Or.inl ⟨k, by omega, row', hrow', y, y0, y1, rfl⟩
    · rintro _ ⟨t, rfl, g1, g2⟩
      refine ⟨t, rfl, g1, fun r => (g2 r).trans ?_⟩
      constructor
      · rintro ⟨k, hk, row, hrow, z⟩
        exact ⟨row, List.mem_of_getElem? hrow, z⟩
      · rintro ⟨row, hrow, z⟩
        obtain ⟨k, hk⟩ := List.getElem?_of_mem hrow
        exact ⟨k, (List.getElem?_eq_some_iff.mp hk).1, row, hk, z⟩
    · rintro t ⟨g1, g2⟩
      refine Ok.ret ⟨_, rfl, ?_, fun r => (g2 r).trans ?_⟩
      · rw [g1, h2, Nat.pow_succ, Nat.mul_comm]
      · constructor
        · rintro ⟨row, hrow, y, y0, y1, rfl⟩
          obtain ⟨k1, k2⟩ := (h3 row).mp hrow
          refine ⟨by rw [List.length_append, k1]; rfl, fun z hz => ?_⟩
          rcases List.mem_append.mp hz with hz | hz
          · exact k2 z hz
          · rw [List.mem_singleton.mp hz]
            exact ⟨y0, y1⟩
        · rintro ⟨hr, hb⟩
          have hne : r ≠ [] := fun e => by rw [e] at hr; cases hr
          have e := List.dropLast_concat_getLast hne
          have hy := hb _ (List.getLast_mem hne)
          exact ⟨r.dropLast, (h3 _).mpr ⟨by rw [List.length_dropLast, hr]; rfl, fun y hy => hb y (List.dropLast_subset _ hy)⟩, _, hy.1, hy.2, e.symm⟩
  · rintro _ ⟨s, rfl, h2, h3⟩
    rw [List.length_map, List.length_range, Int.toNat_natCast] at h2 h3
    exact ⟨s, rfl, h2, h3⟩
  · rintro s ⟨h2, h3⟩
    exact Ok.ret ⟨by rw [h2]; exact hpow n hn, h3⟩
theorem small_ok {n : Nat} (hn : n ≤ 4) : m_law_small_right n = some true := by
  have hline : line = 16000000 := rfl
  unfold m_law_small_right
  refine Ok.eq (Ok.bind (lists_ok (n := n) (w := n) (lo := 0) (hi := (n : Int) - 1) (by omega) (by omega) hn (by decide) (by decide)) ?_)
  rintro rows ⟨hrl, hrm⟩
  refine Ok.aft (P := fun (s : List (List Int)) => ∀ k, k ∈ s ↔ ∃ row ∈ rows, IsT row k) (Ok.mono (forL_ok (fun i (s : List (List Int)) => s.length ≤ i ∧ ∀ k, k ∈ s ↔ ∃ m, m < i ∧ ∃ row, rows[m]? = some row ∧ IsT row k) ⟨Nat.le_refl _, fun k => ⟨fun h => (nomatch h), fun ⟨m, hm, _⟩ => absurd hm (Nat.not_lt_zero _)⟩⟩ ?_) ?_) ?_
  · rintro i row s hrow ⟨g1, g2⟩
    have hi := (List.getElem?_eq_some_iff.mp hrow).1
    have hlen := ((hrm row).mp (List.mem_of_getElem? hrow)).1
    obtain ⟨ts, _, h⟩ := rounds_ok row (by omega)
    refine Ok.bis (played_ok h (by omega)) ?_
    refine Ok.bis (a := if ts ∈ s then s else s ++ [ts]) (if_pos (by omega)) (Ok.ret ⟨_, rfl, ?_, fun k => ?_⟩)
    · split
      · omega
      · rw [List.length_append, List.length_singleton]
        omega
    · have e1 : k ∈ (if ts ∈ s then s else s ++ [ts]) ↔ k ∈ s ∨ k = ts := by
        split
        · rename_i c
          constructor
          · exact Or.inl
          · rintro (h | h)
            · exact h
            · rw [h]
              exact c
        · rw [List.mem_append, List.mem_singleton]
      rw [e1, g2]
      constructor
      · rintro (⟨m, hm, z⟩ | rfl)
        · exact ⟨m, by omega, z⟩
        · exact ⟨i, by omega, row, hrow, h⟩
      · rintro ⟨m, hm, row', hrow', z⟩
        by_cases c : m = i
        · subst c
          rw [hrow] at hrow'
          obtain rfl := Option.some.inj hrow'
          exact Or.inr (z.unique h)
        · exact Or.inl ⟨m, by omega, row', hrow', z⟩
  · rintro _ ⟨s, rfl, _, g2⟩
    refine ⟨s, rfl, fun k => (g2 k).trans ?_⟩
    constructor
    · rintro ⟨m, _, row, hrow, z⟩
      exact ⟨row, List.mem_of_getElem? hrow, z⟩
    · rintro ⟨row, hrow, z⟩
      obtain ⟨m, hm⟩ := List.getElem?_of_mem hrow
      exact ⟨m, (List.getElem?_eq_some_iff.mp hm).1, row, hm, z⟩
  · intro s hs
    refine Ok.bind (lists_ok (n := n) (w := min 4 (n + 1)) (lo := 1) (hi := min 4 ((n : Int) + 1)) (by omega) (by omega) (by omega) (by decide) (by decide)) ?_
    rintro alls ⟨_, ham⟩
    refine Ok.aft2 (P := fun (_ : Unit) => True) (R := fun _ => False) ?hh (fun _ _ => Ok.ret rfl) (fun _ h => h.elim)
    refine Ok.mono (forL_ret (fun _ (_ : Unit) => True) (fun _ => False) trivial ?_) fun _ z => z
    intro i l _ hl _
    obtain ⟨l1, l2⟩ := (ham l).mp (List.mem_of_getElem? hl)
    refine Ok.bind (is_times_lc (by omega)) fun b hb => ?_
    have hkey : b = decide (l ∈ s) := by
      rw [Bool.eq_iff_iff, decide_eq_true_iff, hb, hs]
      constructor
      · intro h
        have hI := neg_iff.mpr h
        have ht := top_le hI
        have hw : IsT (l.map fun x => maxD 0 l - x) l := by
          exact hI.anti fun x y => by omega
        refine ⟨_, (hrm _).mpr ⟨by rw [List.length_map]; exact l1, fun y hy => ?_⟩, hw⟩
        obtain ⟨x, hx, rfl⟩ := List.mem_map.mp hy
        have h1 := (l2 x hx).1
        have h2 := maxD_ge (d := 0) hx
        omega
      · rintro ⟨row, _, h⟩
        exact neg_iff.mp (isT_neg h)
    refine Ok.ff (by rw [hkey, eqs_self]; rfl) (Ok.ret (Or.inl ⟨_, rfl, trivial⟩))

/-! ### k05 -/
theorem eqs_refl_not2 {a b : Bool} (h : a = b) : (!eqs a b) = false := by
  rw [eqs_true.mpr h]
  rfl
theorem both_ok {l : List Int} (hl : l.length ≤ 1000) : ∃ b, m_is_times (D l) = some b ∧ m_law_is_times l = some b := by
  have hline : line = 16000000 := rfl
  obtain ⟨b, e, h⟩ := is_times_lc (l := l) (by omega)
  obtain ⟨c, e2, h2⟩ := law_is_ok hl
  have : c = b := by rw [Bool.eq_iff_iff, h, h2]
  subst this
  exact ⟨_, e, e2⟩
theorem maxO_app0 {xs : List Int} {n : Int} (hn : 0 ≤ n) (h : ∀ x ∈ xs, x ≤ n) : ∃ m, maxO (xs ++ [0]) = some m ∧ 0 ≤ m ∧ m ≤ n := by
  have hne : xs ++ [0] ≠ [] := by simp
  refine ⟨maxD 0 (xs ++ [0]), ?_, maxD_ge (List.mem_append_right _ List.mem_cons_self), ?_⟩
  · cases xs <;> rfl
  · rcases List.mem_append.mp (maxD_mem (d := 0) hne) with q | q
    · exact h _ q
    · rw [List.mem_singleton.mp q]
      exact hn
theorem big_no {l1 l2 : List Int} {z : Int} (hl : l1.length + l2.length ≤ 60) (hz : z < 1 ∨ 100 < z) : m_is_times (D (l1 ++ [z] ++ l2)) = some false := by
  have hline : line = 16000000 := rfl
  have hlen : (l1 ++ [z] ++ l2).length ≤ 61 := by
    rw [List.length_append, List.length_append, List.length_singleton]
    omega
  refine is_times_no (fun row h => ?_) (by omega)
  have hm : z ∈ l1 ++ [z] ++ l2 := List.mem_append_left _ (List.mem_append_right _ List.mem_cons_self)
  have h1 := h.pos z hm
  have h2 := maxD_ge (d := 0) hm
  have h3 := top_le h
  omega
theorem odd_row {l1 l2 : List Int} {d : PyData} (h : isI d = false) : m_is_times (.list (l1.map .int ++ [d] ++ l2.map .int)) = some false := by
  refine is_times_bad ?_
  show (l1.map PyData.int ++ [d] ++ l2.map PyData.int).all isI = false
  rw [List.all_append, List.all_append]
  simp [h]
theorem odd_int {l1 l2 : List Int} {z : Int} (hl : l1.length + l2.length ≤ 60) (hz : z < 1 ∨ 100 < z) : m_is_times (.list (l1.map .int ++ [.int z] ++ l2.map .int)) = some false := by
  have := big_no hl hz
  rw [← this]
  show _ = m_is_times (.list (List.map PyData.int _))
  rw [List.map_append, List.map_append]
  rfl
theorem odds : ∀ d ∈ ([PyData.none, (PyData.bool true), (PyData.int (0 : Int)), (PyData.int (-1 : Int)), (PyData.str ("1" : Str)), (PyData.tuple [(PyData.int (1 : Int))]), (PyData.list ([(PyData.int (1 : Int))] : (List PyData))), (PyData.int (1000000000000000000000000000000 : Int)), (PyData.dict [])] : (List PyData)),
    (∃ b, m_is_times d = some b ∧ eqLD d [1] = some b) ∧ ∀ l1 l2 : List Int, l1.length + l2.length ≤ 60 → m_is_times (.list (l1.map .int ++ [d] ++ l2.map .int)) = some false := by
  intro d hd
  simp only [List.mem_cons, List.not_mem_nil, or_false] at hd
  rcases hd with rfl | rfl | rfl | rfl | rfl | rfl | rfl | rfl | rfl
  · exact ⟨⟨false, by decide +kernel, by decide +kernel⟩, fun _ _ _ => odd_row rfl⟩
  · exact ⟨⟨false, by decide +kernel, by decide +kernel⟩, fun _ _ _ => odd_row rfl⟩
  · exact ⟨⟨false, by decide +kernel, by decide +kernel⟩, fun _ _ h => odd_int h (Or.inl (by decide))⟩
  · exact ⟨⟨false, by decide +kernel, by decide +kernel⟩, fun _ _ h => odd_int h (Or.inl (by decide))⟩
  · exact ⟨⟨false, by decide +kernel, by decide +kernel⟩, fun _ _ _ => odd_row rfl⟩
  · exact ⟨⟨false, by decide +kernel, by decide +kernel⟩, fun _ _ _ => odd_row rfl⟩
  · exact ⟨⟨true, by decide +kernel, by decide +kernel⟩, fun _ _ _ => odd_row rfl⟩
  · exact ⟨⟨false, by decide +kernel, by decide +kernel⟩, fun _ _ h => odd_int h (Or.inr (by decide))⟩
  · exact ⟨⟨false, by decide +kernel, by decide +kernel⟩, fun _ _ _ => odd_row rfl⟩
theorem law_true (ns : List Int) (hl : ns.length ≤ 63) (hb : ∀ z ∈ ns, Builtin.Int.intBits z ≤ 1048576) : m_law ⟨ns⟩ = some true := by
  have hline : line = 16000000 := rfl
  unfold m_law
  refine Ok.eq (Ok.bis (rng_ok (by decide) (by omega)) ?_)
  refine Ok.aft2 (P := fun (_ : Unit) => True) (R := fun _ => False) ?h1 ?p1 (fun _ h => h.elim)
  case h1 =>
    refine Ok.mono (forL_ret (fun _ (_ : Unit) => True) (fun _ => False) trivial ?_) fun _ z => z
    intro i x s hx _
    obtain ⟨hi, rfl⟩ := rng_get hx
    have hi5 : i < 5 := hi
    exact Ok.bis (small_ok (by omega)) (Ok.ff rfl (Ok.ret (Or.inl ⟨_, rfl, trivial⟩)))
  intro _ _
  refine Ok.bind (lists_ok (n := 6) (w := 3) (lo := 1) (hi := 3) (by decide) (by decide) (by decide) (by decide) (by decide)) ?_
  rintro alls ⟨_, ham⟩
  refine Ok.aft2 (P := fun (_ : Unit) => True) (R := fun _ => False) ?h2 ?p2 (fun _ h => h.elim)
  case h2 =>
    refine Ok.mono (forL_ret (fun _ (_ : Unit) => True) (fun _ => False) trivial ?_) fun _ z => z
    intro i l s hx _
    have h6 := ((ham l).mp (List.mem_of_getElem? hx)).1
    obtain ⟨b, e1, e2⟩ := both_ok (l := l) (by omega)
    exact Ok.bis e1 (Ok.bis e2 (Ok.ff (eqs_refl_not2 rfl) (Ok.ret (Or.inl ⟨_, rfl, trivial⟩))))
  intro _ _
  refine Ok.bis (rng_ok (by omega) (by omega)) ?_
  refine Ok.aft2 (P := fun (_ : Unit) => True) (R := fun _ => False) ?h3 ?p3 (fun _ h => h.elim)
  case p3 =>
    intro _ _
    have f1 : m_is_times (PyData.list ([] : (List PyData))) = some true := by decide +kernel
    have f2 : m_is_times (PyData.list ([(PyData.int (2 : Int)), (PyData.int (1 : Int)), (PyData.int (2 : Int))] : (List PyData))) = some true := by decide +kernel
    have f3 : m_is_times (PyData.list ([(PyData.int (1 : Int)), (PyData.int (2 : Int)), (PyData.int (2 : Int))] : (List PyData))) = some false := by decide +kernel
    have f4 : m_is_times (PyData.str ("" : Str)) = some false := by decide +kernel
    exact Ok.bis f1 (Ok.bis (a := true) (Ok.eq (Ok.tt rfl (Ok.bis f2 (Ok.bis (a := true) (Ok.eq (Ok.tt rfl (Ok.bis f3 (Ok.bis (a := true) (Ok.eq (Ok.tt rfl (Ok.bis f4 (Ok.ret rfl)))) (Ok.ret rfl))))) (Ok.ret rfl))))) (Ok.ret rfl))
  refine Ok.mono (forL_ret (fun _ (_ : Unit) => True) (fun _ => False) trivial ?_) fun _ z => z
  intro i x s hx _
  obtain ⟨hi, rfl⟩ := rng_get hx
  refine Ok.bind (pot_ok (by omega) (by omega)) fun pot hp => ?_
  refine Ok.bis (rng_ok (by decide) (by omega)) ?_
  refine Ok.aft2 (P := fun (_ : List Int) => True) (R := fun _ => False) ?h4 (fun _ _ => Ok.ret (Or.inl ⟨_, rfl, trivial⟩)) (fun _ h => h.elim)
  refine Ok.mono (forL_ret (fun i pt => PotI (600 * i) pt) (fun _ => False) hp ?_) ?_
  · intro k y pt hy hp
    obtain ⟨hk, rfl⟩ := rng_get hy
    have hk' : k < 3 := hk
    refine Ok.bind (P := fun m => 0 ≤ m ∧ m ≤ 60) (Ok.is (ix_nat (by simp only [List.length_cons, List.length_nil]; omega)) ?_) fun m hm => ?_
    · have : k = 0 ∨ k = 1 ∨ k = 2 := by omega
      rcases this with rfl | rfl | rfl <;> decide
    refine Ok.bind (tall_ok hp (by omega) hm.1 hm.2) ?_
    rintro ⟨ts, p1⟩ ⟨⟨row, h⟩, h1, h2⟩
    dsimp only at h h1 h2 ⊢
    have hlen := h.1
    have htop := top_le h
    obtain ⟨tx, ht⟩ := repr_times h (by omega)
    refine Ok.bis ht (Ok.bis (is_times_D h (by omega)) (Ok.bis (a := false) (Ok.eq (Ok.ff rfl (Ok.bis ht (Ok.ret (by rw [eqs_self]; rfl))))) (Ok.ff rfl ?_)))
    refine Ok.bis (rng_ok (by decide) (by omega)) ?_
    have hS : cut ts none (some (59 : Int)) = ts.take 59 := cut_head _ (by decide)
    rw [hS]
    have sl : (ts.take 59).length ≤ 59 := by
      rw [List.length_take]
      omega
    have sb : ∀ x ∈ ts.take 59, x ≤ 60 := fun x hx => by
      have := maxD_ge (d := 0) (List.mem_of_mem_take hx)
      omega
    generalize ts.take 59 = S at sl sb ⊢
    refine Ok.aft2 (P := fun (pt : List Int) => PotI (600 * k + 450) pt) (R := fun _ => False) ?h5 ?p5 (fun _ h => h.elim)
    case h5 =>
      refine Ok.mono (forL_ret (fun i pt => PotI (600 * k + 400 + 2 * i) pt) (fun _ => False) h2 ?_) ?_
      · intro q z pt hz hp
        obtain ⟨hq, rfl⟩ := rng_get hz
        have hq' : q < 12 := hq
        refine Ok.bind (take_ok hp (by omega) (by omega) (by omega)) ?_
        rintro ⟨at_, p2⟩ ⟨a0, a1, hp⟩
        dsimp only at a0 a1 hp ⊢
        refine Ok.bis (catO_ok (by rw [List.length_singleton]; omega)) ?_
        obtain ⟨mx, hmx, m0, m1⟩ := maxO_app0 (n := 60) (by decide) sb
        refine Ok.bis hmx ?_
        refine Ok.bind (take_ok hp (by omega) (by omega) (by omega)) ?_
        rintro ⟨one, p3⟩ ⟨_, _, hp⟩
        dsimp only at hp ⊢
        have c1 : (cut S none (some at_)).length ≤ 59 := by
          rw [cut_head _ a0, List.length_take]
          omega
        have c2 : (cut S (some (at_ + 1)) none).length ≤ 59 := by
          rw [cut_tail _ (by omega), List.length_drop]
          omega
        have c3 : (cut S (some at_) none).length ≤ 59 := by
          rw [cut_tail _ a0, List.length_drop]
          omega
        generalize cut S none (some at_) = s1 at c1 ⊢
        generalize cut S (some (at_ + 1)) none = s2 at c2 ⊢
        generalize cut S (some at_) none = s3 at c3 ⊢
        refine Ok.bis (catO_ok (by rw [List.length_singleton]; omega)) ?_
        refine Ok.bis (catO_ok (by rw [List.length_append, List.length_singleton]; omega)) ?_
        refine Ok.bis (catO_ok (by rw [List.length_singleton]; omega)) ?_
        refine Ok.bis (catO_ok (by rw [List.length_append, List.length_singleton]; omega)) ?_
        refine Ok.bis (catO_ok (by omega)) ?_
        refine Ok.bis (catO_ok (by simp only [List.length_cons, List.length_nil]; omega)) ?_
        refine Ok.aft2 (P := fun (_ : Unit) => True) (R := fun _ => False) ?h6 (fun _ _ => Ok.ret (Or.inl ⟨_, rfl, hp.mono (by omega)⟩)) (fun _ h => h.elim)
        refine Ok.mono (forL_ret (fun _ (_ : Unit) => True) (fun _ => False) trivial ?_) fun _ z => z
        intro _ v _ hv _
        have hvl : v.length ≤ 1000 := by
          have hv2 := List.mem_of_getElem? hv
          simp only [List.cons_append, List.nil_append, List.mem_cons, List.not_mem_nil, or_false] at hv2
          rcases hv2 with rfl | rfl | rfl
          · simp only [List.length_append, List.length_cons, List.length_nil]
            omega
          · simp only [List.length_append, List.length_cons, List.length_nil]
            omega
          · simp only [List.length_append]
            omega
        obtain ⟨b, e1, e2⟩ := both_ok hvl
        exact Ok.bis e1 (Ok.bis e2 (Ok.ff (by rw [eqs_self]; rfl) (Ok.ret (Or.inl ⟨_, rfl, trivial⟩))))
      · rintro _ (⟨s, rfl, h⟩ | ⟨y, rfl, h⟩)
        · rw [List.length_map, List.length_range] at h
          exact Or.inl ⟨s, rfl, h.mono (by omega)⟩
        · exact h.elim
    intro pt5 hp
    refine Ok.bind (P := fun m => 0 < m ∧ m ≤ 9) (Ok.is (ix_nat (by simp only [List.length_cons, List.length_nil]; omega)) ?_) fun wide hw => ?_
    · have : k = 0 ∨ k = 1 ∨ k = 2 := by omega
      rcases this with rfl | rfl | rfl <;> decide
    refine Ok.bind (take_ok hp (by omega) (by decide) (by decide)) ?_
    rintro ⟨many, p6⟩ ⟨y0, y1, hp⟩
    dsimp only at y0 y1 hp ⊢
    refine Ok.bis (rng_ok y0 (by omega)) ?_
    refine Ok.bind (lcM_ok (fun i pt => PotI (600 * k + 451 + i) pt) (fun _ => True) _ 0 p6 (hp.mono (by omega)) fun j x pt hx hj hp => ?_) ?_
    · rw [List.length_map, List.length_range] at hj
      refine Ok.bind (take_ok hp (by omega) (by omega) (by omega)) ?_
      rintro ⟨r, p7⟩ ⟨_, _, hp⟩
      exact Ok.ret ⟨trivial, hp⟩
    rintro ⟨value, p8⟩ ⟨e1, _, hp⟩
    rw [List.length_map, List.length_range] at e1 hp
    dsimp only at e1 hp ⊢
    obtain ⟨b, f1, f2⟩ := both_ok (l := value) (by omega)
    refine Ok.bis f1 (Ok.bis f2 (Ok.ff (eqs_refl_not2 rfl) ?_))
    refine Ok.aft2 (P := fun (pt : List Int) => PotI (600 * k + 521) pt) (R := fun _ => False) ?h7 (fun _ hp => Ok.ret (Or.inl ⟨_, rfl, hp.mono (by omega)⟩)) (fun _ h => h.elim)
    refine Ok.mono (forL_ret (fun i pt => PotI (600 * k + 512 + i) pt) (fun _ => False) (hp.mono (by omega)) ?_) ?_
    · intro q odd pt hodd hp
      have hq := (List.getElem?_eq_some_iff.mp hodd).1
      have hq9 : q < 9 := hq
      obtain ⟨⟨b, g1, g2⟩, g3⟩ := odds odd (List.mem_of_getElem? hodd)
      refine Ok.bind (take_ok hp (by omega) (by omega) (by omega)) ?_
      rintro ⟨at_, p9⟩ ⟨a0, a1, hp⟩
      dsimp only at a0 a1 hp ⊢
      have c1 : (cut S none (some at_)).length + (cut S (some at_) none).length ≤ 60 := by
        rw [cut_head _ a0, cut_tail _ a0, List.length_take, List.length_drop]
        omega
      generalize cut S none (some at_) = s1 at c1 ⊢
      generalize cut S (some at_) none = s3 at c1 ⊢
      refine Ok.bis (catO_ok (by rw [List.length_map, List.length_singleton]; omega)) ?_
      refine Ok.bis (catO_ok (by rw [List.length_append, List.length_map, List.length_map, List.length_singleton]; omega)) ?_
      refine Ok.bis (g3 s1 s3 c1) ?_
      have ht2 : m_is_times (PyData.tuple (S.map PyData.int)) = some false := is_times_bad rfl
      refine Ok.bis (a := false) (Ok.eq (Ok.ff rfl (Ok.bis ht2 (Ok.ret rfl)))) (Ok.ff rfl ?_)
      exact Ok.bis g1 (Ok.bis g2 (Ok.ff (eqs_refl_not2 rfl) (Ok.ret (Or.inl ⟨_, rfl, hp⟩))))
    · rintro _ (⟨s, rfl, h⟩ | ⟨y, rfl, h⟩)
      · exact Or.inl ⟨s, rfl, h⟩
      · exact h.elim
  · rintro _ (⟨s, rfl, h⟩ | ⟨y, rfl, h⟩)
    · exact Or.inl ⟨s, rfl, trivial⟩
    · exact h.elim

/-! ### the end -/
theorem all_mk {l : PySem.W.OpenLaw} {w : World} {K : PySem.W.Frag} {h : Heap} {mg : Str → Option Value} {fa : Addr} (X : K.In h) (GG : h.Ns mainGlobals mg) (hfa : mg "law" = some (.ref fa))
    {f1 : Addr} {od1 an1 : Option Addr} {sl1 : Array (Option Value)} {oc1 kV1 dc1 pm1 cd1 ct1 : Value}
    {f2 : Addr} {od2 an2 : Option Addr} {sl2 : Array (Option Value)} {oc2 kV2 dc2 pm2 cd2 ct2 : Value}
    {f3 : Addr} {od3 an3 : Option Addr} {sl3 : Array (Option Value)} {oc3 kV3 dc3 pm3 cd3 ct3 : Value}
    {f4 : Addr} {od4 an4 : Option Addr} {sl4 : Array (Option Value)} {oc4 kV4 dc4 pm4 cd4 ct4 : Value}
    {f5 : Addr} {od5 an5 : Option Addr} {sl5 : Array (Option Value)} {oc5 kV5 dc5 pm5 cd5 ct5 : Value}
    {f6 : Addr} {od6 an6 : Option Addr} {sl6 : Array (Option Value)} {oc6 kV6 dc6 pm6 cd6 ct6 : Value}
    {f7 : Addr} {od7 an7 : Option Addr} {sl7 : Array (Option Value)} {oc7 kV7 dc7 pm7 cd7 ct7 : Value}
    {f8 : Addr} {od8 an8 : Option Addr} {sl8 : Array (Option Value)} {oc8 kV8 dc8 pm8 cd8 ct8 : Value}
    {f9 : Addr} {od9 an9 : Option Addr} {sl9 : Array (Option Value)} {oc9 kV9 dc9 pm9 cd9 ct9 : Value}
    {f10 : Addr} {od10 an10 : Option Addr} {sl10 : Array (Option Value)} {oc10 kV10 dc10 pm10 cd10 ct10 : Value}
    {f11 : Addr} {od11 an11 : Option Addr} {sl11 : Array (Option Value)} {oc11 kV11 dc11 pm11 cd11 ct11 : Value}
    {f12 : Addr} {od12 an12 : Option Addr} {sl12 : Array (Option Value)} {oc12 kV12 dc12 pm12 cd12 ct12 : Value}
    {f13 : Addr} {od13 an13 : Option Addr} {sl13 : Array (Option Value)} {oc13 kV13 dc13 pm13 cd13 ct13 : Value}
    (a1 : PySem.W.nsIn K mainGlobals "is_an_integer" = some (some (.ref f1))) (l1 : K.lookup f1 = some ⟨oc1, od1, .func (PySem.W.fnOf "is_an_integer" "is_an_integer" (defArgs s_is_an_integer) (defBody s_is_an_integer) (defScope s_is_an_integer) .none kV1 dc1 pm1 an1 cd1 ct1), sl1⟩) (c1 : PySem.W.codeIn K cd1 "is_an_integer" = true) (k1 : PySem.W.keepIn K (.ref f1) = true)
    (a2 : PySem.W.nsIn K mainGlobals "is_row" = some (some (.ref f2))) (l2 : K.lookup f2 = some ⟨oc2, od2, .func (PySem.W.fnOf "is_row" "is_row" (defArgs s_is_row) (defBody s_is_row) (defScope s_is_row) .none kV2 dc2 pm2 an2 cd2 ct2), sl2⟩) (c2 : PySem.W.codeIn K cd2 "is_row" = true) (k2 : PySem.W.keepIn K (.ref f2) = true)
    (a3 : PySem.W.nsIn K mainGlobals "rounds_of" = some (some (.ref f3))) (l3 : K.lookup f3 = some ⟨oc3, od3, .func (PySem.W.fnOf "rounds_of" "rounds_of" (defArgs s_rounds_of) (defBody s_rounds_of) (defScope s_rounds_of) .none kV3 dc3 pm3 an3 cd3 ct3), sl3⟩) (c3 : PySem.W.codeIn K cd3 "rounds_of" = true) (k3 : PySem.W.keepIn K (.ref f3) = true)
    (a4 : PySem.W.nsIn K mainGlobals "is_times" = some (some (.ref f4))) (l4 : K.lookup f4 = some ⟨oc4, od4, .func (PySem.W.fnOf "is_times" "is_times" (defArgs s_is_times) (defBody s_is_times) (defScope s_is_times) .none kV4 dc4 pm4 an4 cd4 ct4), sl4⟩) (c4 : PySem.W.codeIn K cd4 "is_times" = true) (k4 : PySem.W.keepIn K (.ref f4) = true)
    (a5 : PySem.W.nsIn K mainGlobals "_law_pot" = some (some (.ref f5))) (l5 : K.lookup f5 = some ⟨oc5, od5, .func (PySem.W.fnOf "_law_pot" "_law_pot" (defArgs s_law_pot) (defBody s_law_pot) (defScope s_law_pot) .none kV5 dc5 pm5 an5 cd5 ct5), sl5⟩) (c5 : PySem.W.codeIn K cd5 "_law_pot" = true) (k5 : PySem.W.keepIn K (.ref f5) = true)
    (a6 : PySem.W.nsIn K mainGlobals "_law_take" = some (some (.ref f6))) (l6 : K.lookup f6 = some ⟨oc6, od6, .func (PySem.W.fnOf "_law_take" "_law_take" (defArgs s_law_take) (defBody s_law_take) (defScope s_law_take) .none kV6 dc6 pm6 an6 cd6 ct6), sl6⟩) (c6 : PySem.W.codeIn K cd6 "_law_take" = true) (k6 : PySem.W.keepIn K (.ref f6) = true)
    (a7 : PySem.W.nsIn K mainGlobals "_law_row" = some (some (.ref f7))) (l7 : K.lookup f7 = some ⟨oc7, od7, .func (PySem.W.fnOf "_law_row" "_law_row" (defArgs s_law_row) (defBody s_law_row) (defScope s_law_row) .none kV7 dc7 pm7 an7 cd7 ct7), sl7⟩) (c7 : PySem.W.codeIn K cd7 "_law_row" = true) (k7 : PySem.W.keepIn K (.ref f7) = true)
    (a8 : PySem.W.nsIn K mainGlobals "_law_times" = some (some (.ref f8))) (l8 : K.lookup f8 = some ⟨oc8, od8, .func (PySem.W.fnOf "_law_times" "_law_times" (defArgs s_law_times) (defBody s_law_times) (defScope s_law_times) .none kV8 dc8 pm8 an8 cd8 ct8), sl8⟩) (c8 : PySem.W.codeIn K cd8 "_law_times" = true) (k8 : PySem.W.keepIn K (.ref f8) = true)
    (a9 : PySem.W.nsIn K mainGlobals "_law_is_times" = some (some (.ref f9))) (l9 : K.lookup f9 = some ⟨oc9, od9, .func (PySem.W.fnOf "_law_is_times" "_law_is_times" (defArgs s_law_is_times) (defBody s_law_is_times) (defScope s_law_is_times) .none kV9 dc9 pm9 an9 cd9 ct9), sl9⟩) (c9 : PySem.W.codeIn K cd9 "_law_is_times" = true) (k9 : PySem.W.keepIn K (.ref f9) = true)
    (a10 : PySem.W.nsIn K mainGlobals "_law_tall" = some (some (.ref f10))) (l10 : K.lookup f10 = some ⟨oc10, od10, .func (PySem.W.fnOf "_law_tall" "_law_tall" (defArgs s_law_tall) (defBody s_law_tall) (defScope s_law_tall) .none kV10 dc10 pm10 an10 cd10 ct10), sl10⟩) (c10 : PySem.W.codeIn K cd10 "_law_tall" = true) (k10 : PySem.W.keepIn K (.ref f10) = true)
    (a11 : PySem.W.nsIn K mainGlobals "_law_lists" = some (some (.ref f11))) (l11 : K.lookup f11 = some ⟨oc11, od11, .func (PySem.W.fnOf "_law_lists" "_law_lists" (defArgs s_law_lists) (defBody s_law_lists) (defScope s_law_lists) .none kV11 dc11 pm11 an11 cd11 ct11), sl11⟩) (c11 : PySem.W.codeIn K cd11 "_law_lists" = true) (k11 : PySem.W.keepIn K (.ref f11) = true)
    (a12 : PySem.W.nsIn K mainGlobals "_law_small_right" = some (some (.ref f12))) (l12 : K.lookup f12 = some ⟨oc12, od12, .func (PySem.W.fnOf "_law_small_right" "_law_small_right" (defArgs s_law_small_right) (defBody s_law_small_right) (defScope s_law_small_right) .none kV12 dc12 pm12 an12 cd12 ct12), sl12⟩) (c12 : PySem.W.codeIn K cd12 "_law_small_right" = true) (k12 : PySem.W.keepIn K (.ref f12) = true)
    (a13 : PySem.W.nsIn K mainGlobals "law" = some (some (.ref f13))) (l13 : K.lookup f13 = some ⟨oc13, od13, .func (PySem.W.fnOf "law" "law" (defArgs s_law) (defBody s_law) (defScope s_law) .none kV13 dc13 pm13 an13 cd13 ct13), sl13⟩) (c13 : PySem.W.codeIn K cd13 "law" = true) (k13 : PySem.W.keepIn K (.ref f13) = true)
    (z1 : PySem.W.nsIn K mainGlobals "all" = some none)
    (z2 : PySem.W.nsIn K mainGlobals "bool" = some none)
    (z3 : PySem.W.nsIn K mainGlobals "enumerate" = some none)
    (z4 : PySem.W.nsIn K mainGlobals "int" = some none)
    (z5 : PySem.W.nsIn K mainGlobals "isinstance" = some none)
    (z6 : PySem.W.nsIn K mainGlobals "len" = some none)
    (z7 : PySem.W.nsIn K mainGlobals "list" = some none)
    (z8 : PySem.W.nsIn K mainGlobals "max" = some none)
    (z9 : PySem.W.nsIn K mainGlobals "min" = some none)
    (z10 : PySem.W.nsIn K mainGlobals "range" = some none)
    (z11 : PySem.W.nsIn K mainGlobals "repr" = some none)
    (z12 : PySem.W.nsIn K mainGlobals "tuple" = some none) :
    ∃ fd : FuncData, (∀ (s : Shared) (v : Value), BindsTo s fd ⟨[v], []⟩ [("script", v)]) ∧ ∀ base : Heap, K.In base → base.Ns mainGlobals mg → FnG l.prog w K mg base CX0 5 fa fd ["script"] ((spV (fun (w : Scr × Unit) => m_law w.1)) K) := by
  have e := hfa.symm.trans (PySem.W.mg_of X GG a13)
  cases e
  refine ⟨PySem.W.fnOf "law" "law" (defArgs s_law) (defBody s_law) (defScope s_law) .none kV13 dc13 pm13 an13 cd13 ct13, fun s v => .of_eq rfl, fun base _ _ => ?_⟩
  have z_all : mg "all" = none := PySem.W.mg_none_of X GG z1
  have z_bool : mg "bool" = none := PySem.W.mg_none_of X GG z2
  have z_enumerate : mg "enumerate" = none := PySem.W.mg_none_of X GG z3
  have z_int : mg "int" = none := PySem.W.mg_none_of X GG z4
  have z_isinstance : mg "isinstance" = none := PySem.W.mg_none_of X GG z5
  have z_len : mg "len" = none := PySem.W.mg_none_of X GG z6
  have z_list : mg "list" = none := PySem.W.mg_none_of X GG z7
  have z_max : mg "max" = none := PySem.W.mg_none_of X GG z8
  have z_min : mg "min" = none := PySem.W.mg_none_of X GG z9
  have z_range : mg "range" = none := PySem.W.mg_none_of X GG z10
  have z_repr : mg "repr" = none := PySem.W.mg_none_of X GG z11
  have z_tuple : mg "tuple" = none := PySem.W.mg_none_of X GG z12
  have F1 := fun_mk (st := s_is_an_integer) l1 c1 k1
  have c_is_an_integer : Cal l.prog w K mg base "is_an_integer" 1 ["value"] ((spV (fun (w : PyData × Unit) => m_is_an_integer w.1)) K) := ⟨f1, _, ok_is_an_integer F1  z_isinstance z_int z_bool, PySem.W.mg_of X GG a1, k1, F1.binds (ps := ["value"]) fun _ _ _ _ _ _ us hl => match us, hl with | [_], _ => rfl⟩
  have F2 := fun_mk (st := s_is_row) l2 c2 k2
  have c_is_row : Cal l.prog w K mg base "is_row" 2 ["value"] ((spV (fun (w : PyData × Unit) => m_is_row w.1)) K) := ⟨f2, _, ok_is_row F2 c_is_an_integer z_isinstance z_list z_all, PySem.W.mg_of X GG a2, k2, F2.binds (ps := ["value"]) fun _ _ _ _ _ _ us hl => match us, hl with | [_], _ => rfl⟩
  have F3 := fun_mk (st := s_rounds_of) l3 c3 k3
  have c_rounds_of : Cal l.prog w K mg base "rounds_of" 1 ["row"] ((spN (fun (w : (List Int) × Unit) => m_rounds_of w.1)) K) := ⟨f3, _, ok_rounds_of F3  z_min z_len z_enumerate z_max, PySem.W.mg_of X GG a3, k3, F3.binds (ps := ["row"]) fun _ _ _ _ _ _ us hl => match us, hl with | [_], _ => rfl⟩
  have F4 := fun_mk (st := s_is_times) l4 c4 k4
  have c_is_times : Cal l.prog w K mg base "is_times" 3 ["value"] ((spV (fun (w : PyData × Unit) => m_is_times w.1)) K) := ⟨f4, _, ok_is_times F4 c_is_row c_rounds_of , PySem.W.mg_of X GG a4, k4, F4.binds (ps := ["value"]) fun _ _ _ _ _ _ us hl => match us, hl with | [_], _ => rfl⟩
  have F5 := fun_mk (st := s_law_pot) l5 c5 k5
  have c_law_pot : Cal l.prog w K mg base "_law_pot" 1 ["script", "k"] ((spN (fun (w : Scr × Int × Unit) => m_law_pot w.1 w.2.1)) K) := ⟨f5, _, ok_law_pot F5  z_len z_max, PySem.W.mg_of X GG a5, k5, F5.binds (ps := ["script", "k"]) fun _ _ _ _ _ _ us hl => match us, hl with | [_, _], _ => rfl⟩
  have F6 := fun_mk (st := s_law_take) l6 c6 k6
  have c_law_take : Cal l.prog w K mg base "_law_take" 1 ["pot", "many"] ((spM (fun (pt : (List Int)) (w : Int × Unit) => m_law_take pt w.1)) K) := ⟨f6, _, ok_law_take F6  , PySem.W.mg_of X GG a6, k6, F6.binds (ps := ["pot", "many"]) fun _ _ _ _ _ _ us hl => match us, hl with | [_, _], _ => rfl⟩
  have F7 := fun_mk (st := s_law_row) l7 c7 k7
  have c_law_row : Cal l.prog w K mg base "_law_row" 2 ["pot", "most"] ((spMN (fun (pt : (List Int)) (w : Int × Unit) => m_law_row pt w.1)) K) := ⟨f7, _, ok_law_row F7 c_law_take z_int z_range, PySem.W.mg_of X GG a7, k7, F7.binds (ps := ["pot", "most"]) fun _ _ _ _ _ _ us hl => match us, hl with | [_, _], _ => rfl⟩
  have F8 := fun_mk (st := s_law_times) l8 c8 k8
  have c_law_times : Cal l.prog w K mg base "_law_times" 1 ["row"] ((spN (fun (w : (List Int) × Unit) => m_law_times w.1)) K) := ⟨f8, _, ok_law_times F8  z_len z_list z_range z_enumerate z_max, PySem.W.mg_of X GG a8, k8, F8.binds (ps := ["row"]) fun _ _ _ _ _ _ us hl => match us, hl with | [_], _ => rfl⟩
  have F9 := fun_mk (st := s_law_is_times) l9 c9 k9
  have c_law_is_times : Cal l.prog w K mg base "_law_is_times" 1 ["value"] ((spV (fun (w : (List Int) × Unit) => m_law_is_times w.1)) K) := ⟨f9, _, ok_law_is_times F9  z_enumerate z_len, PySem.W.mg_of X GG a9, k9, F9.binds (ps := ["value"]) fun _ _ _ _ _ _ us hl => match us, hl with | [_], _ => rfl⟩
  have F10 := fun_mk (st := s_law_tall) l10 c10 k10
  have c_law_tall : Cal l.prog w K mg base "_law_tall" 3 ["pot", "most"] ((spMN (fun (pt : (List Int)) (w : Int × Unit) => m_law_tall pt w.1)) K) := ⟨f10, _, ok_law_tall F10 c_law_row c_law_take c_law_times z_range z_len z_max, PySem.W.mg_of X GG a10, k10, F10.binds (ps := ["pot", "most"]) fun _ _ _ _ _ _ us hl => match us, hl with | [_, _], _ => rfl⟩
  have F11 := fun_mk (st := s_law_lists) l11 c11 k11
  have c_law_lists : Cal l.prog w K mg base "_law_lists" 1 ["size", "low", "high"] ((spN (fun (w : Int × Int × Int × Unit) => m_law_lists w.1 w.2.1 w.2.2.1)) K) := ⟨f11, _, ok_law_lists F11  z_range, PySem.W.mg_of X GG a11, k11, F11.binds (ps := ["size", "low", "high"]) fun _ _ _ _ _ _ us hl => match us, hl with | [_, _, _], _ => rfl⟩
  have F12 := fun_mk (st := s_law_small_right) l12 c12 k12
  have c_law_small_right : Cal l.prog w K mg base "_law_small_right" 4 ["size"] ((spV (fun (w : Int × Unit) => m_law_small_right w.1)) K) := ⟨f12, _, ok_law_small_right F12 c_law_lists c_law_times c_is_times z_min z_tuple, PySem.W.mg_of X GG a12, k12, F12.binds (ps := ["size"]) fun _ _ _ _ _ _ us hl => match us, hl with | [_], _ => rfl⟩
  have F13 := fun_mk (st := s_law) l13 c13 k13
  exact ok_law F13 c_law_small_right c_law_lists c_is_times c_law_is_times c_law_pot c_law_tall c_law_take z_range z_max z_min z_len z_repr z_tuple

end Cl
open PySem PySem.W PyProof.Rows
set_option maxHeartbeats 0 in
theorem PySem.Challenge.cw_peakpeel_k05_times_judged_holds : PySem.Challenge.rw_peakpeel_k05_times_judged.Holds := by
  w_on; o_law; k_head; (case hw => w_witness2)
  k_fill
  refine PX.walkG (l := PySem.Challenge.rw_peakpeel_k05_times_judged) (n := 63) (k := 5) (x := "script") (CX := fun _ => L2.CX0) (sp := fun w => (PX.spV (fun (w : PX.Scr × Unit) => Cl.m_law w.1)) _) rfl (by decide) rfl ⟨rfl, by decide, by decide⟩ (fun w h Y => PySem.W.kIn_of Y) ?F
    (fun _ H a ns hl hb _ hS => ⟨H, (⟨ns⟩, ()), true, PX.Ex.refl H, ⟨.ref a, [], rfl, ⟨a, rfl, hS⟩, rfl⟩, Cl.law_true ns hl hb, fun v H2 G2 _ r => r⟩) (fun _ _ _ _ _ h => h)
  case F =>
    intro w mg fa h KX GG hmg
    refine' Cl.all_mk KX GG hmg ?a1 ?l1 ?c1 ?k1 ?a2 ?l2 ?c2 ?k2 ?a3 ?l3 ?c3 ?k3 ?a4 ?l4 ?c4 ?k4 ?a5 ?l5 ?c5 ?k5 ?a6 ?l6 ?c6 ?k6 ?a7 ?l7 ?c7 ?k7 ?a8 ?l8 ?c8 ?k8 ?a9 ?l9 ?c9 ?k9 ?a10 ?l10 ?c10 ?k10 ?a11 ?l11 ?c11 ?k11 ?a12 ?l12 ?c12 ?k12 ?a13 ?l13 ?c13 ?k13 ?z1 ?z2 ?z3 ?z4 ?z5 ?z6 ?z7 ?z8 ?z9 ?z10 ?z11 ?z12
    (case a1 => k_is); (case l1 => k_is); (case c1 => k_is); (case k1 => k_is)
    (case a2 => k_is); (case l2 => k_is); (case c2 => k_is); (case k2 => k_is)
    (case a3 => k_is); (case l3 => k_is); (case c3 => k_is); (case k3 => k_is)
    (case a4 => k_is); (case l4 => k_is); (case c4 => k_is); (case k4 => k_is)
    (case a5 => k_is); (case l5 => k_is); (case c5 => k_is); (case k5 => k_is)
    (case a6 => k_is); (case l6 => k_is); (case c6 => k_is); (case k6 => k_is)
    (case a7 => k_is); (case l7 => k_is); (case c7 => k_is); (case k7 => k_is)
    (case a8 => k_is); (case l8 => k_is); (case c8 => k_is); (case k8 => k_is)
    (case a9 => k_is); (case l9 => k_is); (case c9 => k_is); (case k9 => k_is)
    (case a10 => k_is); (case l10 => k_is); (case c10 => k_is); (case k10 => k_is)
    (case a11 => k_is); (case l11 => k_is); (case c11 => k_is); (case k11 => k_is)
    (case a12 => k_is); (case l12 => k_is); (case c12 => k_is); (case k12 => k_is)
    (case a13 => k_is); (case l13 => k_is); (case c13 => k_is); (case k13 => k_is)
    (case z1 => k_is); (case z2 => k_is); (case z3 => k_is); (case z4 => k_is)
    (case z5 => k_is); (case z6 => k_is); (case z7 => k_is); (case z8 => k_is)
    (case z9 => k_is); (case z10 => k_is); (case z11 => k_is); (case z12 => k_is)
