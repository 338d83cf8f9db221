import PyProof.Rows.All
import HandS.ForMost
import HandS.TupAny
import HandS.TupMul
import HandS.SortKw
import HandS.More
import HandS.Conv
import HandS.IsInst
import HandS.DictComp
import HandS.Flow
import HandS.SortInts
import HandS.Strs
import PySem.Challenge.RW_writeorders_k07_changes_put_on
set_option Elab.async false
set_option linter.all false
set_option maxRecDepth 100000
set_option autoImplicit false
namespace Dl
open PySem PySem.Spec PyProof.Rows L2

/-! data, and what a name holds -/
abbrev D := PyData
inductive MC where
  | lst (ds : List D) | dK (kvs : List (Key × D)) | dT (kvs : List (List Key × D))
inductive SV where
  | no | d (x : D) | loc (i : Nat) | own (m : MC)
abbrev DS := List SV

theorem sameT {K : PySem.W.Frag} {H H' : Hp} {a : Addr} {xs : List V} (e : Same H H') (h : SqT K H a xs) : SqT K H' a xs := by
  rcases h with (h | ⟨o, h⟩) | h
  · exact .inl (.inl (e _ _ h))
  · exact .inl (.inr ⟨o, e _ _ h⟩)
  · exact .inr h
mutual
theorem dpMono {K : PySem.W.Frag} {H H' : Hp} (e : Same H H') : ∀ {v : V} {x : D}, Dp K H v x → Dp K H' v x
  | _, _, .non => .non
  | _, _, .bl b => .bl b
  | _, _, .int i => .int i
  | _, _, .str x => .str x
  | _, _, .lst hs ha => .lst (e.seq hs) (dpAllMono e ha)
  | _, _, .tup hs ha => .tup (sameT e hs) (dpAllMono e ha)
theorem dpAllMono {K : PySem.W.Frag} {H H' : Hp} (e : Same H H') : ∀ {vs : List V} {xs : List D}, DpAll K H vs xs → DpAll K H' vs xs
  | _, _, .nil => .nil
  | _, _, .cons h t => .cons (dpMono e h) (dpAllMono e t)
end
theorem dpAllLen {K : PySem.W.Frag} {H : Hp} : ∀ {vs : List V} {xs : List D}, DpAll K H vs xs → vs.length = xs.length
  | _, _, .nil => rfl
  | _, _, .cons _ t => by rw [List.length_cons, List.length_cons, dpAllLen t]
theorem dpAllGet {K : PySem.W.Frag} {H : Hp} : ∀ {vs : List V} {xs : List D} {i : Nat} {x : D}, DpAll K H vs xs → xs[i]? = some x → ∃ v, vs[i]? = some v ∧ Dp K H v x
  | _, _, _, _, .nil, e => by simp at e
  | _, _, 0, _, .cons h _, e => by
    simp at e
    subst e
    exact ⟨_, rfl, h⟩
  | _, _, i + 1, _, .cons _ t, e => by
    obtain ⟨v, h1, h2⟩ := dpAllGet (i := i) t (by simpa using e)
    exact ⟨v, by simpa using h1, h2⟩
theorem dpAllGetV {K : PySem.W.Frag} {H : Hp} : ∀ {vs : List V} {xs : List D} {i : Nat} {v : V}, DpAll K H vs xs → vs[i]? = some v → ∃ x, xs[i]? = some x ∧ Dp K H v x
  | _, _, _, _, .nil, e => by simp at e
  | _, _, 0, _, .cons h _, e => by
    simp at e
    subst e
    exact ⟨_, rfl, h⟩
  | _, _, i + 1, _, .cons _ t, e => by
    obtain ⟨v, h1, h2⟩ := dpAllGetV (i := i) t (by simpa using e)
    exact ⟨v, by simpa using h1, h2⟩
theorem dpAllApp {K : PySem.W.Frag} {H : Hp} : ∀ {vs ws : List V} {xs ys : List D}, DpAll K H vs xs → DpAll K H ws ys → DpAll K H (vs ++ ws) (xs ++ ys)
  | _, _, _, _, .nil, h => h
  | _, _, _, _, .cons h t, h2 => .cons h (dpAllApp t h2)
theorem dpAllTake {K : PySem.W.Frag} {H : Hp} : ∀ {vs : List V} {xs : List D} (n : Nat), DpAll K H vs xs → DpAll K H (vs.take n) (xs.take n)
  | _, _, 0, _ => .nil
  | _, _, _ + 1, .nil => .nil
  | _, _, n + 1, .cons h t => .cons h (dpAllTake n t)
theorem dpAllDrop {K : PySem.W.Frag} {H : Hp} : ∀ {vs : List V} {xs : List D} (n : Nat), DpAll K H vs xs → DpAll K H (vs.drop n) (xs.drop n)
  | _, _, 0, h => h
  | _, _, _ + 1, .nil => .nil
  | _, _, n + 1, .cons _ t => dpAllDrop n t
theorem dpAllSet {K : PySem.W.Frag} {H : Hp} {v : V} {x : D} (h : Dp K H v x) : ∀ {vs : List V} {xs : List D} (n : Nat), DpAll K H vs xs → DpAll K H (vs.set n v) (xs.set n x)
  | _, _, _, .nil => .nil
  | _, _, 0, .cons _ t => .cons h t
  | _, _, n + 1, .cons q t => .cons q (dpAllSet h n t)
theorem dpAllDropLast {K : PySem.W.Frag} {H : Hp} {vs : List V} {xs : List D} (h : DpAll K H vs xs) : DpAll K H vs.dropLast xs.dropLast := by
  rw [List.dropLast_eq_take, List.dropLast_eq_take, dpAllLen h]
  exact dpAllTake _ h
theorem dpAllInts {K : PySem.W.Frag} {H : Hp} : ∀ {ns : List Int} {vs : List V}, DpAll K H vs (ns.map PyData.int) → vs = ns.map V.int
  | [], _, .nil => rfl
  | n :: r, _, .cons h t => by
    cases h
    rw [dpAllInts t]
    rfl
theorem dpAllOfInts {K : PySem.W.Frag} {H : Hp} : ∀ ns : List Int, DpAll K H (ns.map V.int) (ns.map PyData.int)
  | [] => .nil
  | n :: r => .cons (.int n) (dpAllOfInts r)
theorem dpAllBls {K : PySem.W.Frag} {H : Hp} : ∀ {ns : List Bool} {vs : List V}, DpAll K H vs (ns.map PyData.bool) → vs = ns.map V.bl
  | [], _, .nil => rfl
  | n :: r, _, .cons h t => by
    cases h
    rw [dpAllBls t]
    rfl

/-- a held thing at an address -/
def CRp (K : PySem.W.Frag) (Hd : Hp) : MC → HO → Prop
  | .lst ds, o => ∃ vs, o = .lst vs ∧ DpAll K Hd vs ds
  | .dK kvs, o => ∃ ws, o = .dK ws ∧ Paired (fun (p : Key × D) (q : Key × V) => p.1 = q.1 ∧ Dp K Hd q.2 p.2) kvs ws
  | .dT kvs, o => ∃ ws, o = .dT ws ∧ Paired (fun (p : List Key × D) (q : List Key × V) => p.1 = q.1 ∧ Dp K Hd q.2 p.2) kvs ws
theorem CRp.mono {K : PySem.W.Frag} {H H' : Hp} (e : Same H H') : ∀ {m : MC} {o : HO}, CRp K H m o → CRp K H' m o
  | .lst _, _, ⟨vs, h, t⟩ => ⟨vs, h, dpAllMono e t⟩
  | .dK _, _, ⟨vs, h, t⟩ => ⟨vs, h, Paired.mapP t fun _ _ q => ⟨q.1, dpMono e q.2⟩⟩
  | .dT _, _, ⟨vs, h, t⟩ => ⟨vs, h, Paired.mapP t fun _ _ q => ⟨q.1, dpMono e q.2⟩⟩

structure Fr where
  Hf : Hp
  al : Nat → Addr
  Fz : Addr → Prop
structure Wd (K : PySem.W.Frag) (F : Fr) (P : List Nat) (R : DS) (σ : L2.St) (Hd H : Hp) : Prop where
  dat : Same Hd H
  frm : Same F.Hf H
  len : R.length = σ.length
  val : ∀ (i : Nat) (x : D), R[i]? = some (SV.d x) → ∃ v, σ[i]? = some (some v) ∧ Dp K Hd v x
  own : ∀ (i : Nat) (m : MC), R[i]? = some (SV.own m) → ∃ a o, σ[i]? = some (some (V.ref a)) ∧ H a = some o ∧ CRp K Hd m o ∧ Hd a = none ∧ F.Hf a = none
  apart : ∀ (i j : Nat) (m n : MC) (a : Addr), R[i]? = some (SV.own m) → R[j]? = some (SV.own n) → σ[i]? = some (some (V.ref a)) → σ[j]? = some (some (V.ref a)) → i = j
  pin : ∀ (i : Nat), i ∈ P → ∃ m, R[i]? = some (SV.own m) ∧ σ[i]? = some (some (V.ref (F.al i)))
  prot : ∀ a, F.Fz a → Hd a = none ∧ F.Hf a ≠ none
def Rp (K : PySem.W.Frag) (F : Fr) (R : DS) (σ : L2.St) (Hd H : Hp) : SV → V → Prop
  | .no, _ => False
  | .d x, v => Dp K Hd v x
  | .loc i, v => σ[i]? = some (some v) ∧ ∃ m, R[i]? = some (SV.own m)
  | .own m, v => ∃ a o, v = .ref a ∧ H a = some o ∧ CRp K Hd m o ∧ Hd a = none ∧ F.Hf a = none ∧ ∀ (i : Nat) (n : MC), R[i]? = some (SV.own n) → σ[i]? ≠ some (some (V.ref a))
def Post (K : PySem.W.Frag) (F : Fr) (P : List Nat) (σ : L2.St) (Hd : Hp) (Q : SV → DS → Prop) : VK := fun v H' =>
  ∃ Hd' R' sv, Same Hd Hd' ∧ Wd K F P R' σ Hd' H' ∧ Rp K F R' σ Hd' H' sv v ∧ Q sv R'

/-! the widest readings -/
def TEm (X : Cx) (e : Expr) : TE := fun σ H Q => ∀ pins s, Inv X pins σ H s → wpAny (model X.prog X.w) X.A (eval e X.env) (EP X pins σ Q) X.xe s
theorem pe_m {X : Cx} {e : Expr} : PE X e (TEm X e) := ⟨fun pins s _ _ _ I h => h pins s I⟩
theorem TEm.mono {X : Cx} {e : Expr} {σ : L2.St} {H : Hp} {Q Q' : VK} (h : TEm X e σ H Q) (k : ∀ v H', Q v H' → Q' v H') : TEm X e σ H Q' := fun pins s I =>
  thn (h pins s I) fun _ _ ⟨v, H', J, r, q⟩ => ⟨v, H', J, r, k v H' q⟩
theorem TEm.of {X : Cx} {e : Expr} {t : TE} {σ : L2.St} {H : Hp} {Q : VK} (p : PE X e t) (h : t σ H Q) : TEm X e σ H Q := fun pins s I => p.run pins s σ H Q I h
def TTm (X : Cx) (e : Expr) : TT := fun σ H Q => ∀ pins s, Inv X pins σ H s → wpAny (model X.prog X.w) X.A (isTrue e X.env (eval e X.env)) (TP X pins σ Q) X.xe s
theorem pt_m {X : Cx} {e : Expr} : PT X e (TTm X e) := ⟨fun pins s _ _ _ I h => h pins s I⟩
theorem TTm.mono {X : Cx} {e : Expr} {σ : L2.St} {H : Hp} {Q Q' : Bool → Hp → Prop} (h : TTm X e σ H Q) (k : ∀ v H', Q v H' → Q' v H') : TTm X e σ H Q' := fun pins s I =>
  thn (h pins s I) fun _ _ ⟨H', J, q⟩ => ⟨H', J, k _ H' q⟩
theorem TTm.of {X : Cx} {e : Expr} {t : TT} {σ : L2.St} {H : Hp} {Q : Bool → Hp → Prop} (p : PT X e t) (h : t σ H Q) : TTm X e σ H Q := fun pins s I => p.run pins s σ H Q I h
def TWm (X : Cx) (e : Expr) : TT := fun σ H Q => ∀ (whole : Sem Value) pins s, Inv X pins σ H s → wpAny (model X.prog X.w) X.A (isTrue e X.env whole) (TP X pins σ Q) X.xe s
theorem pw_m {X : Cx} {e : Expr} : PW X e (TWm X e) := ⟨fun whole pins s _ _ _ I h => h whole pins s I⟩
theorem TWm.mono {X : Cx} {e : Expr} {σ : L2.St} {H : Hp} {Q Q' : Bool → Hp → Prop} (h : TWm X e σ H Q) (k : ∀ v H', Q v H' → Q' v H') : TWm X e σ H Q' := fun whole pins s I =>
  thn (h whole pins s I) fun _ _ ⟨H', J, q⟩ => ⟨H', J, k _ H' q⟩
theorem TWm.of {X : Cx} {e : Expr} {t : TT} {σ : L2.St} {H : Hp} {Q : Bool → Hp → Prop} (p : PW X e t) (h : t σ H Q) : TWm X e σ H Q := fun whole pins s I => p.run whole pins s σ H Q I h
def TAm (X : Cx) (es : List Expr) : TA := fun σ H Q => ∀ (pos : Pos) pins s, Inv X pins σ H s → wpAny (model X.prog X.w) X.A (spliced (backTo pos (starEach es X.env))) (AP X pins σ Q) X.xe s
theorem pa_m {X : Cx} {es : List Expr} : PA X es (TAm X es) := ⟨fun pos pins s _ _ _ I h => h pos pins s I⟩
theorem TAm.mono {X : Cx} {es : List Expr} {σ : L2.St} {H : Hp} {Q Q' : List V → Hp → Prop} (h : TAm X es σ H Q) (k : ∀ v H', Q v H' → Q' v H') : TAm X es σ H Q' := fun pos pins s I =>
  thn (h pos pins s I) fun _ _ ⟨v, H', J, r, q⟩ => ⟨v, H', J, r, k v H' q⟩
theorem TAm.of {X : Cx} {es : List Expr} {t : TA} {σ : L2.St} {H : Hp} {Q : List V → Hp → Prop} (p : PA X es t) (h : t σ H Q) : TAm X es σ H Q := fun pos pins s I => p.run pos pins s σ H Q I h
def Le (D D' : Ends) : Prop := (∀ σ H, D.nx σ H → D'.nx σ H) ∧ (∀ v H, D.rt v H → D'.rt v H) ∧ (∀ σ H, D.bk σ H → D'.bk σ H) ∧ (∀ σ H, D.ct σ H → D'.ct σ H)
theorem SP.mono {X : Cx} {pins : List (Addr × Obj)} {D D' : Ends} {f : Flow} {s : Shared} (l : Le D D') (h : SP X pins D f s) : SP X pins D' f s := by
  cases f with
  | next => obtain ⟨σ, H, I, q⟩ := h; exact ⟨σ, H, I, l.1 _ _ q⟩
  | brk => obtain ⟨σ, H, I, q⟩ := h; exact ⟨σ, H, I, l.2.2.1 _ _ q⟩
  | cont => obtain ⟨σ, H, I, q⟩ := h; exact ⟨σ, H, I, l.2.2.2 _ _ q⟩
  | ret v => obtain ⟨x, σ, H, I, r, q⟩ := h; exact ⟨x, σ, H, I, r, l.2.1 _ _ q⟩
def TSm (X : Cx) (st : Stmt) : TS := fun D σ H => ∀ pins s, Inv X pins σ H s → wpAny (model X.prog X.w) X.A (exec st X.env) (SP X pins D) X.xe s
theorem ps_m {X : Cx} {st : Stmt} : PS X st (TSm X st) := ⟨fun pins s _ _ _ I h => h pins s I⟩
theorem TSm.mono {X : Cx} {st : Stmt} {σ : L2.St} {H : Hp} {D D' : Ends} (h : TSm X st D σ H) (l : Le D D') : TSm X st D' σ H := fun pins s I => thn (h pins s I) fun _ _ q => SP.mono l q
theorem TSm.of {X : Cx} {st : Stmt} {t : TS} {σ : L2.St} {H : Hp} {D : Ends} (p : PS X st t) (h : t D σ H) : TSm X st D σ H := fun pins s I => p.run pins s σ H D I h
def TSsm (X : Cx) (st : List Stmt) : TS := fun D σ H => ∀ pins s, Inv X pins σ H s → wpAny (model X.prog X.w) X.A (execs st X.env) (SP X pins D) X.xe s
theorem pss_m {X : Cx} {st : List Stmt} : PSs X st (TSsm X st) := ⟨fun pins s _ _ _ I h => h pins s I⟩
theorem TSsm.mono {X : Cx} {st : List Stmt} {σ : L2.St} {H : Hp} {D D' : Ends} (h : TSsm X st D σ H) (l : Le D D') : TSsm X st D' σ H := fun pins s I => thn (h pins s I) fun _ _ q => SP.mono l q
theorem TSsm.of {X : Cx} {st : List Stmt} {t : TS} {σ : L2.St} {H : Hp} {D : Ends} (p : PSs X st t) (h : t D σ H) : TSsm X st D σ H := fun pins s I => p.run pins s σ H D I h

/-! what is shown of a piece of code: by data alone -/
structure WE (X : Cx) (P : List Nat) (e : Expr) (R : DS) (Q : SV → DS → Prop) : Prop where
  run : ∀ F σ Hd H, Wd X.K F P R σ Hd H → TEm X e σ H (Post X.K F P σ Hd Q)
def PostT (K : PySem.W.Frag) (F : Fr) (P : List Nat) (σ : L2.St) (Hd : Hp) (Q : Bool → DS → Prop) : Bool → Hp → Prop := fun b H' =>
  ∃ Hd' R', Same Hd Hd' ∧ Wd K F P R' σ Hd' H' ∧ Q b R'
structure WT (X : Cx) (P : List Nat) (e : Expr) (R : DS) (Q : Bool → DS → Prop) : Prop where
  run : ∀ F σ Hd H, Wd X.K F P R σ Hd H → TTm X e σ H (PostT X.K F P σ Hd Q)
structure WW (X : Cx) (P : List Nat) (e : Expr) (R : DS) (Q : Bool → DS → Prop) : Prop where
  run : ∀ F σ Hd H, Wd X.K F P R σ Hd H → TWm X e σ H (PostT X.K F P σ Hd Q)
/-- arguments: each is data, or a name's own thing -/
def PostA (K : PySem.W.Frag) (F : Fr) (P : List Nat) (σ : L2.St) (Hd : Hp) (Q : List SV → DS → Prop) : List V → Hp → Prop := fun vs H' =>
  ∃ Hd' R' svs, Same Hd Hd' ∧ Wd K F P R' σ Hd' H' ∧ Paired (fun sv v => (match sv with | .d x => Dp K Hd' v x | .loc i => σ[i]? = some (some v) | _ => False)) svs vs ∧ Q svs R'
structure WA (X : Cx) (P : List Nat) (es : List Expr) (R : DS) (Q : List SV → DS → Prop) : Prop where
  run : ∀ F σ Hd H, Wd X.K F P R σ Hd H → TAm X es σ H (PostA X.K F P σ Hd Q)
structure DEnds where
  nx : DS → Prop
  rt : SV → DS → Prop
  bk : DS → Prop := fun _ => False
  ct : DS → Prop := fun _ => False
def up (K : PySem.W.Frag) (F : Fr) (P : List Nat) (Hd : Hp) (q : DS → Prop) : L2.St → Hp → Prop := fun σ' H' => ∃ Hd' R', Same Hd Hd' ∧ Wd K F P R' σ' Hd' H' ∧ q R'
/-- at a def's end -/
def Fin (K : PySem.W.Frag) (F : Fr) (P : List Nat) (R : DS) (sv : SV) (v : V) (Hd H : Hp) : Prop :=
  Same Hd H ∧ Same F.Hf H ∧ (∀ a, F.Fz a → Hd a = none) ∧ (∀ i, i ∈ P → ∃ m o, R[i]? = some (SV.own m) ∧ H (F.al i) = some o ∧ CRp K Hd m o ∧ Hd (F.al i) = none) ∧
    (match sv with
      | .d x => Dp K Hd v x
      | .own m => ∃ a o, v = .ref a ∧ H a = some o ∧ CRp K Hd m o ∧ Hd a = none ∧ F.Hf a = none ∧ ∀ i, i ∈ P → F.al i ≠ a
      | _ => False)
def upR (K : PySem.W.Frag) (F : Fr) (P : List Nat) (Hd : Hp) (q : SV → DS → Prop) : VK := fun v H' => ∃ Hd' R' sv, Same Hd Hd' ∧ Fin K F P R' sv v Hd' H' ∧ q sv R'
def upD (K : PySem.W.Frag) (F : Fr) (P : List Nat) (Hd : Hp) (D : DEnds) : Ends := { nx := up K F P Hd D.nx, rt := upR K F P Hd D.rt, bk := up K F P Hd D.bk, ct := up K F P Hd D.ct }
structure WS (X : Cx) (P : List Nat) (st : Stmt) (R : DS) (D : DEnds) : Prop where
  run : ∀ F σ Hd H, Wd X.K F P R σ Hd H → TSm X st (upD X.K F P Hd D) σ H
structure WSs (X : Cx) (P : List Nat) (st : List Stmt) (R : DS) (D : DEnds) : Prop where
  run : ∀ F σ Hd H, Wd X.K F P R σ Hd H → TSsm X st (upD X.K F P Hd D) σ H

theorem up_same {K : PySem.W.Frag} {F : Fr} {P : List Nat} {Hd Hd' : Hp} {q : DS → Prop} (e : Same Hd Hd') {σ : L2.St} {H : Hp} (h : up K F P Hd' q σ H) : up K F P Hd q σ H := by
  obtain ⟨Hd2, R, e2, w, h⟩ := h
  exact ⟨Hd2, R, e.trans e2, w, h⟩
theorem upD_le {K : PySem.W.Frag} {F : Fr} {P : List Nat} {Hd Hd' : Hp} {D : DEnds} (e : Same Hd Hd') : Le (upD K F P Hd' D) (upD K F P Hd D) :=
  ⟨fun _ _ h => up_same e h, fun _ _ ⟨Hd2, R, sv, e2, w, h⟩ => ⟨Hd2, R, sv, e.trans e2, w, h⟩, fun _ _ h => up_same e h, fun _ _ h => up_same e h⟩

section
variable {X : Cx} {P : List Nat} {R : DS}
theorem WE.of {e : Expr} {Q : SV → DS → Prop} {t : TE} (p : PE X e t) (h : ∀ F σ Hd H, Wd X.K F P R σ Hd H → t σ H (Post X.K F P σ Hd Q)) : WE X P e R Q := ⟨fun F σ Hd H w => TEm.of p (h F σ Hd H w)⟩
theorem WE.use {e : Expr} {Q : SV → DS → Prop} (h : WE X P e R Q) {F : Fr} {σ : L2.St} {Hd H : Hp} (w : Wd X.K F P R σ Hd H) {Z : VK}
    (k : ∀ Hd' R' sv v H', Same Hd Hd' → Wd X.K F P R' σ Hd' H' → Rp X.K F R' σ Hd' H' sv v → Q sv R' → Z v H') : TEm X e σ H Z :=
  (h.run F σ Hd H w).mono fun v H' ⟨Hd', R', sv, e1, w1, r1, q1⟩ => k Hd' R' sv v H' e1 w1 r1 q1
theorem WE.mono {e : Expr} {Q Q' : SV → DS → Prop} (h : WE X P e R Q) (k : ∀ sv R', Q sv R' → Q' sv R') : WE X P e R Q' :=
  ⟨fun F σ Hd H w => h.use w fun Hd' R' sv v H' e1 w1 r1 q1 => ⟨Hd', R', sv, e1, w1, r1, k _ _ q1⟩⟩
theorem WT.of {e : Expr} {Q : Bool → DS → Prop} {t : TT} (p : PT X e t) (h : ∀ F σ Hd H, Wd X.K F P R σ Hd H → t σ H (PostT X.K F P σ Hd Q)) : WT X P e R Q := ⟨fun F σ Hd H w => TTm.of p (h F σ Hd H w)⟩
theorem WT.use {e : Expr} {Q : Bool → DS → Prop} (h : WT X P e R Q) {F : Fr} {σ : L2.St} {Hd H : Hp} (w : Wd X.K F P R σ Hd H) {Z : Bool → Hp → Prop}
    (k : ∀ Hd' R' b H', Same Hd Hd' → Wd X.K F P R' σ Hd' H' → Q b R' → Z b H') : TTm X e σ H Z :=
  (h.run F σ Hd H w).mono fun v H' ⟨Hd', R', e1, w1, q1⟩ => k Hd' R' v H' e1 w1 q1
theorem WT.mono {e : Expr} {Q Q' : Bool → DS → Prop} (h : WT X P e R Q) (k : ∀ b R', Q b R' → Q' b R') : WT X P e R Q' :=
  ⟨fun F σ Hd H w => h.use w fun Hd' R' b H' e1 w1 q1 => ⟨Hd', R', e1, w1, k _ _ q1⟩⟩
theorem WW.of {e : Expr} {Q : Bool → DS → Prop} {t : TT} (p : PW X e t) (h : ∀ F σ Hd H, Wd X.K F P R σ Hd H → t σ H (PostT X.K F P σ Hd Q)) : WW X P e R Q := ⟨fun F σ Hd H w => TWm.of p (h F σ Hd H w)⟩
theorem WW.use {e : Expr} {Q : Bool → DS → Prop} (h : WW X P e R Q) {F : Fr} {σ : L2.St} {Hd H : Hp} (w : Wd X.K F P R σ Hd H) {Z : Bool → Hp → Prop}
    (k : ∀ Hd' R' b H', Same Hd Hd' → Wd X.K F P R' σ Hd' H' → Q b R' → Z b H') : TWm X e σ H Z :=
  (h.run F σ Hd H w).mono fun v H' ⟨Hd', R', e1, w1, q1⟩ => k Hd' R' v H' e1 w1 q1
theorem WA.of {es : List Expr} {Q : List SV → DS → Prop} {t : TA} (p : PA X es t) (h : ∀ F σ Hd H, Wd X.K F P R σ Hd H → t σ H (PostA X.K F P σ Hd Q)) : WA X P es R Q := ⟨fun F σ Hd H w => TAm.of p (h F σ Hd H w)⟩
theorem WS.of {st : Stmt} {D : DEnds} {t : TS} (p : PS X st t) (h : ∀ F σ Hd H, Wd X.K F P R σ Hd H → t (upD X.K F P Hd D) σ H) : WS X P st R D := ⟨fun F σ Hd H w => TSm.of p (h F σ Hd H w)⟩
theorem WSs.of {st : List Stmt} {D : DEnds} {t : TS} (p : PSs X st t) (h : ∀ F σ Hd H, Wd X.K F P R σ Hd H → t (upD X.K F P Hd D) σ H) : WSs X P st R D := ⟨fun F σ Hd H w => TSsm.of p (h F σ Hd H w)⟩
end
end Dl
namespace Dl
open PySem PySem.Spec PyProof.Rows L2
section
variable {K : PySem.W.Frag} {F : Fr} {P : List Nat} {R : DS} {σ : L2.St} {Hd H H' : Hp} {p a : Addr} {o : HO}
theorem sameNew (h : H p = none) : Same H (upd H p o) := fun b u e => by
  rw [upd_ne (ne_of_none e h)]
  exact e
theorem sameUp {H1 : Hp} (s : Same H H1) (h : H p = none) : Same H (upd H1 p o) := fun b u e => by
  rw [upd_ne (ne_of_none e h)]
  exact s b u e
theorem sameNone (s : Same H H') (h : H' a = none) : H a = none := by
  cases q : H a with
  | none => rfl
  | some u => rw [s a u q] at h; cases h
theorem SVx {R : DS} {i : Nat} {x y : SV} (h : R[i]? = some x) (h2 : R[i]? = some y) : x = y := Option.some.inj (h.symm.trans h2)

/-- nothing of what is held changes: the heap grows by an object that is not known -/
theorem Wd.allocH (w : Wd K F P R σ Hd H) (h : H p = none) : Wd K F P R σ Hd (upd H p o) :=
  ⟨sameUp w.dat (sameNone w.dat h), sameUp w.frm (sameNone w.frm h), w.len, w.val, fun i m e => by
    obtain ⟨a, u, e1, e2, e3, e4, e5⟩ := w.own i m e
    exact ⟨a, u, e1, by rw [upd_ne (ne_of_none e2 h)]; exact e2, e3, e4, e5⟩, w.apart, w.pin, w.prot⟩
theorem Wd.allocD (w : Wd K F P R σ Hd H) (h : H p = none) : Wd K F P R σ (upd Hd p o) (upd H p o) ∧ Same Hd (upd Hd p o) := by
  have hd : Hd p = none := sameNone w.dat h
  refine ⟨⟨fun b u e => ?_, sameUp w.frm (sameNone w.frm h), w.len, fun i x e => ?_, fun i m e => ?_, w.apart, w.pin, fun b hb => ⟨by
    have h1 := w.prot b hb
    have ne : b ≠ p := fun z => by
      subst z
      cases q : F.Hf b with
      | none => exact h1.2 q
      | some u => rw [w.frm b u q] at h; cases h
    rw [upd_ne ne]; exact h1.1, (w.prot b hb).2⟩⟩, sameNew hd⟩
  · by_cases hb : b = p
    · subst hb
      rw [upd_same] at e ⊢
      exact e
    · rw [upd_ne hb] at e ⊢
      exact w.dat b u e
  · obtain ⟨v, e1, e2⟩ := w.val i x e
    exact ⟨v, e1, dpMono (sameNew hd) e2⟩
  · obtain ⟨a, u, e1, e2, e3, e4, e5⟩ := w.own i m e
    have ne : a ≠ p := ne_of_none e2 h
    exact ⟨a, u, e1, by rw [upd_ne ne]; exact e2, e3.mono (sameNew hd), by rw [upd_ne ne]; exact e4, e5⟩
/-- a thing that no name holds becomes data -/
theorem Wd.freeze (w : Wd K F P R σ Hd H) (ha : H a = some o) (hd : Hd a = none) (hf : F.Hf a = none) (hn : ∀ (i : Nat) (n : MC), R[i]? = some (SV.own n) → σ[i]? ≠ some (some (V.ref a))) :
    Wd K F P R σ (upd Hd a o) H ∧ Same Hd (upd Hd a o) := by
  refine ⟨⟨fun b u e => ?_, w.frm, w.len, fun i x e => ?_, fun i m e => ?_, w.apart, w.pin, fun b hb => ⟨by
    have h1 := w.prot b hb
    have ne : b ≠ a := fun z => by
      subst z
      exact h1.2 hf
    rw [upd_ne ne]; exact h1.1, (w.prot b hb).2⟩⟩, sameNew hd⟩
  · by_cases hb : b = a
    · subst hb
      rw [upd_same] at e
      cases e
      exact ha
    · rw [upd_ne hb] at e
      exact w.dat b u e
  · obtain ⟨v, e1, e2⟩ := w.val i x e
    exact ⟨v, e1, dpMono (sameNew hd) e2⟩
  · obtain ⟨b, u, e1, e2, e3, e4, e5⟩ := w.own i m e
    have ne : b ≠ a := fun z => by
      subst z
      exact hn i m e e1
    exact ⟨b, u, e1, e2, e3.mono (sameNew hd), by rw [upd_ne ne]; exact e4, e5⟩
theorem Wd.setD (w : Wd K F P R σ Hd H) {i : Nat} {x : D} {v : V} (hP : i ∉ P) (h : Dp K Hd v x) : Wd K F P (R.set i (.d x)) (σ.set i (some v)) Hd H := by
  refine ⟨w.dat, w.frm, by rw [List.length_set, List.length_set]; exact w.len, fun j y e => ?_, fun j m e => ?_, fun j k m n a e1 e2 e3 e4 => ?_, fun j hj => ?_, w.prot⟩
  · by_cases hi : i = j
    · subst hi
      have hl : i < R.length := by
        have := (List.getElem?_eq_some_iff.mp e).1
        rwa [List.length_set] at this
      rw [List.getElem?_set_self hl] at e
      cases e
      exact ⟨v, List.getElem?_set_self (by rw [← w.len]; exact hl), h⟩
    · rw [List.getElem?_set_ne hi] at e ⊢
      exact w.val j y e
  · by_cases hi : i = j
    · subst hi
      have hl : i < R.length := by
        have := (List.getElem?_eq_some_iff.mp e).1
        rwa [List.length_set] at this
      rw [List.getElem?_set_self hl] at e
      cases e
    · rw [List.getElem?_set_ne hi] at e ⊢
      exact w.own j m e
  · have n1 : i ≠ j := fun z => by
      subst z
      have hl : i < R.length := by
        have := (List.getElem?_eq_some_iff.mp e1).1
        rwa [List.length_set] at this
      rw [List.getElem?_set_self hl] at e1
      cases e1
    have n2 : i ≠ k := fun z => by
      subst z
      have hl : i < R.length := by
        have := (List.getElem?_eq_some_iff.mp e2).1
        rwa [List.length_set] at this
      rw [List.getElem?_set_self hl] at e2
      cases e2
    rw [List.getElem?_set_ne n1] at e1 e3
    rw [List.getElem?_set_ne n2] at e2 e4
    exact w.apart j k m n a e1 e2 e3 e4
  · have ne : i ≠ j := fun z => hP (z ▸ hj)
    rw [List.getElem?_set_ne ne, List.getElem?_set_ne ne]
    exact w.pin j hj
/-- forget a name's thing, or a value -/
theorem Wd.setNo (w : Wd K F P R σ Hd H) {i : Nat} {ov : Option V} (hP : i ∉ P) : Wd K F P (R.set i .no) (σ.set i ov) Hd H := by
  have no : ∀ {j : Nat} {y : SV}, (R.set i SV.no)[j]? = some y → y ≠ .no → i ≠ j ∧ R[j]? = some y := fun {j y} e n => by
    have ne : i ≠ j := fun z => by
      subst z
      have hl : i < R.length := by
        have := (List.getElem?_eq_some_iff.mp e).1
        rwa [List.length_set] at this
      rw [List.getElem?_set_self hl] at e
      exact n (Option.some.inj e).symm
    rw [List.getElem?_set_ne ne] at e
    exact ⟨ne, e⟩
  refine ⟨w.dat, w.frm, by rw [List.length_set, List.length_set]; exact w.len, fun j y e => ?_, fun j m e => ?_, fun j k m n a e1 e2 e3 e4 => ?_, fun j hj => ?_, w.prot⟩
  · obtain ⟨ne, e'⟩ := no e (by intro z; cases z)
    rw [List.getElem?_set_ne ne]
    exact w.val j y e'
  · obtain ⟨ne, e'⟩ := no e (by intro z; cases z)
    rw [List.getElem?_set_ne ne]
    exact w.own j m e'
  · obtain ⟨n1, e1'⟩ := no e1 (by intro z; cases z)
    obtain ⟨n2, e2'⟩ := no e2 (by intro z; cases z)
    rw [List.getElem?_set_ne n1] at e3
    rw [List.getElem?_set_ne n2] at e4
    exact w.apart j k m n a e1' e2' e3 e4
  · have ne : i ≠ j := fun z => hP (z ▸ hj)
    rw [List.getElem?_set_ne ne, List.getElem?_set_ne ne]
    exact w.pin j hj
/-- a name gets a new thing -/
theorem Wd.setOwn (w : Wd K F P R σ Hd H) {i : Nat} {m : MC} (hP : i ∉ P) (ha : H a = some o) (hc : CRp K Hd m o) (hd : Hd a = none) (hf : F.Hf a = none)
    (hn : ∀ (i : Nat) (n : MC), R[i]? = some (SV.own n) → σ[i]? ≠ some (some (V.ref a))) : Wd K F P (R.set i (.own m)) (σ.set i (some (.ref a))) Hd H := by
  have at_ : ∀ {j : Nat} {y : SV}, (R.set i (SV.own m))[j]? = some y → (i = j ∧ y = .own m ∧ i < R.length) ∨ (i ≠ j ∧ R[j]? = some y) := fun {j y} e => by
    by_cases z : i = j
    · subst z
      have hl : i < R.length := by
        have := (List.getElem?_eq_some_iff.mp e).1
        rwa [List.length_set] at this
      rw [List.getElem?_set_self hl] at e
      exact .inl ⟨rfl, (Option.some.inj e).symm, hl⟩
    · rw [List.getElem?_set_ne z] at e
      exact .inr ⟨z, e⟩
  refine ⟨w.dat, w.frm, by rw [List.length_set, List.length_set]; exact w.len, fun j y e => ?_, fun j n e => ?_, fun j k n n' b e1 e2 e3 e4 => ?_, fun j hj => ?_, w.prot⟩
  · rcases at_ e with ⟨_, z, _⟩ | ⟨ne, e'⟩
    · cases z
    · rw [List.getElem?_set_ne ne]
      exact w.val j y e'
  · rcases at_ e with ⟨z1, z, hl⟩ | ⟨ne, e'⟩
    · subst z1
      cases z
      exact ⟨a, o, List.getElem?_set_self (by rw [← w.len]; exact hl), ha, hc, hd, hf⟩
    · rw [List.getElem?_set_ne ne]
      exact w.own j n e'
  · rcases at_ e1 with ⟨z1, _, hl⟩ | ⟨ne, e1'⟩
    · rcases at_ e2 with ⟨z2, _, _⟩ | ⟨ne2, e2'⟩
      · exact z1.symm.trans z2
      · subst z1
        rw [List.getElem?_set_self (by rw [← w.len]; exact hl)] at e3
        cases e3
        rw [List.getElem?_set_ne ne2] at e4
        exact absurd e4 (hn k n' e2')
    · rcases at_ e2 with ⟨z2, _, hl⟩ | ⟨ne2, e2'⟩
      · subst z2
        rw [List.getElem?_set_self (by rw [← w.len]; exact hl)] at e4
        cases e4
        rw [List.getElem?_set_ne ne] at e3
        exact absurd e3 (hn j n e1')
      · rw [List.getElem?_set_ne ne] at e3
        rw [List.getElem?_set_ne ne2] at e4
        exact w.apart j k n n' b e1' e2' e3 e4
  · have ne : i ≠ j := fun z => hP (z ▸ hj)
    rw [List.getElem?_set_ne ne, List.getElem?_set_ne ne]
    exact w.pin j hj
/-- a name's thing changes -/
theorem Wd.change (w : Wd K F P R σ Hd H) {i : Nat} {m m' : MC} {o' : HO} (hi : R[i]? = some (.own m)) (hs : σ[i]? = some (some (.ref a))) (hc : CRp K Hd m' o') :
    Wd K F P (R.set i (.own m')) σ Hd (upd H a o') := by
  obtain ⟨b, ob, s1, hb, _, hdb, hfb⟩ := w.own i m hi
  rw [hs] at s1
  cases s1
  have hl : i < R.length := (List.getElem?_eq_some_iff.mp hi).1
  have at_ : ∀ {j : Nat} {y : SV}, (R.set i (SV.own m'))[j]? = some y → (i = j ∧ y = .own m') ∨ (i ≠ j ∧ R[j]? = some y) := fun {j y} e => by
    by_cases z : i = j
    · subst z
      rw [List.getElem?_set_self hl] at e
      exact .inl ⟨rfl, (Option.some.inj e).symm⟩
    · rw [List.getElem?_set_ne z] at e
      exact .inr ⟨z, e⟩
  refine ⟨fun b u e => ?_, fun b u e => ?_, by rw [List.length_set]; exact w.len, fun j y e => ?_, fun j n e => ?_, fun j k n n' b e1 e2 e3 e4 => ?_, fun j hj => ?_, w.prot⟩
  · rw [upd_ne (ne_of_none e hdb)]
    exact w.dat b u e
  · rw [upd_ne (ne_of_none e hfb)]
    exact w.frm b u e
  · rcases at_ e with ⟨_, z⟩ | ⟨ne, e'⟩
    · cases z
    · exact w.val j y e'
  · rcases at_ e with ⟨z1, z⟩ | ⟨ne, e'⟩
    · subst z1
      cases z
      exact ⟨a, o', hs, upd_same, hc, hdb, hfb⟩
    · obtain ⟨c, u, e1, e2, e3, e4, e5⟩ := w.own j n e'
      have nc : c ≠ a := fun z => by
        subst z
        exact ne (w.apart i j m n c hi e' hs e1)
      exact ⟨c, u, e1, by rw [upd_ne nc]; exact e2, e3, e4, e5⟩
  · have o1 : ∃ n, R[j]? = some (.own n) := by
      rcases at_ e1 with ⟨z, _⟩ | ⟨_, e⟩
      · exact ⟨m, z ▸ hi⟩
      · exact ⟨n, e⟩
    have o2 : ∃ n, R[k]? = some (.own n) := by
      rcases at_ e2 with ⟨z, _⟩ | ⟨_, e⟩
      · exact ⟨m, z ▸ hi⟩
      · exact ⟨n', e⟩
    obtain ⟨n1, o1⟩ := o1
    obtain ⟨n2, o2⟩ := o2
    exact w.apart j k n1 n2 b o1 o2 e3 e4
  · obtain ⟨n, e1, e2⟩ := w.pin j hj
    by_cases z : i = j
    · subst z
      exact ⟨m', List.getElem?_set_self hl, e2⟩
    · exact ⟨n, by rw [List.getElem?_set_ne z]; exact e1, e2⟩
/-- a name's thing becomes data -/
theorem Wd.fz (w : Wd K F P R σ Hd H) {i : Nat} {ds : List D} (hi : R[i]? = some (.own (.lst ds))) (hP : i ∉ P) :
    ∃ Hd' v, σ[i]? = some (some v) ∧ Same Hd Hd' ∧ Wd K F P (R.set i (.d (.list ds))) σ Hd' H ∧ Dp K Hd' v (.list ds) := by
  obtain ⟨a, o, s1, ha, hc, hd, hf⟩ := w.own i _ hi
  obtain ⟨vs, rfl, hv⟩ := hc
  have w1 : Wd K F P (R.set i .no) (σ.set i (some (.ref a))) Hd H := w.setNo hP
  have es : σ.set i (some (V.ref a)) = σ := by
    obtain ⟨hl, e⟩ := List.getElem?_eq_some_iff.mp s1
    rw [← e]
    exact List.set_getElem_self hl
  rw [es] at w1
  have hl : i < R.length := (List.getElem?_eq_some_iff.mp hi).1
  obtain ⟨w2, s2⟩ := w1.freeze (o := .lst vs) ha hd hf fun j n e z => by
    have ne : i ≠ j := fun y => by
      subst y
      rw [List.getElem?_set_self hl] at e
      cases e
    rw [List.getElem?_set_ne ne] at e
    exact ne (w.apart i j _ n a hi e s1 z)
  have dp : Dp K (upd Hd a (.lst vs)) (.ref a) (.list ds) := .lst (SqL.of upd_same) (dpAllMono s2 hv)
  have w3 := w2.setD (i := i) (x := .list ds) (v := .ref a) hP dp
  rw [es, List.set_set] at w3
  exact ⟨_, _, s1, s2, w3, dp⟩

/-! what is read of a value -/
def vL (R : DS) : SV → Option (List D)
  | .d (.list ds) => some ds
  | .loc i => match R[i]? with
    | some (.own (.lst ds)) => some ds
    | _ => none
  | .own (.lst ds) => some ds
  | _ => none
def vT : SV → Option (List D)
  | .d (.tuple ds) => some ds
  | _ => none
def vD (R : DS) : SV → Option D
  | .d x => some x
  | .loc i => match R[i]? with
    | some (.own (.lst ds)) => some (.list ds)
    | _ => none
  | .own (.lst ds) => some (.list ds)
  | _ => none
theorem Rp.list {sv : SV} {v : V} {ds : List D} (w : Wd K F P R σ Hd H) (r : Rp K F R σ Hd H sv v) (h : vL R sv = some ds) : ∃ a vs, v = .ref a ∧ SqL K H a vs ∧ DpAll K Hd vs ds := by
  unfold vL at h
  split at h
  · cases h
    have r' : Dp K Hd v (.list ds) := r
    cases r' with
    | lst h1 h2 => exact ⟨_, _, rfl, w.dat.seq h1, h2⟩
  · rename_i i
    obtain ⟨rv, m, rm⟩ := r
    split at h
    · rename_i e
      cases h
      obtain ⟨a, o, s1, ha, ⟨vs, ho, hv⟩, _⟩ := w.own i _ e
      subst ho
      rw [rv] at s1
      cases s1
      exact ⟨a, vs, rfl, SqL.of ha, hv⟩
    · cases h
  · cases h
    obtain ⟨a, o, rfl, ha, ⟨vs, ho, hv⟩, _⟩ := r
    subst ho
    exact ⟨a, vs, rfl, SqL.of ha, hv⟩
  · cases h
theorem Rp.tup {sv : SV} {v : V} {ds : List D} (w : Wd K F P R σ Hd H) (r : Rp K F R σ Hd H sv v) (h : vT sv = some ds) : ∃ a vs, v = .ref a ∧ SqT K Hd a vs ∧ SqT K H a vs ∧ DpAll K Hd vs ds := by
  unfold vT at h
  split at h
  · cases h
    have r' : Dp K Hd v (.tuple ds) := r
    cases r' with
    | tup h1 h2 => exact ⟨_, _, rfl, h1, sameT w.dat h1, h2⟩
  · cases h
theorem Rp.dat {sv : SV} {v : V} {x : D} (w : Wd K F P R σ Hd H) (r : Rp K F R σ Hd H sv v) (h : vD R sv = some x) : Dp K H v x := by
  unfold vD at h
  split at h
  · cases h
    have r' : Dp K Hd v x := r
    exact dpMono w.dat r'
  · rename_i i
    split at h
    · rename_i e
      cases h
      obtain ⟨a, vs, rfl, h1, h2⟩ := Rp.list (sv := .loc i) w r (show vL R (.loc i) = some _ by unfold vL; simp only [e]; rfl)
      exact .lst h1 (dpAllMono w.dat h2)
    · cases h
  · rename_i ds
    cases h
    obtain ⟨a, vs, rfl, h1, h2⟩ := Rp.list (sv := .own (.lst ds)) w r rfl
    exact .lst h1 (dpAllMono w.dat h2)
  · cases h
end

/-- what stands still while something else is looked at -/
def stb : SV → (SV → Prop) → Prop
  | .d x, k => k (.d x)
  | .loc i, k => k (.loc i)
  | .own (.lst ds), k => k (.d (.list ds))
  | _, _ => False
def asD : SV → (D → Prop) → Prop
  | .d x, k => k x
  | .own (.lst ds), k => k (.list ds)
  | _, _ => False
def asI : SV → (Int → Prop) → Prop
  | .d (.int i), k => k i
  | _, _ => False
def asB : SV → (Bool → Prop) → Prop
  | .d (.bool i), k => k i
  | _, _ => False
def asS : SV → (Str → Prop) → Prop
  | .d (.str i), k => k i
  | _, _ => False
section
variable {X : Cx} {P : List Nat} {R : DS}
theorem asI.elim {sv : SV} {k : Int → Prop} (h : asI sv k) : ∃ i, sv = .d (.int i) ∧ k i := by
  unfold asI at h
  split at h
  · exact ⟨_, rfl, h⟩
  · cases h
theorem asB.elim {sv : SV} {k : Bool → Prop} (h : asB sv k) : ∃ i, sv = .d (.bool i) ∧ k i := by
  unfold asB at h
  split at h
  · exact ⟨_, rfl, h⟩
  · cases h
theorem asS.elim {sv : SV} {k : Str → Prop} (h : asS sv k) : ∃ i, sv = .d (.str i) ∧ k i := by
  unfold asS at h
  split at h
  · exact ⟨_, rfl, h⟩
  · cases h
/-- freezing a value at hand -/
theorem WE.fzD {e : Expr} {Q : D → DS → Prop} (h : WE X P e R fun sv R' => asD sv fun x => Q x R') : WE X P e R fun sv R' => ∃ x, sv = .d x ∧ Q x R' :=
  ⟨fun F σ Hd H w => h.use w fun Hd' R' sv v H' e1 w1 r1 q1 => by
    unfold asD at q1
    split at q1
    · exact ⟨Hd', R', _, e1, w1, r1, _, rfl, q1⟩
    · obtain ⟨a, o, rfl, ha, ⟨vs, ho, hv⟩, hd, hf, hn⟩ := r1
      subst ho
      obtain ⟨w2, s2⟩ := w1.freeze ha hd hf hn
      rename_i ds
      exact ⟨_, R', .d (.list ds), e1.trans s2, w2, (Dp.lst (SqL.of upd_same) (dpAllMono s2 hv) : Dp _ _ _ _), _, rfl, q1⟩
    · cases q1⟩
theorem WE.stb {e : Expr} {Q : SV → DS → Prop} (h : WE X P e R fun sv R' => stb sv fun x => Q x R') : WE X P e R fun sv R' => (∀ m, sv ≠ .own m) ∧ Q sv R' :=
  ⟨fun F σ Hd H w => h.use w fun Hd' R' sv v H' e1 w1 r1 q1 => by
    unfold Dl.stb at q1
    split at q1
    · exact ⟨Hd', R', _, e1, w1, r1, (by intro m z; cases z), q1⟩
    · exact ⟨Hd', R', _, e1, w1, r1, (by intro m z; cases z), q1⟩
    · obtain ⟨a, o, rfl, ha, ⟨vs, ho, hv⟩, hd, hf, hn⟩ := r1
      subst ho
      obtain ⟨w2, s2⟩ := w1.freeze ha hd hf hn
      rename_i ds
      exact ⟨_, R', .d (.list ds), e1.trans s2, w2, (Dp.lst (SqL.of upd_same) (dpAllMono s2 hv) : Dp _ _ _ _), (by intro m z; cases z), q1⟩
    · cases q1⟩
/-- what stands still, moved on -/
theorem Rp.on {K : PySem.W.Frag} {F : Fr} {R R' : DS} {σ : L2.St} {Hd Hd' H H' : Hp} {sv : SV} {v : V} {y : D} (hs : ∀ m, sv ≠ .own m) (r : Rp K F R σ Hd H sv v) (e : Same Hd Hd') (h : vD R' sv = some y) : Rp K F R' σ Hd' H' sv v := by
  cases sv with
  | no => cases r
  | d x => exact (dpMono e r : Dp _ _ _ _)
  | own m => exact absurd rfl (hs m)
  | loc i =>
    refine ⟨r.1, ?_⟩
    unfold vD at h
    simp only at h
    split at h
    · rename_i e; exact ⟨_, e⟩
    · cases h
end
end Dl
namespace Dl
open PySem PySem.Spec PyProof.Rows L2
section
variable {X : Cx} {P : List Nat} {R : DS} {a b c e : Expr} {pos : Pos} {Q : SV → DS → Prop}
theorem Post.here {K : PySem.W.Frag} {F : Fr} {σ : L2.St} {Hd H : Hp} {sv : SV} {v : V} (w : Wd K F P R σ Hd H) (r : Rp K F R σ Hd H sv v) (q : Q sv R) : Post K F P σ Hd Q v H := ⟨Hd, R, sv, Same.refl Hd, w, r, q⟩
theorem Post.same {K : PySem.W.Frag} {F : Fr} {σ : L2.St} {Hd Hd' H : Hp} {v : V} (e : Same Hd Hd') (h : Post K F P σ Hd' Q v H) : Post K F P σ Hd Q v H := by
  obtain ⟨Hd2, R2, sv, e2, w, r, q⟩ := h
  exact ⟨Hd2, R2, sv, e.trans e2, w, r, q⟩
theorem PostT.same {K : PySem.W.Frag} {F : Fr} {σ : L2.St} {Hd Hd' H : Hp} {v : Bool} {Q : Bool → DS → Prop} (e : Same Hd Hd') (h : PostT K F P σ Hd' Q v H) : PostT K F P σ Hd Q v H := by
  obtain ⟨Hd2, R2, e2, w, q⟩ := h
  exact ⟨Hd2, R2, e.trans e2, w, q⟩
theorem PostA.same {K : PySem.W.Frag} {F : Fr} {σ : L2.St} {Hd Hd' H : Hp} {v : List V} {Q : List SV → DS → Prop} (e : Same Hd Hd') (h : PostA K F P σ Hd' Q v H) : PostA K F P σ Hd Q v H := by
  obtain ⟨Hd2, R2, svs, e2, w, q⟩ := h
  exact ⟨Hd2, R2, svs, e.trans e2, w, q⟩

/-! names, constants -/
theorem we_d {x : Str} {i : Nat} {dx : D} (hN : X.N[i]? = some x) (hv : Vis X.env.scope x) (hR : R[i]? = some (.d dx)) (q : Q (.d dx) R)
    (hd : (x == ("__debug__" : Str)) = false := by decide) (hcd : (x == ("__classdict__" : Str)) = false := by decide) : WE X P (.Name x pos) R Q :=
  .of (pe_var hN hv hd hcd) fun F σ Hd H w => by
    obtain ⟨v, e1, e2⟩ := w.val i dx hR
    exact ⟨v, e1, .here w (show Rp _ _ _ _ _ _ (.d dx) v from e2) q⟩
theorem we_o {x : Str} {i : Nat} {m : MC} (hN : X.N[i]? = some x) (hv : Vis X.env.scope x) (hR : R[i]? = some (.own m)) (q : Q (.loc i) R)
    (hd : (x == ("__debug__" : Str)) = false := by decide) (hcd : (x == ("__classdict__" : Str)) = false := by decide) : WE X P (.Name x pos) R Q :=
  .of (pe_var hN hv hd hcd) fun F σ Hd H w => by
    obtain ⟨a, o, e1, _⟩ := w.own i m hR
    exact ⟨_, e1, .here w (show Rp _ _ _ _ _ _ (.loc i) _ from ⟨e1, m, hR⟩) q⟩
theorem we_int {i : Int} {j : _} (q : Q (.d (.int i)) R) : WE X P (.Constant (.int i) j pos) R Q := .of pe_int fun F σ Hd H w => .here w (show Rp _ _ _ _ _ _ (.d (.int i)) _ from .int i) q
theorem we_bl {i : Bool} {j : _} (q : Q (.d (.bool i)) R) : WE X P (.Constant (.bool i) j pos) R Q := .of pe_bl fun F σ Hd H w => .here w (show Rp _ _ _ _ _ _ (.d (.bool i)) _ from .bl i) q
theorem we_non {j : _} (q : Q (.d .none) R) : WE X P (.Constant .none j pos) R Q := .of pe_non fun F σ Hd H w => .here w (show Rp _ _ _ _ _ _ (.d .none) _ from .non) q
theorem we_str {i : Str} {j : _} (q : Q (.d (.str i)) R) : WE X P (.Constant (.str i) j pos) R Q := .of pe_str fun F σ Hd H w => .here w (show Rp _ _ _ _ _ _ (.d (.str i)) _ from .str i) q
theorem we_globI {x : Str} {i : Int} {t : Tok} (hm : X.mg x = some (.int i t)) (hg : Gl X x) (q : Q (.d (.int i)) R) (hd : (x == ("__debug__" : Str)) = false := by decide) : WE X P (.Name x pos) R Q :=
  .of (pe_glob (v := .int i) hg hm ⟨t, rfl⟩ hd) fun F σ Hd H w => .here w (show Rp _ _ _ _ _ _ (.d (.int i)) _ from .int i) q

/-! two ints -/
def Fits (X : Cx) (P : List Nat) (R : DS) (t : TE) (Q : SV → DS → Prop) : Prop := ∀ F σ Hd H, Wd X.K F P R σ Hd H → ∀ Z : VK, (∀ v H', Post X.K F P σ Hd Q v H' → Z v H') → t σ H Z
theorem WE.fit {t : TE} (pe : PE X e t) (f : Fits X P R t Q) : WE X P e R Q := .of pe fun F σ Hd H w => f F σ Hd H w _ fun _ _ h => h
theorem WT.fit {t : TE} {Q : Bool → DS → Prop} (pt : PT X e (fun σ H Q => t σ H fun x H' => ∃ k, x = .bl k ∧ Q k H')) (f : Fits X P R t fun x R1 => asB x fun c => Q c R1) : WT X P e R Q :=
  .of pt fun F σ Hd H w => f F σ Hd H w _ fun v H' h => by
    obtain ⟨Hd', R', sv, e1, w1, r1, q1⟩ := h
    obtain ⟨c, rfl, h1⟩ := q1.elim
    cases (show Dp _ _ v (.bool c) from r1)
    exact ⟨c, rfl, Hd', R', e1, w1, h1⟩
theorem twoI {r : R2} {C : Int → Int → Prop} {g : Int → Int → D} {gv : Int → Int → V} (hg : ∀ i j K H, Dp K H (gv i j) (g i j))
    (hr : ∀ i j H (Z : VK), C i j → Z (gv i j) H → r (.int i) (.int j) H Z)
    (h : WE X P a R fun x R1 => asI x fun i => WE X P b R1 fun y R2 => asI y fun j => C i j ∧ Q (.d (g i j)) R2) : Fits X P R (tOp r (TEm X a) (TEm X b)) Q :=
  fun F σ Hd H w Z hZ => h.use w fun Hd1 R1 x v H1 e1 w1 r1 q1 => by
    obtain ⟨i, rfl, q1⟩ := q1.elim
    cases (show Dp _ _ v (.int i) from r1)
    exact q1.use w1 fun Hd2 R2 y u H2 e2 w2 r2 q2 => by
      obtain ⟨j, rfl, c, q2⟩ := q2.elim
      cases (show Dp _ _ u (.int j) from r2)
      exact hr i j H2 _ c (hZ _ _ (.same (e1.trans e2) (.here w2 (show Rp _ _ _ _ _ _ (.d (g i j)) _ from hg i j _ _) q2)))
theorem we_add (h : WE X P a R fun x R1 => asI x fun i => WE X P b R1 fun y R2 => asI y fun j => True ∧ Q (.d (.int (i + j))) R2) : WE X P (.BinOp a .Add b pos) R Q :=
  .fit (pe_op op_add pe_m pe_m) (twoI (g := fun i j => .int (i + j)) (C := fun _ _ => True) (fun i j K H => .int _) (fun i j H Z _ q => ⟨i, j, rfl, rfl, q⟩) h)
theorem we_sub (h : WE X P a R fun x R1 => asI x fun i => WE X P b R1 fun y R2 => asI y fun j => True ∧ Q (.d (.int (i - j))) R2) : WE X P (.BinOp a .Sub b pos) R Q :=
  .fit (pe_op op_sub pe_m pe_m) (twoI (g := fun i j => .int (i - j)) (C := fun _ _ => True) (fun i j K H => .int _) (fun i j H Z _ q => ⟨i, j, rfl, rfl, q⟩) h)
theorem we_mul (h : WE X P a R fun x R1 => asI x fun i => WE X P b R1 fun y R2 => asI y fun j => CMul i j ∧ Q (.d (.int (i * j))) R2) : WE X P (.BinOp a .Mult b pos) R Q :=
  .fit (pe_op op_mul pe_m pe_m) (twoI (g := fun i j => .int (i * j)) (C := CMul) (fun i j K H => .int _) (fun i j H Z c q => ⟨i, j, rfl, rfl, c, q⟩) h)
theorem we_div (h : WE X P a R fun x R1 => asI x fun i => WE X P b R1 fun y R2 => asI y fun j => CDiv i j ∧ Q (.d (.int (i / j))) R2) : WE X P (.BinOp a .FloorDiv b pos) R Q :=
  .fit (pe_op op_fdiv pe_m pe_m) (twoI (g := fun i j => .int (i / j)) (C := CDiv) (fun i j K H => .int _) (fun i j H Z c q => ⟨i, j, rfl, rfl, c, q⟩) h)
theorem we_mod (h : WE X P a R fun x R1 => asI x fun i => WE X P b R1 fun y R2 => asI y fun j => 0 < j ∧ Q (.d (.int (i % j))) R2) : WE X P (.BinOp a .Mod b pos) R Q :=
  .fit (pe_op op_mod pe_m pe_m) (twoI (g := fun i j => .int (i % j)) (C := fun _ j => 0 < j) (fun i j K H => .int _) (fun i j H Z c q => ⟨i, j, rfl, rfl, c, q⟩) h)
theorem we_pow (h : WE X P a R fun x R1 => asI x fun i => WE X P b R1 fun y R2 => asI y fun j => CPow i j ∧ Q (.d (.int (i ^ j.toNat))) R2) : WE X P (.BinOp a .Pow b pos) R Q :=
  .fit (pe_op op_pow pe_m pe_m) (twoI (g := fun i j => .int (i ^ j.toNat)) (C := CPow) (fun i j K H => .int _) (fun i j H Z c q => ⟨i, j, rfl, rfl, c, q⟩) h)
theorem we_neg (h : WE X P a R fun x R1 => asI x fun i => Q (.d (.int (-i))) R1) : WE X P (.UnaryOp .USub a pos) R Q :=
  .of (pe_un un_neg pe_m) fun F σ Hd H w => h.use w fun Hd1 R1 x v H1 e1 w1 r1 q1 => by
    obtain ⟨i, rfl, q1⟩ := q1.elim
    cases (show Dp _ _ v (.int i) from r1)
    exact ⟨i, rfl, .same e1 (.here w1 (show Rp _ _ _ _ _ _ (.d (.int (-i))) _ from .int _) q1)⟩
theorem we_lt (h : WE X P a R fun x R1 => asI x fun i => WE X P b R1 fun y R2 => asI y fun j => True ∧ Q (.d (.bool (decide (i < j)))) R2) : WE X P (.Compare a [.Lt] [b] pos) R Q :=
  .fit (pe_cmpR op_lt pe_m pe_m (nomark _)) (twoI (g := fun i j => .bool (decide (i < j))) (C := fun _ _ => True) (fun i j K H => .bl _) (fun i j H Z _ q => ⟨i, j, rfl, rfl, q⟩) h)
theorem wt_lt {Q : Bool → DS → Prop} (h : WE X P a R fun x R1 => asI x fun i => WE X P b R1 fun y R2 => asI y fun j => True ∧ Q (decide (i < j)) R2) : WT X P (.Compare a [.Lt] [b] pos) R Q :=
  .fit (pt_cmpR op_lt pe_m pe_m (nomark _)) (twoI (Q := fun x R1 => asB x fun c => Q c R1) (g := fun i j => .bool (decide (i < j))) (C := fun _ _ => True) (fun i j K H => .bl _) (fun i j H Z _ q => ⟨i, j, rfl, rfl, q⟩) h)
theorem we_le (h : WE X P a R fun x R1 => asI x fun i => WE X P b R1 fun y R2 => asI y fun j => True ∧ Q (.d (.bool (decide (i ≤ j)))) R2) : WE X P (.Compare a [.LtE] [b] pos) R Q :=
  .fit (pe_cmpR op_le pe_m pe_m (nomark _)) (twoI (g := fun i j => .bool (decide (i ≤ j))) (C := fun _ _ => True) (fun i j K H => .bl _) (fun i j H Z _ q => ⟨i, j, rfl, rfl, q⟩) h)
theorem wt_le {Q : Bool → DS → Prop} (h : WE X P a R fun x R1 => asI x fun i => WE X P b R1 fun y R2 => asI y fun j => True ∧ Q (decide (i ≤ j)) R2) : WT X P (.Compare a [.LtE] [b] pos) R Q :=
  .fit (pt_cmpR op_le pe_m pe_m (nomark _)) (twoI (Q := fun x R1 => asB x fun c => Q c R1) (g := fun i j => .bool (decide (i ≤ j))) (C := fun _ _ => True) (fun i j K H => .bl _) (fun i j H Z _ q => ⟨i, j, rfl, rfl, q⟩) h)
theorem we_gt (h : WE X P a R fun x R1 => asI x fun i => WE X P b R1 fun y R2 => asI y fun j => True ∧ Q (.d (.bool (decide (j < i)))) R2) : WE X P (.Compare a [.Gt] [b] pos) R Q :=
  .fit (pe_cmpR op_gt pe_m pe_m (nomark _)) (twoI (g := fun i j => .bool (decide (j < i))) (C := fun _ _ => True) (fun i j K H => .bl _) (fun i j H Z _ q => ⟨i, j, rfl, rfl, q⟩) h)
theorem wt_gt {Q : Bool → DS → Prop} (h : WE X P a R fun x R1 => asI x fun i => WE X P b R1 fun y R2 => asI y fun j => True ∧ Q (decide (j < i)) R2) : WT X P (.Compare a [.Gt] [b] pos) R Q :=
  .fit (pt_cmpR op_gt pe_m pe_m (nomark _)) (twoI (Q := fun x R1 => asB x fun c => Q c R1) (g := fun i j => .bool (decide (j < i))) (C := fun _ _ => True) (fun i j K H => .bl _) (fun i j H Z _ q => ⟨i, j, rfl, rfl, q⟩) h)
theorem we_ge (h : WE X P a R fun x R1 => asI x fun i => WE X P b R1 fun y R2 => asI y fun j => True ∧ Q (.d (.bool (decide (j ≤ i)))) R2) : WE X P (.Compare a [.GtE] [b] pos) R Q :=
  .fit (pe_cmpR op_ge pe_m pe_m (nomark _)) (twoI (g := fun i j => .bool (decide (j ≤ i))) (C := fun _ _ => True) (fun i j K H => .bl _) (fun i j H Z _ q => ⟨i, j, rfl, rfl, q⟩) h)
theorem wt_ge {Q : Bool → DS → Prop} (h : WE X P a R fun x R1 => asI x fun i => WE X P b R1 fun y R2 => asI y fun j => True ∧ Q (decide (j ≤ i)) R2) : WT X P (.Compare a [.GtE] [b] pos) R Q :=
  .fit (pt_cmpR op_ge pe_m pe_m (nomark _)) (twoI (Q := fun x R1 => asB x fun c => Q c R1) (g := fun i j => .bool (decide (j ≤ i))) (C := fun _ _ => True) (fun i j K H => .bl _) (fun i j H Z _ q => ⟨i, j, rfl, rfl, q⟩) h)

/-! two things -/
theorem two {r : R2} {G : SV → SV → DS → Prop}
    (h : WE X P a R fun x R1 => stb x fun x => WE X P b R1 fun y R2 => (∃ d, vD R2 x = some d) ∧ G x y R2)
    (hr : ∀ F σ Hd H x y R2 v u (Z : VK), Wd X.K F P R2 σ Hd H → Rp X.K F R2 σ Hd H x v → Rp X.K F R2 σ Hd H y u → G x y R2 → (∀ v H', Post X.K F P σ Hd Q v H' → Z v H') → r v u H Z) : Fits X P R (tOp r (TEm X a) (TEm X b)) Q :=
  fun F σ Hd H w Z hZ => h.stb.use w fun Hd1 R1 x v H1 e1 w1 r1 q1 => q1.2.use w1 fun Hd2 R2 y u H2 e2 w2 r2 q2 => by
    obtain ⟨⟨d, hd⟩, g⟩ := q2
    exact hr F σ Hd2 H2 x y R2 v u _ w2 (Rp.on q1.1 r1 e2 hd) r2 g fun v H' h => hZ v H' (h.same (e1.trans e2))
/-- == , != of data -/
structure gEq (R2 : DS) (x y : SV) (k : Bool → Prop) : Prop where
  ex : ∃ d d', vD R2 x = some d ∧ vD R2 y = some d' ∧ SeqAt.shaped d = true ∧ SeqAt.shaped d' = true ∧ k (PyData.eqv d d')
theorem fit_eq (h : WE X P a R fun x R1 => stb x fun x => WE X P b R1 fun y R2 => (∃ d, vD R2 x = some d) ∧ gEq R2 x y fun c => Q (.d (.bool c)) R2) : Fits X P R (tOp (rEqD X.K) (TEm X a) (TEm X b)) Q :=
  two h fun F σ Hd H x y R2 v u Z w r1 r2 g k => by
    obtain ⟨d, d', h1, h2, s1, s2, q⟩ := g
    exact ⟨d, d', Rp.dat w r1 h1, Rp.dat w r2 h2, s1, s2, k _ _ (.here w (show Rp _ _ _ _ _ _ (.d (.bool _)) _ from .bl _) q)⟩
theorem fit_ne (h : WE X P a R fun x R1 => stb x fun x => WE X P b R1 fun y R2 => (∃ d, vD R2 x = some d) ∧ gEq R2 x y fun c => Q (.d (.bool (!c))) R2) : Fits X P R (tOp (rNeD X.K) (TEm X a) (TEm X b)) Q :=
  two h fun F σ Hd H x y R2 v u Z w r1 r2 g k => by
    obtain ⟨d, d', h1, h2, s1, s2, q⟩ := g
    exact ⟨d, d', Rp.dat w r1 h1, Rp.dat w r2 h2, s1, s2, k _ _ (.here w (show Rp _ _ _ _ _ _ (.d (.bool _)) _ from .bl _) q)⟩
theorem we_eq (hu : X.A.units + 64 < cLine) (h : WE X P a R fun x R1 => stb x fun x => WE X P b R1 fun y R2 => (∃ d, vD R2 x = some d) ∧ gEq R2 x y fun c => Q (.d (.bool c)) R2) : WE X P (.Compare a [.Eq] [b] pos) R Q :=
  .fit (pe_cmpR (op_eqD hu) pe_m pe_m (nomark _)) (fit_eq h)
theorem wt_eq {Q : Bool → DS → Prop} (hu : X.A.units + 64 < cLine) (h : WE X P a R fun x R1 => stb x fun x => WE X P b R1 fun y R2 => (∃ d, vD R2 x = some d) ∧ gEq R2 x y fun c => Q c R2) : WT X P (.Compare a [.Eq] [b] pos) R Q :=
  .fit (pt_cmpR (op_eqD hu) pe_m pe_m (nomark _)) (fit_eq (Q := fun x R1 => asB x fun c => Q c R1) h)
theorem we_ne (hu : X.A.units + 64 < cLine) (h : WE X P a R fun x R1 => stb x fun x => WE X P b R1 fun y R2 => (∃ d, vD R2 x = some d) ∧ gEq R2 x y fun c => Q (.d (.bool (!c))) R2) : WE X P (.Compare a [.NotEq] [b] pos) R Q :=
  .fit (pe_cmpR (op_neD hu) pe_m pe_m (nomark _)) (fit_ne h)
theorem wt_ne {Q : Bool → DS → Prop} (hu : X.A.units + 64 < cLine) (h : WE X P a R fun x R1 => stb x fun x => WE X P b R1 fun y R2 => (∃ d, vD R2 x = some d) ∧ gEq R2 x y fun c => Q (!c) R2) : WT X P (.Compare a [.NotEq] [b] pos) R Q :=
  .fit (pt_cmpR (op_neD hu) pe_m pe_m (nomark _)) (fit_ne (Q := fun x R1 => asB x fun c => Q c R1) h)
theorem eqV_int (i j : Int) : eqV (.int i) (.int j) = decide (i = j) := rfl
theorem inV_ints (i : Int) : ∀ ns : List Int, inV (.int i) (ns.map V.int) = decide (i ∈ ns)
  | [] => rfl
  | n :: r => by
    have h := inV_ints i r
    unfold inV at h ⊢
    rw [List.map_cons, List.any_cons, h, eqV_int]
    by_cases e : n = i
    · simp [e]
    · have e' : ¬ i = n := fun z => e z.symm
      simp [e, e']
theorem flat_ints : ∀ ns : List Int, (ns.map V.int).all flatV = true
  | [] => rfl
  | n :: r => by
    rw [List.map_cons, List.all_cons, flat_ints r]
    rfl
/-- in, not in: ints in a list of ints -/
structure gIn (R2 : DS) (x y : SV) (k : Bool → Prop) : Prop where
  ex : ∃ (i : Int) (ns : List Int), x = .d (.int i) ∧ vL R2 y = some (ns.map PyData.int) ∧ k (decide (i ∈ ns))
theorem fit_in (h : WE X P a R fun x R1 => stb x fun x => WE X P b R1 fun y R2 => (∃ d, vD R2 x = some d) ∧ gIn R2 x y fun c => Q (.d (.bool c)) R2) : Fits X P R (tOp (rIn X.K false) (TEm X a) (TEm X b)) Q :=
  two h fun F σ Hd H x y R2 v u Z w r1 r2 g k => by
    obtain ⟨i, ns, rfl, h1, q⟩ := g
    obtain ⟨p, vs, rfl, hl, hv⟩ := Rp.list w r2 h1
    cases dpAllInts hv
    cases (show Dp _ _ v (.int i) from r1)
    exact ⟨p, _, rfl, .inl hl, rfl, flat_ints ns, k _ _ (.here w (show Rp _ _ _ _ _ _ (.d (.bool (decide (i ∈ ns)))) _ from (by
      show Dp X.K Hd (.bl (inV (.int i) (ns.map V.int))) _
      rw [inV_ints]
      exact .bl _)) q)⟩
theorem fit_notIn (h : WE X P a R fun x R1 => stb x fun x => WE X P b R1 fun y R2 => (∃ d, vD R2 x = some d) ∧ gIn R2 x y fun c => Q (.d (.bool (!c))) R2) : Fits X P R (tOp (rIn X.K true) (TEm X a) (TEm X b)) Q :=
  two h fun F σ Hd H x y R2 v u Z w r1 r2 g k => by
    obtain ⟨i, ns, rfl, h1, q⟩ := g
    obtain ⟨p, vs, rfl, hl, hv⟩ := Rp.list w r2 h1
    cases dpAllInts hv
    cases (show Dp _ _ v (.int i) from r1)
    exact ⟨p, _, rfl, .inl hl, rfl, flat_ints ns, k _ _ (.here w (show Rp _ _ _ _ _ _ (.d (.bool (!decide (i ∈ ns)))) _ from (by
      show Dp X.K Hd (.bl (!inV (.int i) (ns.map V.int))) _
      rw [inV_ints]
      exact .bl _)) q)⟩
theorem we_in (hm : behindInMarks .In b = false) (h : WE X P a R fun x R1 => stb x fun x => WE X P b R1 fun y R2 => (∃ d, vD R2 x = some d) ∧ gIn R2 x y fun c => Q (.d (.bool c)) R2) : WE X P (.Compare a [.In] [b] pos) R Q :=
  .fit (pe_cmpR op_in_seq pe_m pe_m hm) (fit_in h)
theorem wt_in {Q : Bool → DS → Prop} (hm : behindInMarks .In b = false) (h : WE X P a R fun x R1 => stb x fun x => WE X P b R1 fun y R2 => (∃ d, vD R2 x = some d) ∧ gIn R2 x y fun c => Q c R2) : WT X P (.Compare a [.In] [b] pos) R Q :=
  .fit (pt_cmpR op_in_seq pe_m pe_m hm) (fit_in (Q := fun x R1 => asB x fun c => Q c R1) h)
theorem we_notIn (hm : behindInMarks .NotIn b = false) (h : WE X P a R fun x R1 => stb x fun x => WE X P b R1 fun y R2 => (∃ d, vD R2 x = some d) ∧ gIn R2 x y fun c => Q (.d (.bool (!c))) R2) : WE X P (.Compare a [.NotIn] [b] pos) R Q :=
  .fit (pe_cmpR op_notIn_seq pe_m pe_m hm) (fit_notIn h)
theorem wt_notIn {Q : Bool → DS → Prop} (hm : behindInMarks .NotIn b = false) (h : WE X P a R fun x R1 => stb x fun x => WE X P b R1 fun y R2 => (∃ d, vD R2 x = some d) ∧ gIn R2 x y fun c => Q (!c) R2) : WT X P (.Compare a [.NotIn] [b] pos) R Q :=
  .fit (pt_cmpR op_notIn_seq pe_m pe_m hm) (fit_notIn (Q := fun x R1 => asB x fun c => Q c R1) h)

/-! dicts that a name holds -/
def hasK {κ β : Type} [DecidableEq κ] (kvs : List (κ × β)) (k : κ) : Bool := kvs.any fun kv => decide (kv.1 = k)
theorem hasK_of {κ : Type} [DecidableEq κ] {G : (κ × D) → (κ × V) → Prop} (hG : ∀ p q, G p q → p.1 = q.1) (k : κ) : ∀ {kvs : List (κ × D)} {ws : List (κ × V)}, Paired G kvs ws → (valV ws k).isSome = hasK kvs k
  | _, _, .nil => rfl
  | _, _, .cons (a := p) (b := q) h t => by
    have ih := hasK_of hG k t
    rw [← valV_any] at ih ⊢
    unfold hasK at ih ⊢
    rw [List.any_cons, List.any_cons, ih, hG p q h]
/-- a key in a dict that a name holds: int keys -/
structure gInD (R2 : DS) (x y : SV) (k : Bool → Prop) : Prop where
  ex : ∃ (i : Int) (j : Nat) (kvs : List (Key × D)), x = .d (.int i) ∧ y = .loc j ∧ R2[j]? = some (.own (.dK kvs)) ∧ k (hasK kvs (Sum.inl i))
theorem fit_inD (h : WE X P a R fun x R1 => stb x fun x => WE X P b R1 fun y R2 => gInD R2 x y fun c => Q (.d (.bool c)) R2) : Fits X P R (tDIn (TEm X a) (TEm X b)) Q :=
  fun F σ Hd H w Z hZ => h.stb.use w fun Hd1 R1 x v H1 e1 w1 r1 q1 => q1.2.use w1 fun Hd2 R2 y u H2 e2 w2 r2 q2 => by
    obtain ⟨i, j, kvs, rfl, rfl, hR, q⟩ := q2
    cases (show Dp _ _ v (.int i) from r1)
    obtain ⟨p, o, s1, hp, ⟨ws, ho, hc⟩, _⟩ := w2.own j _ hR
    subst ho
    have s2 := r2.1
    rw [s1] at s2
    cases s2
    refine ⟨p, _, rfl, DGet.k (k := Sum.inl i) hp, hZ _ _ (.same (e1.trans e2) (.here w2 (sv := .d (.bool (hasK kvs (Sum.inl i)))) ?_ q))⟩
    rw [hasK_of (fun _ _ h => h.1) _ hc]
    exact .bl _
theorem fit_notInD (h : WE X P a R fun x R1 => stb x fun x => WE X P b R1 fun y R2 => gInD R2 x y fun c => Q (.d (.bool (!c))) R2) : Fits X P R (tDNotIn (TEm X a) (TEm X b)) Q :=
  fun F σ Hd H w Z hZ => h.stb.use w fun Hd1 R1 x v H1 e1 w1 r1 q1 => q1.2.use w1 fun Hd2 R2 y u H2 e2 w2 r2 q2 => by
    obtain ⟨i, j, kvs, rfl, rfl, hR, q⟩ := q2
    cases (show Dp _ _ v (.int i) from r1)
    obtain ⟨p, o, s1, hp, ⟨ws, ho, hc⟩, _⟩ := w2.own j _ hR
    subst ho
    have s2 := r2.1
    rw [s1] at s2
    cases s2
    refine ⟨p, _, rfl, DGet.k (k := Sum.inl i) hp, hZ _ _ (.same (e1.trans e2) (.here w2 (sv := .d (.bool (!hasK kvs (Sum.inl i)))) ?_ q))⟩
    rw [hasK_of (fun _ _ h => h.1) _ hc]
    exact .bl _
theorem we_inD (hu : X.A.units + 1 < cLine) (hm : behindInMarks .In b = false) (h : WE X P a R fun x R1 => stb x fun x => WE X P b R1 fun y R2 => gInD R2 x y fun c => Q (.d (.bool c)) R2) : WE X P (.Compare a [.In] [b] pos) R Q :=
  .fit (pe_cmp (pc_din hu pe_m pe_m) hm) (fit_inD h)
theorem wt_inD {Q : Bool → DS → Prop} (hu : X.A.units + 1 < cLine) (hm : behindInMarks .In b = false) (h : WE X P a R fun x R1 => stb x fun x => WE X P b R1 fun y R2 => gInD R2 x y fun c => Q c R2) : WT X P (.Compare a [.In] [b] pos) R Q :=
  .fit (pt_cmp (pc_din hu pe_m pe_m) hm) (fit_inD (Q := fun x R1 => asB x fun c => Q c R1) h)
theorem we_notInD (hu : X.A.units + 1 < cLine) (hm : behindInMarks .NotIn b = false) (h : WE X P a R fun x R1 => stb x fun x => WE X P b R1 fun y R2 => gInD R2 x y fun c => Q (.d (.bool (!c))) R2) : WE X P (.Compare a [.NotIn] [b] pos) R Q :=
  .fit (pe_cmp (pc_dnotin hu pe_m pe_m) hm) (fit_notInD h)
theorem wt_notInD {Q : Bool → DS → Prop} (hu : X.A.units + 1 < cLine) (hm : behindInMarks .NotIn b = false) (h : WE X P a R fun x R1 => stb x fun x => WE X P b R1 fun y R2 => gInD R2 x y fun c => Q (!c) R2) : WT X P (.Compare a [.NotIn] [b] pos) R Q :=
  .fit (pt_cmp (pc_dnotin hu pe_m pe_m) hm) (fit_notInD (Q := fun x R1 => asB x fun c => Q c R1) h)

/-! and, or, not: truths -/
theorem we_one {op : _} (h : WE X P a R Q) : WE X P (.BoolOp op [a] pos) R Q := .of (pe_one pe_m) fun F σ Hd H w => h.run F σ Hd H w
theorem we_and {rest : List Expr} (h : WE X P a R fun x R1 => asB x fun c => (c = true → WE X P (.BoolOp .And (b :: rest) pos) R1 Q) ∧ (c = false → Q (.d (.bool false)) R1)) : WE X P (.BoolOp .And (a :: b :: rest) pos) R Q :=
  .of (pe_and pe_m pe_m) fun F σ Hd H w => h.use w fun Hd1 R1 x v H1 e1 w1 r1 q1 => by
    obtain ⟨c, rfl, h1, h2⟩ := q1.elim
    cases (show Dp _ _ v (.bool c) from r1)
    refine ⟨c, rfl, ?_⟩
    cases c with
    | true => exact iteT ((h1 rfl).use w1 fun Hd2 R2 y u H2 e2 w2 r2 q2 => .same (e1.trans e2) (.here w2 r2 q2))
    | false => exact iteF (.same e1 (.here w1 (show Rp _ _ _ _ _ _ (.d (.bool false)) _ from .bl _) (h2 rfl)))
theorem we_or {rest : List Expr} (h : WE X P a R fun x R1 => asB x fun c => (c = false → WE X P (.BoolOp .Or (b :: rest) pos) R1 Q) ∧ (c = true → Q (.d (.bool true)) R1)) : WE X P (.BoolOp .Or (a :: b :: rest) pos) R Q :=
  .of (pe_or pe_m pe_m) fun F σ Hd H w => h.use w fun Hd1 R1 x v H1 e1 w1 r1 q1 => by
    obtain ⟨c, rfl, h1, h2⟩ := q1.elim
    cases (show Dp _ _ v (.bool c) from r1)
    refine ⟨c, rfl, ?_⟩
    cases c with
    | false => exact iteF ((h1 rfl).use w1 fun Hd2 R2 y u H2 e2 w2 r2 q2 => .same (e1.trans e2) (.here w2 r2 q2))
    | true => exact iteT (.same e1 (.here w1 (show Rp _ _ _ _ _ _ (.d (.bool true)) _ from .bl _) (h2 rfl)))
theorem we_not (h : WE X P a R fun x R1 => asB x fun c => Q (.d (.bool (!c))) R1) : WE X P (.UnaryOp .Not a pos) R Q :=
  .of (pe_not pe_m) fun F σ Hd H w => h.use w fun Hd1 R1 x v H1 e1 w1 r1 q1 => by
    obtain ⟨c, rfl, h1⟩ := q1.elim
    cases (show Dp _ _ v (.bool c) from r1)
    exact ⟨c, rfl, .same e1 (.here w1 (show Rp _ _ _ _ _ _ (.d (.bool (!c))) _ from .bl _) h1)⟩
/-! tests -/
theorem wt_val {Q : Bool → DS → Prop} (h : WE X P e R fun x R1 => asB x fun c => Q c R1) (he : ∀ whole, isTrue e X.env whole = (do let v ← whole; standAt e.pos; holding [v] (truthy v)) := by intro _; rfl) : WT X P e R Q :=
  .of (pt_val pe_m he) fun F σ Hd H w => h.use w fun Hd1 R1 x v H1 e1 w1 r1 q1 => by
    obtain ⟨c, rfl, h1⟩ := q1.elim
    cases (show Dp _ _ v (.bool c) from r1)
    exact ⟨c, rfl, Hd1, R1, e1, w1, h1⟩
theorem wt_w {Q : Bool → DS → Prop} (h : WW X P e R Q) : WT X P e R Q := .of (PW.pt pw_m) fun F σ Hd H w => h.run F σ Hd H w
theorem ww_and1 {Q : Bool → DS → Prop} (h : WT X P a R Q) : WW X P (.BoolOp .And [a] pos) R Q := .of (pw_and1 pt_m) fun F σ Hd H w => h.run F σ Hd H w
theorem ww_or1 {Q : Bool → DS → Prop} (h : WT X P a R Q) : WW X P (.BoolOp .Or [a] pos) R Q := .of (pw_or1 pt_m) fun F σ Hd H w => h.run F σ Hd H w
theorem ww_and {rest : List Expr} {Q : Bool → DS → Prop} (h : WT X P a R fun c R1 => (c = true → WW X P (.BoolOp .And (b :: rest) pos) R1 Q) ∧ (c = false → Q false R1)) : WW X P (.BoolOp .And (a :: b :: rest) pos) R Q :=
  .of (pw_and pt_m pw_m) fun F σ Hd H w => h.use w fun Hd1 R1 c H1 e1 w1 q1 => by
    cases c with
    | true => exact iteT ((q1.1 rfl).use w1 fun Hd2 R2 b H2 e2 w2 q2 => ⟨Hd2, R2, e1.trans e2, w2, q2⟩)
    | false => exact iteF ⟨Hd1, R1, e1, w1, q1.2 rfl⟩
theorem ww_or {rest : List Expr} {Q : Bool → DS → Prop} (h : WT X P a R fun c R1 => (c = false → WW X P (.BoolOp .Or (b :: rest) pos) R1 Q) ∧ (c = true → Q true R1)) : WW X P (.BoolOp .Or (a :: b :: rest) pos) R Q :=
  .of (pw_or pt_m pw_m) fun F σ Hd H w => h.use w fun Hd1 R1 c H1 e1 w1 q1 => by
    cases c with
    | false => exact iteF ((q1.1 rfl).use w1 fun Hd2 R2 b H2 e2 w2 q2 => ⟨Hd2, R2, e1.trans e2, w2, q2⟩)
    | true => exact iteT ⟨Hd1, R1, e1, w1, q1.2 rfl⟩
theorem wt_not {Q : Bool → DS → Prop} (h : WT X P a R fun c R1 => Q (!c) R1) : WT X P (.UnaryOp .Not a pos) R Q :=
  .of (pt_not pt_m) fun F σ Hd H w => h.use w fun Hd1 R1 c H1 e1 w1 q1 => ⟨Hd1, R1, e1, w1, q1⟩
end
end Dl
namespace Dl
open PySem PySem.Spec PyProof.Rows L2
/-! displays -/
def PostDs (K : PySem.W.Frag) (F : Fr) (P : List Nat) (σ : L2.St) (Hd : Hp) (Q : List D → DS → Prop) : List V → Hp → Prop := fun vs H' =>
  ∃ Hd' R' ds, Same Hd Hd' ∧ Wd K F P R' σ Hd' H' ∧ DpAll K Hd' vs ds ∧ Q ds R'
structure WDs (X : Cx) (P : List Nat) (es : List Expr) (R : DS) (Q : List D → DS → Prop) : Prop where
  run : ∀ F σ Hd H, Wd X.K F P R σ Hd H → TAm X es σ H (PostDs X.K F P σ Hd Q)
section
variable {X : Cx} {P : List Nat} {R : DS} {a b c e : Expr} {es : List Expr} {pos : Pos} {Q : SV → DS → Prop}
theorem WDs.use {Q : List D → DS → Prop} (h : WDs X P es R Q) {F : Fr} {σ : L2.St} {Hd H : Hp} (w : Wd X.K F P R σ Hd H) {Z : List V → Hp → Prop}
    (k : ∀ Hd' R' ds vs H', Same Hd Hd' → Wd X.K F P R' σ Hd' H' → DpAll X.K Hd' vs ds → Q ds R' → Z vs H') : TAm X es σ H Z :=
  (h.run F σ Hd H w).mono fun v H' ⟨Hd', R', ds, e1, w1, r1, q1⟩ => k Hd' R' ds v H' e1 w1 r1 q1
theorem wds_nil {Q : List D → DS → Prop} (q : Q [] R) : WDs X P [] R Q := ⟨fun F σ Hd H w => TAm.of pa_nil ⟨Hd, R, [], Same.refl _, w, .nil, q⟩⟩
theorem wds_cons {Q : List D → DS → Prop} (h : WE X P a R fun sv R1 => asD sv fun x => WDs X P es R1 fun ds R2 => Q (x :: ds) R2)
    (hs : starEach (a :: es) X.env = (false, eval a X.env) :: starEach es X.env := by rfl) : WDs X P (a :: es) R Q :=
  ⟨fun F σ Hd H w => TAm.of (pa_cons pe_m pa_m hs) (h.fzD.use w fun Hd1 R1 sv v H1 e1 w1 r1 q1 => by
    obtain ⟨x, rfl, q1⟩ := q1
    exact q1.use w1 fun Hd2 R2 ds vs H2 e2 w2 r2 q2 => ⟨Hd2, R2, x :: ds, e1.trans e2, w2, .cons (dpMono e2 r1) r2, q2⟩)⟩
theorem we_tup {x1 : _} (h : WDs X P es R fun ds R1 => ds.length ≤ sizeLine ∧ Q (.d (.tuple ds)) R1) : WE X P (.Tuple es x1 pos) R Q :=
  .of (pe_tup pa_m) fun F σ Hd H w => h.use w fun Hd1 R1 ds vs H1 e1 w1 r1 q1 => ⟨by rw [dpAllLen r1]; exact q1.1, fun p hp => by
    obtain ⟨w2, s2⟩ := w1.allocD (o := .tup vs) hp
    exact .same (e1.trans s2) (.here w2 (show Rp _ _ _ _ _ _ (.d (.tuple ds)) _ from Dp.tup (SqT.of upd_same) (dpAllMono s2 r1)) q1.2)⟩
theorem ownNew {K : PySem.W.Frag} {F : Fr} {R : DS} {σ : L2.St} {Hd H : Hp} {m : MC} {o : HO} {p : Addr} (w : Wd K F P R σ Hd H) (hp : H p = none) (hc : CRp K Hd m o) : Rp K F R σ Hd (upd H p o) (.own m) (.ref p) :=
  ⟨p, o, rfl, upd_same, hc, sameNone w.dat hp, sameNone w.frm hp, fun i n hi z => by
    obtain ⟨a, u, s1, ha, _⟩ := w.own i n hi
    rw [z] at s1
    cases s1
    rw [hp] at ha
    cases ha⟩
theorem crL {K : PySem.W.Frag} {Hd : Hp} {vs : List V} {ds : List D} (h : DpAll K Hd vs ds) : CRp K Hd (.lst ds) (.lst vs) := ⟨vs, rfl, h⟩
theorem crK0 {K : PySem.W.Frag} {Hd : Hp} : CRp K Hd (.dK []) (.dK []) := ⟨[], rfl, .nil⟩
theorem crT0 {K : PySem.W.Frag} {Hd : Hp} : CRp K Hd (.dT []) (.dT []) := ⟨[], rfl, .nil⟩
theorem we_lst (h : WDs X P es R fun ds R1 => ds.length ≤ sizeLine ∧ Q (.own (.lst ds)) R1) : WE X P (.List es pos) R Q :=
  .of (pe_lst pa_m) fun F σ Hd H w => h.use w fun Hd1 R1 ds vs H1 e1 w1 r1 q1 => ⟨by rw [dpAllLen r1]; exact q1.1, fun p hp =>
    .same e1 (.here (w1.allocH hp) (ownNew w1 hp (crL r1)) q1.2)⟩
theorem we_dict0 (q : Q (.own (.dK [])) R) : WE X P (.Dict [] [] pos) R Q := .of pe_dnewK fun F σ Hd H w p hp => .here (w.allocH hp) (ownNew w hp crK0) q
theorem we_dictT0 (q : Q (.own (.dT [])) R) : WE X P (.Dict [] [] pos) R Q := .of pe_dnewT fun F σ Hd H w p hp => .here (w.allocH hp) (ownNew w hp crT0) q

/-! subscripts -/
def vS (R : DS) (sv : SV) : Option (List D) := (vL R sv).or (vT sv)
theorem Rp.seq {K : PySem.W.Frag} {F : Fr} {σ : L2.St} {Hd H : Hp} {sv : SV} {v : V} {ds : List D} (w : Wd K F P R σ Hd H) (r : Rp K F R σ Hd H sv v) (h : vS R sv = some ds) :
    ∃ a vs, v = .ref a ∧ (SqL K H a vs ∨ SqT K H a vs) ∧ DpAll K Hd vs ds := by
  unfold vS at h
  cases hl : vL R sv with
  | some xs =>
    rw [hl] at h
    cases h
    obtain ⟨a, vs, h1, h2, h3⟩ := Rp.list w r hl
    exact ⟨a, vs, h1, .inl h2, h3⟩
  | none =>
    rw [hl] at h
    obtain ⟨a, vs, h1, _, h2, h3⟩ := Rp.tup w r h
    exact ⟨a, vs, h1, .inr h2, h3⟩
theorem atD {K : PySem.W.Frag} {H : Hp} {vs : List V} {ds : List D} {i : Int} {z : D} (h : DpAll K H vs ds) (e : atI ds i = some z) : ∃ v, atI vs i = some v ∧ Dp K H v z := by
  unfold atI at e ⊢
  rw [dpAllLen h]
  cases q : ixN ds.length i with
  | none =>
    rw [q] at e
    cases e
  | some j =>
    rw [q] at e
    exact dpAllGet h e
theorem we_ix (h : WE X P a R fun x R1 => stb x fun x => WE X P b R1 fun y R2 => (∃ d, vD R2 x = some d) ∧ asI y fun i => ∃ ds z, vS R2 x = some ds ∧ atI ds i = some z ∧ Q (.d z) R2)
    (hs : PlainIx b := by exact fun _ _ => rfl) : WE X P (.Subscript a b pos) R Q :=
  .fit (pe_ix ix_seq pe_m pe_m hs) (two h fun F σ Hd H x y R2 v u Z w r1 r2 g k => by
    obtain ⟨i, rfl, ds, z, h1, h2, q⟩ := g.elim
    cases (show Dp _ _ u (.int i) from r2)
    obtain ⟨p, vs, rfl, hh, hv⟩ := Rp.seq w r1 h1
    obtain ⟨z', e1, e2⟩ := atD hv h2
    have q' := k _ _ (.here w (show Rp _ _ _ _ _ _ (.d z) z' from e2) q)
    rcases hh with hh | hh
    · exact .inl ⟨p, vs, i, z', rfl, rfl, hh, e1, q'⟩
    · exact .inr (.inl ⟨p, vs, i, z', rfl, rfl, hh, e1, q'⟩))
/-- a slice's parts -/
structure WO (X : Cx) (P : List Nat) (o : Option Expr) (R : DS) (Q : Option Int → DS → Prop) : Prop where
  ex : ∃ t, PO X o t ∧ ∀ F σ Hd H, Wd X.K F P R σ Hd H → ∀ Z : Option Int → Hp → Prop, (∀ Hd' R' i H', Same Hd Hd' → Wd X.K F P R' σ Hd' H' → Q i R' → Z i H') → t σ H Z
theorem wo_none {Q : Option Int → DS → Prop} (q : Q none R) : WO X P none R Q := ⟨_, po_none, fun F σ Hd H w Z hZ => hZ Hd R none H (Same.refl _) w q⟩
theorem wo_some {Q : Option Int → DS → Prop} (h : WE X P e R fun x R1 => asI x fun i => Q (some i) R1) : WO X P (some e) R Q :=
  ⟨_, po_some pe_m, fun F σ Hd H w Z hZ => h.use w fun Hd1 R1 x v H1 e1 w1 r1 q1 => by
    obtain ⟨i, rfl, q⟩ := q1.elim
    cases (show Dp _ _ v (.int i) from r1)
    exact ⟨i, rfl, hZ _ _ _ _ e1 w1 q⟩⟩
def cutD (xs : List D) (lo hi : Option Int) : List D := (xs.drop (HT.sIx xs.length 0 lo)).take (HT.sIx xs.length xs.length hi - HT.sIx xs.length 0 lo)
theorem cut_dp {K : PySem.W.Frag} {H : Hp} {vs : List V} {ds : List D} (h : DpAll K H vs ds) (lo hi : Option Int) : DpAll K H (cutV vs lo hi) (cutD ds lo hi) := by
  unfold cutV cutD
  rw [dpAllLen h]
  exact dpAllTake _ (dpAllDrop _ h)
/-- the widest reading of a part -/
def TOm (X : Cx) (o : Option Expr) : TO := fun σ H Q => ∀ pins s, Inv X pins σ H s → wpAny (model X.prog X.w) X.A (evalPart o X.env) (fun u s' => ∃ o H', Inv X pins σ H' s' ∧ IsPart u o ∧ Q o H') X.xe s
theorem po_m {o : Option Expr} : PO X o (TOm X o) := ⟨fun pins s _ _ _ I h => h pins s I⟩
theorem WO.use {o : Option Expr} {Q : Option Int → DS → Prop} (h : WO X P o R Q) {F : Fr} {σ : L2.St} {Hd H : Hp} (w : Wd X.K F P R σ Hd H) {Z : Option Int → Hp → Prop}
    (k : ∀ Hd' R' i H', Same Hd Hd' → Wd X.K F P R' σ Hd' H' → Q i R' → Z i H') : TOm X o σ H Z := by
  obtain ⟨t, p, f⟩ := h.ex
  exact fun pins s I => p.run pins s σ H Z I (f F σ Hd H w Z k)
theorem we_sl {lo hi : Option Expr} {p2 : Pos} (h : WE X P a R fun x R1 => stb x fun x => WO X P lo R1 fun l R2 => WO X P hi R2 fun u R3 => ∃ ds, vL R3 x = some ds ∧ Q (.own (.lst (cutD ds l u))) R3) :
    WE X P (.Subscript a (.Slice lo hi none p2) pos) R Q :=
  .of (pe_slice sl_list pe_m po_m po_m) fun F σ Hd H w => h.stb.use w fun Hd1 R1 x v H1 e1 w1 r1 q1 => q1.2.use w1 fun Hd2 R2 l H2 e2 w2 q2 => q2.use w2 fun Hd3 R3 u H3 e3 w3 q3 => by
    obtain ⟨ds, h1, q⟩ := q3
    have hv : vD R3 x = some (.list ds) := by
      unfold vL at h1
      unfold vD
      split at h1 <;> first | (cases h1; rfl) | skip
      · split at h1
        · rename_i e; cases h1; simp only [e]
        · cases h1
      · cases h1
    obtain ⟨p, vs, rfl, hl, hc⟩ := Rp.list w3 (Rp.on q1.1 r1 (e2.trans e3) hv) h1
    exact ⟨p, vs, rfl, hl, fun z hz => .same ((e1.trans e2).trans e3) (.here (w3.allocH hz) (ownNew w3 hz (crL (cut_dp hc l u))) q)⟩
theorem we_slT {lo hi : Option Expr} {p2 : Pos} (h : WE X P a R fun x R1 => ∃ ds, x = .d (.tuple ds) ∧ WO X P lo R1 fun l R2 => WO X P hi R2 fun u R3 => Q (.d (.tuple (cutD ds l u))) R3) :
    WE X P (.Subscript a (.Slice lo hi none p2) pos) R Q :=
  .of (pe_slice sl_tupA pe_m po_m po_m) fun F σ Hd H w => h.use w fun Hd1 R1 x v H1 e1 w1 r1 q1 => by
    obtain ⟨ds, rfl, q1⟩ := q1
    exact q1.use w1 fun Hd2 R2 l H2 e2 w2 q2 => q2.use w2 fun Hd3 R3 u H3 e3 w3 q => by
      obtain ⟨p, vs, rfl, _, hl, hc⟩ := Rp.tup (sv := .d (.tuple ds)) w3 (show Rp _ _ _ _ _ _ (.d (.tuple ds)) v from dpMono (e2.trans e3) r1) rfl
      refine ⟨p, vs, rfl, hl, fun hw => ?_, fun _ z hz => ?_⟩
      · have e : cutD ds l u = ds := by
          unfold cutD
          rw [dpAllLen hc] at hw
          rw [hw.1, hw.2, List.drop_zero, Nat.sub_zero, List.take_length]
        rw [e] at q
        exact .same ((e1.trans e2).trans e3) (.here w3 (show Rp _ _ _ _ _ _ (.d (.tuple ds)) _ from dpMono (e2.trans e3) r1) q)
      · obtain ⟨w4, s4⟩ := w3.allocD (o := .tup (cutV vs l u)) hz
        exact .same (((e1.trans e2).trans e3).trans s4) (.here w4 (show Rp _ _ _ _ _ _ (.d (.tuple (cutD ds l u))) _ from Dp.tup (SqT.of upd_same) (dpAllMono s4 (cut_dp hc l u))) q)

/-! built-ins of one argument -/
theorem call1 {x : Str} {p : Pos} {id : String} {r : List V → Hp → VK → Prop} (hc : CallR X (.builtin id) r) (hg : Gl X x) (hm : X.mg x = none) (hv : bootBuiltins x = some (.builtin id)) {G : SV → DS → Prop}
    (h : WE X P a R G) (hr : ∀ F σ Hd H sv R1 v (Z : VK), Wd X.K F P R1 σ Hd H → Rp X.K F R1 σ Hd H sv v → G sv R1 → (∀ v H', Post X.K F P σ Hd Q v H' → Z v H') → r [v] H Z)
    (hn : x ≠ "__name__" := by decide) (hdb : (x == ("__debug__" : Str)) = false := by decide)
    (he : starEach [a] X.env = (false, eval a X.env) :: starEach [] X.env := by rfl) (hpl : (backTo pos (starEach [] X.env)).any (·.1) = false := by rfl) : WE X P (.Call (.Name x p) [a] [] pos) R Q :=
  .of (pe_callB hc hg hm hv (pa_cons pe_m pa_nil he) hn hdb he hpl) fun F σ Hd H w => h.use w fun Hd1 R1 sv v H1 e1 w1 r1 q1 => hr F σ Hd1 H1 sv R1 v _ w1 r1 q1 fun _ _ h => h.same e1
theorem callT1 {x : Str} {p : Pos} {id : String} {r : List V → Hp → VK → Prop} (hc : CallR X (.type id) r) (hg : Gl X x) (hm : X.mg x = none) (hv : bootBuiltins x = some (.type id)) {G : SV → DS → Prop}
    (h : WE X P a R G) (hr : ∀ F σ Hd H sv R1 v (Z : VK), Wd X.K F P R1 σ Hd H → Rp X.K F R1 σ Hd H sv v → G sv R1 → (∀ v H', Post X.K F P σ Hd Q v H' → Z v H') → r [v] H Z)
    (hn : x ≠ "__name__" := by decide) (hdb : (x == ("__debug__" : Str)) = false := by decide)
    (he : starEach [a] X.env = (false, eval a X.env) :: starEach [] X.env := by rfl) (hpl : (backTo pos (starEach [] X.env)).any (·.1) = false := by rfl) : WE X P (.Call (.Name x p) [a] [] pos) R Q :=
  .of (pe_callTy hc hg hm hv (pa_cons pe_m pa_nil he) hn hdb he hpl) fun F σ Hd H w => h.use w fun Hd1 R1 sv v H1 e1 w1 r1 q1 => hr F σ Hd1 H1 sv R1 v _ w1 r1 q1 fun _ _ h => h.same e1
theorem we_len {p : Pos} (hm : X.mg "len" = none) (hg : Gl X "len") (h : WE X P a R fun x R1 => ∃ ds, vS R1 x = some ds ∧ Q (.d (.int (ds.length : Int))) R1)
    (he : starEach [a] X.env = (false, eval a X.env) :: starEach [] X.env := by rfl) (hpl : (backTo pos (starEach [] X.env)).any (·.1) = false := by rfl) : WE X P (.Call (.Name "len" p) [a] [] pos) R Q :=
  call1 call_len_seq hg hm PySem.boot_len h (fun F σ Hd H sv R1 v Z w r g k => by
    obtain ⟨ds, h1, q⟩ := g
    obtain ⟨a, vs, rfl, hh, hv⟩ := Rp.seq w r h1
    exact ⟨a, vs, rfl, hh, k _ _ (.here w (show Rp _ _ _ _ _ _ (.d (.int (ds.length : Int))) _ by rw [dpAllLen hv]; exact .int _) q)⟩) (he := he) (hpl := hpl)
theorem we_any {p : Pos} (hc : X.calm = true) (hm : X.mg "any" = none) (hg : Gl X "any") (h : WE X P a R fun x R1 => ∃ bs : List Bool, vL R1 x = some (bs.map PyData.bool) ∧ Q (.d (.bool (bs.any id))) R1)
    (he : starEach [a] X.env = (false, eval a X.env) :: starEach [] X.env := by rfl) (hpl : (backTo pos (starEach [] X.env)).any (·.1) = false := by rfl) : WE X P (.Call (.Name "any" p) [a] [] pos) R Q :=
  call1 (cr_any hc) hg hm (by decide +kernel) h (fun F σ Hd H sv R1 v Z w r g k => by
    obtain ⟨bs, h1, q⟩ := g
    obtain ⟨a, vs, rfl, hh, hv⟩ := Rp.list w r h1
    cases dpAllBls hv
    exact ⟨a, bs, rfl, hh, k _ _ (.here w (show Rp _ _ _ _ _ _ (.d (.bool (bs.any id))) _ from .bl _) q)⟩) (he := he) (hpl := hpl)
theorem we_all {p : Pos} (hc : X.calm = true) (hm : X.mg "all" = none) (hg : Gl X "all") (h : WE X P a R fun x R1 => ∃ bs : List Bool, vL R1 x = some (bs.map PyData.bool) ∧ Q (.d (.bool (bs.all id))) R1)
    (he : starEach [a] X.env = (false, eval a X.env) :: starEach [] X.env := by rfl) (hpl : (backTo pos (starEach [] X.env)).any (·.1) = false := by rfl) : WE X P (.Call (.Name "all" p) [a] [] pos) R Q :=
  call1 (cr_all hc) hg hm (by decide +kernel) h (fun F σ Hd H sv R1 v Z w r g k => by
    obtain ⟨bs, h1, q⟩ := g
    obtain ⟨a, vs, rfl, hh, hv⟩ := Rp.list w r h1
    cases dpAllBls hv
    exact ⟨a, bs, rfl, hh, k _ _ (.here w (show Rp _ _ _ _ _ _ (.d (.bool (bs.all id))) _ from .bl _) q)⟩) (he := he) (hpl := hpl)
theorem we_list {p : Pos} (hm : X.mg "list" = none) (hg : Gl X "list") (h : WE X P a R fun x R1 => ∃ ds, vS R1 x = some ds ∧ Q (.own (.lst ds)) R1)
    (he : starEach [a] X.env = (false, eval a X.env) :: starEach [] X.env := by rfl) (hpl : (backTo pos (starEach [] X.env)).any (·.1) = false := by rfl) : WE X P (.Call (.Name "list" p) [a] [] pos) R Q :=
  callT1 call_list_of hg hm (by decide +kernel) h (fun F σ Hd H sv R1 v Z w r g k => by
    obtain ⟨ds, h1, q⟩ := g
    obtain ⟨a, vs, rfl, hh, hv⟩ := Rp.seq w r h1
    exact ⟨a, vs, rfl, hh, fun l hl => k _ _ (.here (w.allocH hl) (ownNew w hl (crL hv)) q)⟩) (he := he) (hpl := hpl)
theorem we_tupleL {p : Pos} (hm : X.mg "tuple" = none) (hg : Gl X "tuple") (h : WE X P a R fun x R1 => ∃ ds, vL R1 x = some ds ∧ Q (.d (.tuple ds)) R1)
    (he : starEach [a] X.env = (false, eval a X.env) :: starEach [] X.env := by rfl) (hpl : (backTo pos (starEach [] X.env)).any (·.1) = false := by rfl) : WE X P (.Call (.Name "tuple" p) [a] [] pos) R Q :=
  callT1 call_tuple_of hg hm (by decide +kernel) h (fun F σ Hd H sv R1 v Z w r g k => by
    obtain ⟨ds, h1, q⟩ := g
    obtain ⟨a, vs, rfl, hh, hv⟩ := Rp.list w r h1
    exact ⟨a, vs, rfl, .inl ⟨hh, fun l hl => by
      obtain ⟨w2, s2⟩ := w.allocD (o := .tup vs) hl
      exact k _ _ (.same s2 (.here w2 (show Rp _ _ _ _ _ _ (.d (.tuple ds)) _ from Dp.tup (SqT.of upd_same) (dpAllMono s2 hv)) q))⟩⟩) (he := he) (hpl := hpl)
theorem we_sortedI {p : Pos} (hm : X.mg "sorted" = none) (hg : Gl X "sorted") (h : WE X P a R fun x R1 => ∃ ns : List Int, vL R1 x = some (ns.map PyData.int) ∧ ∀ ns' : List Int, ns'.Perm ns → ns'.Pairwise (· ≤ ·) → Q (.own (.lst (ns'.map PyData.int))) R1)
    (he : starEach [a] X.env = (false, eval a X.env) :: starEach [] X.env := by rfl) (hpl : (backTo pos (starEach [] X.env)).any (·.1) = false := by rfl) : WE X P (.Call (.Name "sorted" p) [a] [] pos) R Q :=
  call1 cr_sortedI hg hm (by decide +kernel) h (fun F σ Hd H sv R1 v Z w r g k => by
    obtain ⟨ns, h1, q⟩ := g
    obtain ⟨a, vs, rfl, hh, hv⟩ := Rp.list w r h1
    cases dpAllInts hv
    exact ⟨a, ns, rfl, hh, fun ns' l p1 p2 hl => k _ _ (.here (w.allocH hl) (ownNew w hl (crL (dpAllOfInts ns'))) (q ns' p1 p2))⟩) (he := he) (hpl := hpl)
theorem keys_of {G : (Key × D) → (Key × V) → Prop} (hG : ∀ p q, G p q → p.1 = q.1) : ∀ {kvs : List (Key × D)} {ws : List (Key × V)}, Paired G kvs ws → ws.map (·.1) = kvs.map (·.1)
  | _, _, .nil => rfl
  | _, _, .cons h t => by rw [List.map_cons, List.map_cons, keys_of hG t, hG _ _ h]
theorem we_sortedD {p : Pos} (hc : X.calm = true) (hm : X.mg "sorted" = none) (hg : Gl X "sorted") (h : WE X P a R fun x R1 => ∃ (j : Nat) (kvs : List (Key × D)) (ks : List Int), x = .loc j ∧ R1[j]? = some (.own (.dK kvs)) ∧ kvs.map (·.1) = ks.map Sum.inl ∧ ks.length < 64 ∧
      ∀ ns' : List Int, ns'.Perm ks → ns'.Pairwise (· ≤ ·) → Q (.own (.lst (ns'.map PyData.int))) R1)
    (he : starEach [a] X.env = (false, eval a X.env) :: starEach [] X.env := by rfl) (hpl : (backTo pos (starEach [] X.env)).any (·.1) = false := by rfl) : WE X P (.Call (.Name "sorted" p) [a] [] pos) R Q :=
  call1 (call_sortedDI hc) hg hm (by decide +kernel) h (fun F σ Hd H sv R1 v Z w r g k => by
    obtain ⟨j, kvs, ks, rfl, hR, hk, hl, q⟩ := g
    obtain ⟨d, o, s1, hd, ⟨ws, ho, hcv⟩, _⟩ := w.own j _ hR
    subst ho
    have s2 := r.1
    rw [s1] at s2
    cases s2
    exact ⟨d, ws, ks, rfl, .inl hd, (keys_of (fun _ _ h => h.1) hcv).trans hk, hl, fun ns' l p1 p2 hl => k _ _ (.here (w.allocH hl) (ownNew w hl (crL (dpAllOfInts ns'))) (q ns' p1 p2))⟩) (he := he) (hpl := hpl)
theorem we_intB {p : Pos} (hm : X.mg "int" = none) (hg : Gl X "int") (h : WE X P a R fun x R1 => asB x fun c => Q (.d (.int (if c then 1 else 0))) R1)
    (he : starEach [a] X.env = (false, eval a X.env) :: starEach [] X.env := by rfl) (hpl : (backTo pos (starEach [] X.env)).any (·.1) = false := by rfl) : WE X P (.Call (.Name "int" p) [a] [] pos) R Q :=
  callT1 call_int1 hg hm (by decide +kernel) h (fun F σ Hd H sv R1 v Z w r g k => by
    obtain ⟨c, rfl, q⟩ := g.elim
    cases (show Dp _ _ v (.bool c) from r)
    exact .inr ⟨c, rfl, k _ _ (.here w (show Rp _ _ _ _ _ _ (.d (.int (if c then 1 else 0))) _ from .int _) q)⟩) (he := he) (hpl := hpl)
theorem we_max2 {p : Pos} (hc : X.calm = true) (hm : X.mg "max" = none) (hg : Gl X "max") (h : WE X P a R fun x R1 => asI x fun i => WE X P b R1 fun y R2 => asI y fun j => Q (.d (.int (if j > i then j else i))) R2)
    (he : starEach [a, b] X.env = (false, eval a X.env) :: starEach [b] X.env := by rfl) (he2 : starEach [b] X.env = (false, eval b X.env) :: starEach [] X.env := by rfl) (hpl : (backTo pos (starEach [b] X.env)).any (·.1) = false := by rfl) : WE X P (.Call (.Name "max" p) [a, b] [] pos) R Q :=
  .of (pe_callB (call_max2 hc) hg hm (by decide +kernel) (pa_cons pe_m (pa_cons pe_m pa_nil he2) he) (by decide) (by decide) he hpl) fun F σ Hd H w => h.use w fun Hd1 R1 x v H1 e1 w1 r1 q1 => by
    obtain ⟨i, rfl, q1⟩ := q1.elim
    cases (show Dp _ _ v (.int i) from r1)
    exact q1.use w1 fun Hd2 R2 y u H2 e2 w2 r2 q2 => by
      obtain ⟨j, rfl, q⟩ := q2.elim
      cases (show Dp _ _ u (.int j) from r2)
      exact ⟨i, j, rfl, .same (e1.trans e2) (.here w2 (show Rp _ _ _ _ _ _ (.d (.int (if j > i then j else i))) _ from .int _) q)⟩
/-! repr -/
theorem call_reprD (hg : X.A.guards = some []) (hu : X.A.units + 100 < cLine) : CallR X (.builtin "repr") (fun xs H Q => ∃ v d, xs = [v] ∧ Dp X.K H v d ∧ isDisplay d = true ∧ d.showable = true ∧ d.hasDict = false ∧ d.depth ≤ 64 ∧ d.shown.length ≤ sizeLine ∧ Q (.str d.shown) H) := by
  intro pins s σ H vs us Q I rs h
  obtain ⟨v, d, rfl, hd, hdis, hsh, hnd, hdep, hsz, q⟩ := h
  obtain ⟨u, rfl, ru⟩ := Vals.one rs
  obtain ⟨as, r1⟩ := Dp.reads I d v u hd ru
  obtain ⟨a, rfl⟩ := isRef_of_reads r1 hdis
  exact repr_of_reads' r1 hsh (PyData.noDict_hsm hnd) hg (by omega) (fun _ _ e => e) (fun h' u tk hk => ⟨.str d.shown, H, I.kept (t' := tk) hk, ⟨u, rfl⟩, q⟩) hsz
theorem we_repr {p : Pos} (hgd : X.A.guards = some []) (hu : X.A.units + 100 < cLine) (hm : X.mg "repr" = none) (hg : Gl X "repr")
    (h : WE X P a R fun x R1 => ∃ d, vD R1 x = some d ∧ isDisplay d = true ∧ d.showable = true ∧ d.hasDict = false ∧ d.depth ≤ 64 ∧ d.shown.length ≤ sizeLine ∧ Q (.d (.str d.shown)) R1)
    (he : starEach [a] X.env = (false, eval a X.env) :: starEach [] X.env := by rfl) (hpl : (backTo pos (starEach [] X.env)).any (·.1) = false := by rfl) : WE X P (.Call (.Name "repr" p) [a] [] pos) R Q :=
  call1 (call_reprD hgd hu) hg hm (by decide +kernel) h (fun F σ Hd H sv R1 v Z w r g k => by
    obtain ⟨d, h1, h2, h3, h4, h5, h6, q⟩ := g
    exact ⟨v, d, rfl, Rp.dat w r h1, h2, h3, h4, h5, h6, k _ _ (.here w (show Rp _ _ _ _ _ _ (.d (.str d.shown)) _ from .str _) q)⟩) (he := he) (hpl := hpl)
end
end Dl
namespace Dl
open PySem PySem.Spec PyProof.Rows L2
/-! targets -/
def TGm (X : Cx) (tg : Expr) : TG := fun v σ H Q => ∀ pins s u, Inv X pins σ H s → RelV v u → wpAny (model X.prog X.w) X.A (assign tg X.env u) (fun _ s' => ∃ σ' H', Inv X pins σ' H' s' ∧ Q σ' H') X.xe s
theorem pg_m {X : Cx} {tg : Expr} : PG X tg (TGm X tg) := ⟨fun pins s _ _ _ u _ I r h => h pins s u I r⟩
theorem TGm.of {X : Cx} {tg : Expr} {t : TG} {v : V} {σ : L2.St} {H : Hp} {Q : L2.St → Hp → Prop} (p : PG X tg t) (h : t v σ H Q) : TGm X tg v σ H Q := fun pins s u I r => p.run pins s σ H v u Q I r h
theorem TGm.mono {X : Cx} {tg : Expr} {v : V} {σ : L2.St} {H : Hp} {Q Q' : L2.St → Hp → Prop} (h : TGm X tg v σ H Q) (k : ∀ σ' H', Q σ' H' → Q' σ' H') : TGm X tg v σ H Q' := fun pins s u I r =>
  thn (h pins s u I r) fun _ _ ⟨σ', H', J, q⟩ => ⟨σ', H', J, k _ _ q⟩
/-- a target gets data; js: the slots that it stores -/
structure WG (X : Cx) (P : List Nat) (tg : Expr) (js : List Nat) (R : DS) (x : D) (Q : DS → Prop) : Prop where
  run : ∀ F σ Hd H v, Wd X.K F P R σ Hd H → Dp X.K Hd v x → TGm X tg v σ H fun σ' H' => ∃ Hd' R', Same Hd Hd' ∧ Wd X.K F P R' σ' Hd' H' ∧ (∀ vs : List Nat, (∀ j ∈ js, j ∈ vs) → wipe σ' vs = wipe σ vs) ∧ Q R'
structure WGs (X : Cx) (P : List Nat) (tgs : List Expr) (js : List Nat) (R : DS) (xs : List D) (Q : DS → Prop) : Prop where
  ex : ∃ t, PGs X tgs t ∧ ∀ F σ Hd H vs, Wd X.K F P R σ Hd H → DpAll X.K Hd vs xs → ∀ Z : L2.St → Hp → Prop, (∀ Hd' R' σ' H', Same Hd Hd' → Wd X.K F P R' σ' Hd' H' → (∀ ws : List Nat, (∀ j ∈ js, j ∈ ws) → wipe σ' ws = wipe σ ws) → Q R' → Z σ' H') → t vs σ H Z
theorem set_set_ne {α : Type} {l : List α} {i j : Nat} {x y : α} (h : i ≠ j) : (l.set i x).set j y = (l.set j y).set i x := List.set_comm x y h
theorem wipe_set_in {σ : L2.St} {i : Nat} {x : Option V} : ∀ {vs : List Nat}, i ∈ vs → wipe (σ.set i x) vs = wipe σ vs
  | [], h => by cases h
  | v :: vs, h => by
    unfold wipe
    by_cases hi : i ∈ vs
    · rw [wipe_set_in hi]
    · have e : v = i := by
        rcases List.mem_cons.mp h with e | e
        · exact e.symm
        · exact absurd e hi
      subst e
      have out : ∀ (ws : List Nat) (τ : L2.St), v ∉ ws → wipe (τ.set v x) ws = (wipe τ ws).set v x := by
        intro ws
        induction ws with
        | nil => intro τ _; rfl
        | cons a ws ih =>
          intro τ hw
          have h1 : v ≠ a := fun z => hw (z ▸ List.mem_cons_self)
          unfold wipe
          rw [ih τ (fun z => hw (List.mem_cons_of_mem _ z)), List.set_comm _ _ h1]
      rw [out vs σ hi, List.set_set]
section
variable {X : Cx} {P : List Nat} {R : DS} {a b c e tg : Expr} {es : List Expr} {pos : Pos}
theorem wg_name {i : Nat} {x : Str} {d : D} {Q : DS → Prop} (hN : X.N.Nodup) (hi : X.N[i]? = some x) (hx : Loc X.env.scope x) (hP : i ∉ P) (q : Q (R.set i (.d d)))
    (hf : X.fn x = true ∨ X.env.scope.names.lookup x = some .local := by first | exact .inl rfl | exact .inr rfl | assumption) : WG X P (.Name x pos) [i] R d Q :=
  ⟨fun F σ Hd H v w r => TGm.of (pg_name hN hi hx hf) ⟨Hd, _, Same.refl _, w.setD hP r, fun vs hv => wipe_set_in (hv i List.mem_cons_self), q⟩⟩
theorem wgs_nil {Q : DS → Prop} (q : Q R) : WGs X P [] [] R [] Q := ⟨_, pgs_nil, fun F σ Hd H vs w r Z hZ => by
  cases r
  exact ⟨rfl, hZ Hd R σ H (Same.refl _) w (fun _ _ => rfl) q⟩⟩
theorem wgs_cons {js ks : List Nat} {x : D} {xs : List D} {Q : DS → Prop} (h : WG X P e js R x fun R1 => WGs X P es ks R1 xs Q)
    (hs : (assignEach (e :: es) X.env).map (·.2) = assign e X.env :: (assignEach es X.env).map (·.2) := by rfl) : WGs X P (e :: es) (js ++ ks) R (x :: xs) Q := by
  -- the readings of the rest, whatever was stored ahead
  refine ⟨gCons (TGm X e) (fun vs σ H Z => ∀ pins s us, Inv X pins σ H s → Vals vs us → wpAny (model X.prog X.w) X.A (assignInOrder ((assignEach es X.env).map (·.2)) us) (fun _ s' => ∃ σ' H', Inv X pins σ' H' s' ∧ Z σ' H') X.xe s),
    pgs_cons pg_m ⟨fun pins s σ H vs us Z I r h => h pins s us I r⟩ hs, fun F σ Hd H vs w r Z hZ => ?_⟩
  cases r with
  | cons r1 r2 =>
    refine ⟨_, _, rfl, (h.run F σ Hd H _ w r1).mono fun σ1 H1 h1 => ?_⟩
    obtain ⟨Hd1, R1, e1, w1, wp1, q1⟩ := h1
    obtain ⟨t, p, f⟩ := q1.ex
    intro pins s us I rv
    refine p.run pins s σ1 H1 _ us Z I rv (f F σ1 Hd1 H1 _ w1 (dpAllMono e1 r2) Z fun Hd2 R2 σ2 H2 e2 w2 wp2 q2 => hZ Hd2 R2 σ2 H2 (e1.trans e2) w2 (fun ws hw => ?_) q2)
    rw [wp2 ws fun j hj => hw j (List.mem_append_right _ hj), wp1 ws fun j hj => hw j (List.mem_append_left _ hj)]
theorem wg_tup {k : Nat} {js : List Nat} {xs : List D} {n : Nat} {Q : DS → Prop} (hc : X.calm = true) (h : WGs X P es js R xs Q) (hl : xs.length = n)
    (hn : (assignEach es X.env).length = n := by rfl) (hst : (assignEach es X.env).findIdx? (·.1) = none := by rfl) : WG X P (.Tuple es k pos) js R (.tuple xs) Q := by
  obtain ⟨t, p, f⟩ := h.ex
  refine ⟨fun F σ Hd H v w r => TGm.of (pg_tup hc p hn hst) ?_⟩
  cases r with
  | tup h1 h2 => exact ⟨_, _, rfl, sameT w.dat h1, (dpAllLen h2).trans hl, f F σ Hd H _ w h2 _ fun Hd' R' σ' H' e' w' wp q => ⟨Hd', R', e', w', wp, q⟩⟩

/-! statements -/
variable {D' : DEnds} {st : Stmt} {sts rest : List Stmt}
theorem up_here {K : PySem.W.Frag} {F : Fr} {Hd : Hp} {q : DS → Prop} {σ : L2.St} {H : Hp} (w : Wd K F P R σ Hd H) (h : q R) : up K F P Hd q σ H := ⟨Hd, R, Same.refl _, w, h⟩
theorem wss_nil (q : D'.nx R) : WSs X P [] R D' := .of pss_nil fun F σ Hd H w => up_here w q
theorem wss_one (h : WS X P st R D') : WSs X P [st] R D' := .of (pss_one ps_m) fun F σ Hd H w => h.run F σ Hd H w
theorem wss_cons (h : WS X P st R { D' with nx := fun R1 => WSs X P rest R1 D' }) : WSs X P (st :: rest) R D' :=
  .of (pss_cons ps_m pss_m) fun F σ Hd H w => (h.run F σ Hd H w).mono ⟨fun σ' H' h => by
    obtain ⟨Hd1, R1, e1, w1, q1⟩ := h
    exact (q1.run F σ' Hd1 H' w1).mono (upD_le e1), fun _ _ h => h, fun _ _ h => h, fun _ _ h => h⟩
/-- a name's own thing becomes data, a name is forgotten: anywhere -/
theorem wss_fz (i : Nat) {ds : List D} (hi : R[i]? = some (.own (.lst ds))) (hP : i ∉ P) (h : WSs X P sts (R.set i (.d (.list ds))) D') : WSs X P sts R D' :=
  ⟨fun F σ Hd H w => by
    obtain ⟨Hd1, v, _, e1, w1, _⟩ := w.fz hi hP
    exact (h.run F σ Hd1 H w1).mono (upD_le e1)⟩
theorem ws_pass (q : D'.nx R) : WS X P (.Pass pos) R D' := .of ps_pass fun F σ Hd H w => up_here w q
theorem ws_break (q : D'.bk R) : WS X P (.Break pos) R D' := .of ps_break fun F σ Hd H w => up_here w q
theorem ws_continue (q : D'.ct R) : WS X P (.Continue pos) R D' := .of ps_continue fun F σ Hd H w => up_here w q
theorem ws_doc {x : Str} {j : _} {pos' : Pos} (q : D'.nx R) : WS X P (.Expr (.Constant (.str x) j pos) pos') R D' := .of ps_doc fun F σ Hd H w => up_here w q
theorem ws_expr (h : WE X P e R fun _ R1 => D'.nx R1) (hs : swapsWith e none pos.line X.env = pure false := by rfl) : WS X P (.Expr e pos) R D' :=
  .of (ps_expr pe_m hs) fun F σ Hd H w => h.use w fun Hd1 R1 sv v H1 e1 w1 r1 q1 => ⟨Hd1, R1, e1, w1, q1⟩
/-- what goes into a name -/
def put (i : Nat) (R : DS) (k : DS → Prop) : SV → Prop
  | .d x => k (R.set i (.d x))
  | .own m => k (R.set i (.own m))
  | _ => False
theorem put_ok {K : PySem.W.Frag} {F : Fr} {Hd H : Hp} {σ : L2.St} {i : Nat} {sv : SV} {v : V} {k : DS → Prop} (w : Wd K F P R σ Hd H) (r : Rp K F R σ Hd H sv v) (hP : i ∉ P) (h : put i R k sv) : up K F P Hd k (σ.set i (some v)) H := by
  unfold put at h
  split at h
  · exact ⟨Hd, _, Same.refl _, w.setD hP r, h⟩
  · obtain ⟨a, o, rfl, ha, hc, hd, hf, hn⟩ := r
    exact ⟨Hd, _, Same.refl _, w.setOwn hP ha hc hd hf hn, h⟩
  · cases h
theorem ws_set {i : Nat} {x : Str} {pos' : Pos} (hN : X.N.Nodup) (hi : X.N[i]? = some x) (hx : Loc X.env.scope x) (hP : i ∉ P) (h : WE X P e R fun sv R1 => put i R1 D'.nx sv)
    (hs : swapsWith e (some (.Name x pos')) pos.line X.env = pure false := by rfl) (hf : X.fn x = true ∨ X.env.scope.names.lookup x = some .local := by first | exact .inl rfl | exact .inr rfl | assumption) : WS X P (.Assign [.Name x pos'] e pos) R D' :=
  .of (ps_set hN hi hx pe_m hs hf) fun F σ Hd H w => h.use w fun Hd1 R1 sv v H1 e1 w1 r1 q1 => up_same e1 (put_ok w1 r1 hP q1)
/-- a, b = e -/
theorem ws_unp {js : List Nat} (h : WE X P e R fun sv R1 => asD sv fun x => WG X P tg js R1 x D'.nx) (hs : swapsWithSole [tg] e pos.line X.env = pure false := by rfl) (hw : swappedStores [tg] e X.env = pure none := by rfl)
    (h1 : (assignEach [tg] X.env).map (·.2) = [assign tg X.env] := by rfl) : WS X P (.Assign [tg] e pos) R D' :=
  .of (ps_asg pe_m pg_m hs hw h1) fun F σ Hd H w => h.fzD.use w fun Hd1 R1 sv v H1 e1 w1 r1 q1 => by
    obtain ⟨x, rfl, q1⟩ := q1
    exact (q1.run F σ Hd1 H1 v w1 r1).mono fun σ' H' ⟨Hd', R', e', w', _, q⟩ => ⟨Hd', R', e1.trans e', w', q⟩
theorem ws_if {A B : List Stmt} (h : WT X P c R fun k R1 => (k = true → WSs X P A R1 D') ∧ (k = false → WSs X P B R1 D')) : WS X P (.If c A B pos) R D' :=
  .of (ps_if pt_m pss_m pss_m) fun F σ Hd H w => h.use w fun Hd1 R1 k H1 e1 w1 q1 => by
    cases k with
    | true => exact iteT (((q1.1 rfl).run F σ Hd1 H1 w1).mono (upD_le e1))
    | false => exact iteF (((q1.2 rfl).run F σ Hd1 H1 w1).mono (upD_le e1))
/-- what is handed back -/
def ret (P : List Nat) (R : DS) (k : SV → DS → Prop) : SV → Prop
  | .d x => k (.d x) R
  | .own m => k (.own m) R
  | .loc i => i ∉ P ∧ ∃ m, R[i]? = some (.own m) ∧ k (.own m) R
  | .no => False
theorem ws_ret (h : WE X P e R fun sv R1 => ret P R1 D'.rt sv) : WS X P (.Return (some e) pos) R D' :=
  .of (ps_ret pe_m) fun F σ Hd H w => h.use w fun Hd1 R1 sv v H1 e1 w1 r1 q1 => by
    have pins : ∀ i, i ∈ P → ∃ m o, R1[i]? = some (SV.own m) ∧ H1 (F.al i) = some o ∧ CRp X.K Hd1 m o ∧ Hd1 (F.al i) = none := fun i hi => by
      obtain ⟨m, h1, h2⟩ := w1.pin i hi
      obtain ⟨a, o, s1, s2, s3, s4, _⟩ := w1.own i m h1
      rw [h2] at s1
      cases s1
      exact ⟨m, o, h1, s2, s3, s4⟩
    unfold ret at q1
    split at q1
    · rename_i x
      exact ⟨Hd1, R1, .d x, e1, ⟨w1.dat, w1.frm, fun a ha => (w1.prot a ha).1, pins, r1⟩, q1⟩
    · rename_i m
      obtain ⟨a, o, rfl, ha, hc, hd, hf, hn⟩ := r1
      refine ⟨Hd1, R1, .own m, e1, ⟨w1.dat, w1.frm, fun a ha => (w1.prot a ha).1, pins, a, o, rfl, ha, hc, hd, hf, fun i hi z => ?_⟩, q1⟩
      obtain ⟨n, h1, h2⟩ := w1.pin i hi
      rw [z] at h2
      exact hn i n h1 h2
    · rename_i i
      obtain ⟨hP, m, hm, q1⟩ := q1
      obtain ⟨a, o, s1, s2, s3, s4, s5⟩ := w1.own i m hm
      have s6 := r1.1
      rw [s1] at s6
      cases s6
      refine ⟨Hd1, R1, .own m, e1, ⟨w1.dat, w1.frm, fun a ha => (w1.prot a ha).1, pins, a, o, rfl, s2, s3, s4, s5, fun j hj z => ?_⟩, q1⟩
      obtain ⟨n, h1, h2⟩ := w1.pin j hj
      rw [z] at h2
      exact hP ((w1.apart i j m n a hm h1 s1 h2) ▸ hj)
    · cases q1
/-- a list that a name holds gets one more -/
theorem ws_append {o : Expr} {apos cpos : Pos} (pe : PE X (.Call (.Attribute o "append" apos) [e] [] cpos) (tBM X.K "list" rAppend (TEm X o) (tCons (TEm X e) tNil)))
    (h : WE X P o R fun x R1 => ∃ i ds0, x = .loc i ∧ R1[i]? = some (.own (.lst ds0)) ∧ WE X P e R1 fun y R2 => asD y fun d => ∃ ds, R2[i]? = some (.own (.lst ds)) ∧ ds.length < sizeLine ∧ D'.nx (R2.set i (.own (.lst (ds ++ [d])))))
    (hsw : swapsWith (.Call (.Attribute o "append" apos) [e] [] cpos) none pos.line X.env = pure false := by rfl) : WS X P (.Expr (.Call (.Attribute o "append" apos) [e] [] cpos) pos) R D' :=
  .of (ps_expr pe hsw) fun F σ Hd H w => h.use w fun Hd1 R1 sv v H1 e1 w1 r1 q1 => by
    obtain ⟨i, ds0, rfl, h0, q1⟩ := q1
    obtain ⟨a, vs, rfl, hl, _⟩ := Rp.list w1 r1 (show vL R1 (.loc i) = some ds0 by unfold vL; simp only [h0])
    refine ⟨.inl ⟨rfl, vs, hl⟩, q1.fzD.use w1 fun Hd2 R2 y u H2 e2 w2 r2 q2 => ?_⟩
    obtain ⟨d, rfl, ds, hR, hz, q⟩ := q2
    obtain ⟨a', o', s1, s2, ⟨vs', rfl, hv⟩, _⟩ := w2.own i _ hR
    have s3 := r1.1
    rw [s1] at s3
    cases s3
    refine ⟨a, vs', u, rfl, rfl, s2, by rw [dpAllLen hv]; exact hz, Hd2, _, e1.trans e2, w2.change hR s1 (crL (dpAllApp hv (.cons r2 .nil))), q⟩
/-- d[k] = v: a dict of int keys that a name holds -/
theorem paired_any {κ : Type} [DecidableEq κ] {G : (κ × D) → (κ × V) → Prop} (hG : ∀ p q, G p q → p.1 = q.1) (k : κ) : ∀ {kvs : List (κ × D)} {ws : List (κ × V)}, Paired G kvs ws → (ws.any fun kv => decide (kv.1 = k)) = kvs.any fun kv => decide (kv.1 = k)
  | _, _, .nil => rfl
  | _, _, .cons (a := p) (b := q) h t => by
    rw [List.any_cons, List.any_cons, paired_any hG k t, hG p q h]
def putD {κ : Type} [DecidableEq κ] (kvs : List (κ × D)) (k : κ) (v : D) : List (κ × D) := if (kvs.any fun kv => decide (kv.1 = k)) = true then kvs.map (fun kv => if kv.1 = k then (kv.1, v) else kv) else kvs ++ [(k, v)]
theorem paired_map {κ : Type} [DecidableEq κ] {K : PySem.W.Frag} {H : Hp} (k : κ) {v : V} {d : D} (r : Dp K H v d) : ∀ {kvs : List (κ × D)} {ws : List (κ × V)}, Paired (fun (p : κ × D) (q : κ × V) => p.1 = q.1 ∧ Dp K H q.2 p.2) kvs ws →
    Paired (fun (p : κ × D) (q : κ × V) => p.1 = q.1 ∧ Dp K H q.2 p.2) (kvs.map fun kv => if kv.1 = k then (kv.1, d) else kv) (ws.map fun kv => if kv.1 = k then (kv.1, v) else kv)
  | _, _, .nil => .nil
  | _, _, .cons (a := p) (b := q) h t => by
    rw [List.map_cons, List.map_cons]
    refine .cons ?_ (paired_map k r t)
    by_cases e : p.1 = k
    · rw [if_pos e, if_pos (h.1 ▸ e)]
      exact ⟨h.1, r⟩
    · rw [if_neg e, if_neg (fun z => e (h.1.trans z))]
      exact h
theorem paired_app {α β : Type} {G : α → β → Prop} {x : α} {y : β} (g : G x y) : ∀ {kvs : List α} {ws : List β}, Paired G kvs ws → Paired G (kvs ++ [x]) (ws ++ [y])
  | _, _, .nil => .cons g .nil
  | _, _, .cons h t => .cons h (paired_app g t)
theorem put_dp {κ : Type} [DecidableEq κ] {K : PySem.W.Frag} {H : Hp} (k : κ) {v : V} {d : D} (r : Dp K H v d) {kvs : List (κ × D)} {ws : List (κ × V)} (h : Paired (fun (p : κ × D) (q : κ × V) => p.1 = q.1 ∧ Dp K H q.2 p.2) kvs ws) :
    Paired (fun (p : κ × D) (q : κ × V) => p.1 = q.1 ∧ Dp K H q.2 p.2) (putD kvs k d) (putK ws k v) := by
  unfold putD putK
  rw [paired_any (fun _ _ h => h.1) k h]
  split
  · exact paired_map k r h
  · exact paired_app ⟨rfl, r⟩ h
theorem pairedLen {α β : Type} {G : α → β → Prop} : ∀ {kvs : List α} {ws : List β}, Paired G kvs ws → ws.length = kvs.length
  | _, _, .nil => rfl
  | _, _, .cons _ t => by rw [List.length_cons, List.length_cons, pairedLen t]
theorem crK {K : PySem.W.Frag} {Hd : Hp} {kvs : List (Key × D)} {ws : List (Key × V)} (h : Paired (fun (p : Key × D) (q : Key × V) => p.1 = q.1 ∧ Dp K Hd q.2 p.2) kvs ws) : CRp K Hd (.dK kvs) (.dK ws) := ⟨ws, rfl, h⟩
theorem ws_dput {o k : Expr} {pos' : Pos} (hu : X.A.units + 1 < cLine) (h : WE X P e R fun z R1 => asD z fun d => WE X P o R1 fun x R2 => ∃ i, x = .loc i ∧ WE X P k R2 fun y R3 => asI y fun n => ∃ kvs, R3[i]? = some (.own (.dK kvs)) ∧ kvs.length < sizeLine ∧ D'.nx (R3.set i (.own (.dK (putD kvs (Sum.inl n) d)))))
    (hs : swapsWith e (some (.Subscript o k pos')) pos.line X.env = pure false := by rfl) : WS X P (.Assign [.Subscript o k pos'] e pos) R D' :=
  .of (ps_dput hu pe_m pe_m pe_m hs) fun F σ Hd H w => h.fzD.use w fun Hd1 R1 z v H1 e1 w1 r1 q1 => by
    obtain ⟨d, rfl, q1⟩ := q1
    exact q1.use w1 fun Hd2 R2 x u H2 e2 w2 r2 q2 => by
      obtain ⟨i, rfl, q2⟩ := q2
      exact q2.use w2 fun Hd3 R3 y t H3 e3 w3 r3 q3 => by
        obtain ⟨n, rfl, kvs, hR, hz, q⟩ := q3.elim
        cases (show Dp _ _ t (.int n) from r3)
        obtain ⟨a, o', s1, s2, ⟨ws, rfl, hv⟩, _⟩ := w3.own i _ hR
        have s3 := r2.1
        rw [s1] at s3
        cases s3
        exact ⟨a, _, rfl, DPut.k (k := Sum.inl n) s2 (by rw [pairedLen hv]; exact hz), Hd3, _, (e1.trans e2).trans e3, w3.change hR s1 (crK (put_dp (Sum.inl n) (dpMono (e2.trans e3) r1) hv)), q⟩
/-- xs[k] = v: a list that a name holds -/
theorem ws_lput {o k : Expr} {pos' : Pos} (hg : PG X (.Subscript o k pos') (gSub (TEm X o) (TEm X k) rSetL))
    (h : WE X P e R fun z R1 => asD z fun d => WE X P o R1 fun x R2 => ∃ i, x = .loc i ∧ WE X P k R2 fun y R3 => asI y fun n => ∃ ds j, R3[i]? = some (.own (.lst ds)) ∧ ixN ds.length n = some j ∧ D'.nx (R3.set i (.own (.lst (ds.set j d)))))
    (hs : swapsWithSole [.Subscript o k pos'] e pos.line X.env = pure false := by rfl) (hw : swappedStores [.Subscript o k pos'] e X.env = pure none := by rfl)
    (h1 : (assignEach [.Subscript o k pos'] X.env).map (·.2) = [assign (.Subscript o k pos') X.env] := by rfl) : WS X P (.Assign [.Subscript o k pos'] e pos) R D' :=
  .of (ps_asg pe_m hg hs hw h1) fun F σ Hd H w => h.fzD.use w fun Hd1 R1 z v H1 e1 w1 r1 q1 => by
    obtain ⟨d, rfl, q1⟩ := q1
    exact q1.use w1 fun Hd2 R2 x u H2 e2 w2 r2 q2 => by
      obtain ⟨i, rfl, q2⟩ := q2
      exact q2.use w2 fun Hd3 R3 y t H3 e3 w3 r3 q3 => by
        obtain ⟨n, rfl, ds, j, hR, hj, q⟩ := q3.elim
        cases (show Dp _ _ t (.int n) from r3)
        obtain ⟨a, o', s1, s2, ⟨vs, rfl, hv⟩, _⟩ := w3.own i _ hR
        have s3 := r2.1
        rw [s1] at s3
        cases s3
        exact ⟨a, vs, n, j, rfl, rfl, s2, by rw [dpAllLen hv]; exact hj, Hd3, _, (e1.trans e2).trans e3, w3.change hR s1 (crL (dpAllSet (dpMono (e2.trans e3) r1) j hv)), q⟩

/-! loops -/
def bodyD (I : DS → Prop) (D' : DEnds) : DEnds := { nx := I, rt := D'.rt, bk := D'.nx, ct := I }
theorem turn_le {K : PySem.W.Frag} {F : Fr} {Hd Hd1 Hd2 : Hp} {I : DS → Prop} {Z : Ends} (e1 : Same Hd Hd1) (e2 : Same Hd1 Hd2) (hZ : Le (upD K F P Hd1 D') Z) :
    Le (upD K F P Hd2 (bodyD I D')) { Z with nx := up K F P Hd1 I, ct := up K F P Hd1 I, bk := Z.nx } :=
  ⟨fun _ _ h => up_same e2 h, fun _ _ h => hZ.2.1 _ _ ((upD_le (D := D') e2).2.1 _ _ h), fun _ _ h => hZ.1 _ _ (up_same e2 h), fun _ _ h => up_same e2 h⟩
theorem ws_forL {js : List Nat} {it : Expr} {body : List Stmt} (hp : PassesOwn (model X.prog X.w) X.A X.env X.xe) (hc : X.calm = true)
    (h : WE X P it R fun sv R1 => asD sv fun d => ∃ (xs : List D) (I : Nat → DS → Prop), d = .list xs ∧ I 0 R1 ∧
      (∀ i x R', xs[i]? = some x → I i R' → WG X P tg js R' x fun R2 => WSs X P body R2 (bodyD (I (i + 1)) D')) ∧ (∀ R', I xs.length R' → D'.nx R'))
    (hs : ∀ x, foldedSetIterable it X.env x = pure x := by intro _; rfl) : WS X P (.For tg it body [] pos) R D' :=
  .of (ps_for hp hc (pi_list pe_m) pg_m pss_m hs) fun F σ Hd H w => h.fzD.use w fun Hd1 R1 sv v H1 e1 w1 r1 q1 => by
    obtain ⟨d, rfl, xs, I, rfl, i0, step, fin⟩ := q1
    have r' : Dp X.K Hd1 v (.list xs) := r1
    cases r' with
    | lst hS hv =>
      rename_i a vs
      refine ⟨a, rfl, ⟨vs, w1.dat.seq hS⟩, for_list (fun i σ' H' => up X.K F P Hd1 (I i) σ' H') ⟨Hd1, R1, Same.refl _, w1, i0⟩ (fun i σ' H' _ ⟨Hd', R', e', w', _⟩ => w'.dat.seq (e'.seq hS)) (fun i x σ' H' hx ⟨Hd', R', e', w', hi⟩ => ?_) (fun σ' H' ⟨Hd', R', e', w', hi⟩ => ⟨Hd', R', e1.trans e', w', fin R' (by rw [← dpAllLen hv]; exact hi)⟩)⟩
      obtain ⟨z, hz, hdp⟩ := dpAllGetV hv hx
      refine ((step i z R' hz hi).run F σ' Hd' H' x w' (dpMono e' hdp)).mono fun σ2 H2 ⟨Hd2, R2, e2, w2, _, q2⟩ => ?_
      exact (q2.run F σ2 Hd2 H2 w2).mono (turn_le e1 (e'.trans e2) (upD_le e1))
theorem ws_forT {js : List Nat} {it : Expr} {body : List Stmt} (hp : PassesOwn (model X.prog X.w) X.A X.env X.xe) (hc : X.calm = true)
    (h : WE X P it R fun sv R1 => asD sv fun d => ∃ (xs : List D) (I : Nat → DS → Prop), d = .tuple xs ∧ I 0 R1 ∧
      (∀ i x R', xs[i]? = some x → I i R' → WG X P tg js R' x fun R2 => WSs X P body R2 (bodyD (I (i + 1)) D')) ∧ (∀ R', I xs.length R' → D'.nx R'))
    (hs : ∀ x, foldedSetIterable it X.env x = pure x := by intro _; rfl) : WS X P (.For tg it body [] pos) R D' :=
  .of (ps_for hp hc (pi_tup pe_m) pg_m pss_m hs) fun F σ Hd H w => h.fzD.use w fun Hd1 R1 sv v H1 e1 w1 r1 q1 => by
    obtain ⟨d, rfl, xs, I, rfl, i0, step, fin⟩ := q1
    have r' : Dp X.K Hd1 v (.tuple xs) := r1
    cases r' with
    | tup hS hv =>
      rename_i a vs
      refine ⟨a, rfl, ⟨vs, sameT w1.dat hS⟩, for_tup (fun i σ' H' => up X.K F P Hd1 (I i) σ' H') ⟨Hd1, R1, Same.refl _, w1, i0⟩ (fun i σ' H' _ ⟨Hd', R', e', w', _⟩ => sameT w'.dat (sameT e' hS)) (fun i x σ' H' hx ⟨Hd', R', e', w', hi⟩ => ?_) (fun σ' H' ⟨Hd', R', e', w', hi⟩ => ⟨Hd', R', e1.trans e', w', fin R' (by rw [← dpAllLen hv]; exact hi)⟩)⟩
      obtain ⟨z, hz, hdp⟩ := dpAllGetV hv hx
      refine ((step i z R' hz hi).run F σ' Hd' H' x w' (dpMono e' hdp)).mono fun σ2 H2 ⟨Hd2, R2, e2, w2, _, q2⟩ => ?_
      exact (q2.run F σ2 Hd2 H2 w2).mono (turn_le e1 (e'.trans e2) (upD_le e1))
theorem ws_forR {js : List Nat} {body : List Stmt} {p pc : Pos} (hp : PassesOwn (model X.prog X.w) X.A X.env X.xe) (hc : X.calm = true) (hm : X.mg "range" = none) (hg : Gl X "range")
    (h : WE X P a R fun sv R1 => asI sv fun n => (-(2 ^ 62) ≤ n ∧ n < 2 ^ 62) ∧ ∃ (I : Nat → DS → Prop), I 0 R1 ∧
      (∀ (i : Nat) R', (i : Int) < n → I i R' → WG X P tg js R' (.int (i : Int)) fun R2 => WSs X P body R2 (bodyD (I (i + 1)) D')) ∧ (∀ R', I n.toNat R' → D'.nx R'))
    (ha : starEach [a] X.env = (false, eval a X.env) :: starEach [] X.env := by rfl) (ha2 : starEach [a] X.env = [(false, eval a X.env)] := by rfl)
    (hs : ∀ x, foldedSetIterable (.Call (.Name "range" p) [a] [] pc) X.env x = pure x := by intro _; rfl) : WS X P (.For tg (.Call (.Name "range" p) [a] [] pc) body [] pos) R D' :=
  .of (ps_for hp hc (pi_range1 hg hm (pa_cons pe_m pa_nil ha) ha2) pg_m pss_m hs) fun F σ Hd H w => h.use w fun Hd1 R1 sv v H1 e1 w1 r1 q1 => by
    obtain ⟨n, rfl, hn, I, i0, step, fin⟩ := q1.elim
    cases (show Dp _ _ v (.int n) from r1)
    refine ⟨n, rfl, hn.1, hn.2, for_range (lo := 0) (n := n.toNat) (fun i σ' H' => up X.K F P Hd1 (I i) σ' H') ⟨Hd1, R1, Same.refl _, w1, i0⟩ (fun i σ' H' hi ⟨Hd', R', e', w', hI⟩ => ?_) (fun σ' H' ⟨Hd', R', e', w', hi⟩ => ⟨Hd', R', e1.trans e', w', fin R' hi⟩)⟩
    have e0 : (0 : Int) + (i : Int) = (i : Int) := Int.zero_add _
    rw [e0]
    refine ((step i R' (by omega) hI).run F σ' Hd' H' _ w' (.int (i : Int))).mono fun σ2 H2 ⟨Hd2, R2, e2, w2, _, q2⟩ => ?_
    exact (q2.run F σ2 Hd2 H2 w2).mono (turn_le e1 (e'.trans e2) (upD_le e1))
theorem ws_while {body : List Stmt} (hp : PassesOwn (model X.prog X.w) X.A X.env X.xe) (I : Nat → DS → Prop) (m0 : Nat) (i0 : I m0 R)
    (h : ∀ m R', I m R' → WT X P c R' fun b R2 => (b = true → WSs X P body R2 (bodyD (fun R3 => ∃ m', m' < m ∧ I m' R3) D')) ∧ (b = false → D'.nx R2)) : WS X P (.While c body [] pos) R D' :=
  .of (ps_while hp pt_m pss_m) fun F σ Hd H w => by
    refine ⟨fun m σ' H' => up X.K F P Hd (I m) σ' H', ⟨m0, up_here w i0⟩, fun m σ' H' ⟨Hd', R', e', w', hi⟩ => (h m R' hi).use w' fun Hd2 R2 b H2 e2 w2 q2 => ?_⟩
    cases b with
    | true =>
      refine iteT ⟨up X.K F P Hd (fun R3 => ∃ m', m' < m ∧ I m' R3), fun σ3 H3 ⟨Hd3, R3, e3, w3, m', hm, h3⟩ => ⟨m', hm, Hd3, R3, e3, w3, h3⟩, ((q2.1 rfl).run F σ' Hd2 H2 w2).mono (turn_le (Hd := Hd) (Same.refl _) (e'.trans e2) (upD_le (Same.refl _)))⟩
    | false => exact iteF ⟨Hd2, R2, e'.trans e2, w2, q2.2 rfl⟩
end
end Dl
namespace Dl
open PySem PySem.Spec PyProof.Rows L2
def wipeR (R : DS) : List Nat → DS
  | [] => R
  | v :: vs => (wipeR R vs).set v .no
def NoOwn (R : DS) (σ : L2.St) (a : Addr) : Prop := ∀ (i : Nat) (n : MC), R[i]? = some (SV.own n) → σ[i]? ≠ some (some (V.ref a))
section
variable {K : PySem.W.Frag} {F : Fr} {P : List Nat} {R : DS} {σ : L2.St} {Hd H : Hp} {a : Addr} {o : HO}
theorem wipeR_some {i : Nat} {x : SV} (hx : x ≠ .no) : ∀ {vs : List Nat}, (wipeR R vs)[i]? = some x → R[i]? = some x ∧ i ∉ vs
  | [], h => ⟨h, by simp⟩
  | v :: vs, h => by
    unfold wipeR at h
    by_cases hi : v = i
    · subst hi
      by_cases hv : v < (wipeR R vs).length
      · rw [List.getElem?_set_self hv] at h
        exact absurd (Option.some.inj h).symm hx
      · rw [List.getElem?_eq_none (by simpa using hv)] at h; cases h
    · rw [List.getElem?_set_ne hi] at h
      obtain ⟨h1, h2⟩ := wipeR_some hx h
      exact ⟨h1, by simp only [List.mem_cons, not_or]; exact ⟨fun e => hi e.symm, h2⟩⟩
theorem Wd.wiped (w : Wd K F P R σ Hd H) : ∀ {vs : List Nat}, (∀ v ∈ vs, v ∉ P) → Wd K F P (wipeR R vs) (wipe σ vs) Hd H
  | [], _ => w
  | v :: vs, h => (Wd.wiped w fun x hx => h x (List.mem_cons_of_mem _ hx)).setNo (h v List.mem_cons_self)
theorem Wd.unwipe {vs : List Nat} (w : Wd K F P R (wipe σ vs) Hd H) : Wd K F P R σ Hd H :=
  ⟨w.dat, w.frm, w.len.trans (wipe_length σ vs), fun i x e => by
    obtain ⟨v, e1, e2⟩ := w.val i x e
    exact ⟨v, (wipe_some e1).1, e2⟩, fun i m e => by
    obtain ⟨a, o, e1, e2⟩ := w.own i m e
    exact ⟨a, o, (wipe_some e1).1, e2⟩, fun i j m n a e1 e2 e3 e4 => by
    obtain ⟨a1, o1, f1, _⟩ := w.own i m e1
    obtain ⟨a2, o2, f2, _⟩ := w.own j n e2
    have g1 := (wipe_some f1).1
    have g2 := (wipe_some f2).1
    rw [e3] at g1
    rw [e4] at g2
    cases g1
    cases g2
    exact w.apart i j m n a e1 e2 f1 f2, fun i hi => by
    obtain ⟨m, e1, e2⟩ := w.pin i hi
    exact ⟨m, e1, (wipe_some e2).1⟩, w.prot⟩
def Fr.with (F : Fr) (a : Addr) (o : HO) : Fr := { F with Hf := upd F.Hf a o, Fz := fun b => F.Fz b ∨ b = a }
theorem Wd.enter (w : Wd K F P R σ Hd H) (ha : H a = some o) (hd : Hd a = none) (hn : NoOwn R σ a) : Wd K (F.with a o) P R σ Hd H :=
  ⟨w.dat, fun b u e => by
    by_cases hb : b = a
    · subst hb
      have e' : upd F.Hf b o b = some u := e
      rw [upd_same] at e'
      cases e'
      exact ha
    · have e' : upd F.Hf a o b = some u := e
      rw [upd_ne hb] at e'
      exact w.frm b u e', w.len, w.val, fun i m e => by
    obtain ⟨b, u, e1, e2, e3, e4, e5⟩ := w.own i m e
    have ne : b ≠ a := fun z => by
      subst z
      exact hn i m e e1
    exact ⟨b, u, e1, e2, e3, e4, (upd_ne ne).trans e5⟩, w.apart, w.pin, fun b hb => by
    rcases hb with hb | hb
    · refine ⟨(w.prot b hb).1, ?_⟩
      by_cases z : b = a
      · subst z
        show upd F.Hf b o b ≠ none
        rw [upd_same]
        simp
      · show upd F.Hf a o b ≠ none
        rw [upd_ne z]
        exact (w.prot b hb).2
    · subst hb
      refine ⟨hd, ?_⟩
      show upd F.Hf b o b ≠ none
      rw [upd_same]
      simp⟩
theorem Wd.leave (w : Wd K (F.with a o) P R σ Hd H) (hf : F.Hf a = none) (hz : ¬ F.Fz a) : Wd K F P R σ Hd H ∧ H a = some o ∧ Hd a = none ∧ NoOwn R σ a := by
  have ha : H a = some o := w.frm a o upd_same
  refine ⟨⟨w.dat, fun b u e => w.frm b u ((upd_ne (ne_of_none e hf)).trans e), w.len, w.val, fun i m e => ?_, w.apart, w.pin, fun b hb => ?_⟩, ha, (w.prot a (.inr rfl)).1, fun i n e z => ?_⟩
  · obtain ⟨b, u, e1, e2, e3, e4, e5⟩ := w.own i m e
    have e5' : upd F.Hf a o b = none := e5
    have ne : b ≠ a := fun z => by
      subst z
      rw [upd_same] at e5'
      cases e5'
    rw [upd_ne ne] at e5'
    exact ⟨b, u, e1, e2, e3, e4, e5'⟩
  · have h := w.prot b (.inl hb)
    have ne : b ≠ a := fun z => hz (z ▸ hb)
    have h2 : upd F.Hf a o b ≠ none := h.2
    rw [upd_ne ne] at h2
    exact ⟨h.1, h2⟩
  · obtain ⟨b, u, e1, _, _, _, e5⟩ := w.own i n e
    rw [z] at e1
    cases e1
    have e5' : upd F.Hf a o a = none := e5
    rw [upd_same] at e5'
    cases e5'
theorem Wd.poke (w : Wd K F P R σ Hd H) (hd : Hd a = none) (hf : F.Hf a = none) (hn : NoOwn R σ a) : Wd K F P R σ Hd (upd H a o) :=
  ⟨fun b u e => by
    rw [upd_ne (ne_of_none e hd)]
    exact w.dat b u e, fun b u e => by
    rw [upd_ne (ne_of_none e hf)]
    exact w.frm b u e, w.len, w.val, fun i m e => by
    obtain ⟨b, u, e1, e2, e3, e4, e5⟩ := w.own i m e
    have ne : b ≠ a := fun z => by
      subst z
      exact hn i m e e1
    exact ⟨b, u, e1, by rw [upd_ne ne]; exact e2, e3, e4, e5⟩, w.apart, w.pin, w.prot⟩
theorem NoOwn.wiped {vs : List Nat} (h : NoOwn R σ a) : NoOwn (wipeR R vs) (wipe σ vs) a := fun i n e z =>
  h i n (wipeR_some (by intro y; cases y) e).1 (wipe_some z).1
theorem NoOwn.unwipe {vs : List Nat} (h : NoOwn R (wipe σ vs) a) (w : Wd K F P R (wipe σ vs) Hd H) : NoOwn R σ a := fun i n e z => by
  obtain ⟨b, u, e1, _⟩ := w.own i n e
  have e2 := (wipe_some e1).1
  rw [z] at e2
  cases e2
  exact h i n e e1
end

theorem wipe_in : ∀ (l : List Nat) (τ : L2.St) (vs : List Nat), (∀ v ∈ l, v ∈ vs) → wipe (wipe τ vs) l = wipe τ vs
  | [], _, _, _ => rfl
  | v :: l, τ, vs, hl => by
    show (wipe (wipe τ vs) l).set v none = wipe τ vs
    rw [wipe_in l τ vs fun y hy => hl y (List.mem_cons_of_mem _ hy)]
    have hv : v ∈ vs := hl v List.mem_cons_self
    apply List.ext_getElem?
    intro k
    by_cases hk : v = k
    · subst hk
      by_cases hv2 : v < (wipe τ vs).length
      · rw [List.getElem?_set_self hv2]
        cases q : (wipe τ vs)[v]? with
        | none => rw [List.getElem?_eq_none_iff] at q; omega
        | some y =>
          cases y with
          | none => rfl
          | some z => exact absurd hv (wipe_some q).2
      · rw [List.getElem?_eq_none (by simpa using hv2), List.getElem?_eq_none (by omega)]
    · rw [List.getElem?_set_ne hk]
theorem wipe_wipe (τ : L2.St) (vs : List Nat) : wipe (wipe τ vs) vs = wipe τ vs := wipe_in vs τ vs fun _ h => h

/-! comprehensions -/
def AllB (X : Cx) (scope : Scope) (f : Cx → Prop) : Prop := ∀ (s : Shared) (H : Hp) (C : Addr) (cl : List (Str × Addr)) (fp : List Addr), f (X.blk s H scope (compEnvC scope cl C X.env) fp)
def gB (X : Cx) (scope : Scope) (tg : Expr) : TG := fun v σ H Z => AllB X scope fun Y => TGm Y tg v σ H Z
def teB (X : Cx) (scope : Scope) (e : Expr) : TE := fun σ H Z => AllB X scope fun Y => TEm Y e σ H Z
def ttB (X : Cx) (scope : Scope) (c : Expr) : TT := fun σ H Z => AllB X scope fun Y => TTm Y c σ H Z
/-- where a comprehension stands ahead of turn i -/
def Lp (K : PySem.W.Frag) (F : Fr) (P : List Nat) (τ : L2.St) (Hd1 : Hp) (I : Nat → List D → DS → Prop) (Dl : Addr) (i : Nat) (H' : Hp) : Prop :=
  ∃ Hd' R' va acc, Same Hd1 Hd' ∧ Wd K F P R' τ Hd' H' ∧ H' Dl = some (.lst va) ∧ DpAll K Hd' va acc ∧ Hd' Dl = none ∧ NoOwn R' τ Dl ∧ acc.length ≤ i ∧ I i acc R'
section
variable {X : Cx} {P : List Nat} {R : DS} {elt tg it c : Expr} {scope : Scope} {own : List (Str × Nat)} {js : List Nat} {pos : Pos} {Q : SV → DS → Prop}
/-- one turn, no test -/
def Tn0 (X : Cx) (P : List Nat) (scope : Scope) (tg elt : Expr) (js vs : List Nat) (I : Nat → List D → DS → Prop) (i : Nat) (acc : List D) (x : D) (R' : DS) : Prop :=
  AllB X scope fun Y => WG Y P tg js R' x fun R2 => AllB X scope fun Y => WE Y P elt R2 fun y R4 => asD y fun z => I (i + 1) (acc ++ [z]) (wipeR R4 vs)
def Tn1 (X : Cx) (P : List Nat) (scope : Scope) (tg c elt : Expr) (js vs : List Nat) (I : Nat → List D → DS → Prop) (i : Nat) (acc : List D) (x : D) (R' : DS) : Prop :=
  AllB X scope fun Y => WG Y P tg js R' x fun R2 => AllB X scope fun Y => WT Y P c R2 fun b R3 =>
    (b = true → AllB X scope fun Y => WE Y P elt R3 fun y R4 => asD y fun z => I (i + 1) (acc ++ [z]) (wipeR R4 vs)) ∧ (b = false → I (i + 1) acc (wipeR R3 vs))
theorem lp_push {F : Fr} {σ σ2 : L2.St} {vs : List Nat} {Hd1 Hd2 : Hp} {Dl : Addr} {I : Nat → List D → DS → Prop} {i : Nat} {acc : List D} {va : List V} (hf : F.Hf Dl = none) (hz : ¬ F.Fz Dl) (hvs : ∀ v ∈ vs, v ∉ P) (hw : wipe σ2 vs = wipe σ vs)
    (hl : acc.length ≤ i) (hi : i < sizeLine) {R3 : DS} {H3 : Hp} (e : Same Hd1 Hd2) (w : Wd X.K (F.with Dl (.lst va)) P R3 σ2 Hd2 H3) (hv : DpAll X.K Hd2 va acc)
    (h : AllB X scope fun Y => WE Y P elt R3 fun y R4 => asD y fun z => I (i + 1) (acc ++ [z]) (wipeR R4 vs)) :
    teB X scope elt σ2 H3 fun y H4 => ∃ acc', H4 Dl = some (.lst acc') ∧ acc'.length < sizeLine ∧ Lp X.K F P (wipe σ vs) Hd1 I Dl (i + 1) (upd H4 Dl (.lst (acc' ++ [y]))) :=
  fun s H0 C cl fp => (h s H0 C cl fp).fzD.use w fun Hd4 R4 y u H4 e4 w4 r4 q4 => by
    obtain ⟨z, rfl, q⟩ := q4
    obtain ⟨w5, g1, g2, g3⟩ := Wd.leave w4 hf hz
    refine ⟨va, g1, by rw [dpAllLen hv]; omega, Hd4, wipeR R4 vs, va ++ [u], acc ++ [z], e.trans e4, ?_, upd_same, dpAllApp (dpAllMono e4 hv) (.cons r4 .nil), g2, ?_, by rw [List.length_append]; simpa using hl, q⟩
    · rw [← hw]
      exact (w5.poke g2 hf g3).wiped hvs
    · rw [← hw]
      exact g3.wiped
theorem lp_skip {F : Fr} {σ σ2 : L2.St} {vs : List Nat} {Hd1 Hd2 : Hp} {Dl : Addr} {I : Nat → List D → DS → Prop} {i : Nat} {acc : List D} {va : List V} (hf : F.Hf Dl = none) (hz : ¬ F.Fz Dl) (hvs : ∀ v ∈ vs, v ∉ P) (hw : wipe σ2 vs = wipe σ vs)
    (hl : acc.length ≤ i) {R3 : DS} {H3 : Hp} (e : Same Hd1 Hd2) (w : Wd X.K (F.with Dl (.lst va)) P R3 σ2 Hd2 H3) (hv : DpAll X.K Hd2 va acc) (h : I (i + 1) acc (wipeR R3 vs)) : Lp X.K F P (wipe σ vs) Hd1 I Dl (i + 1) H3 := by
  obtain ⟨w5, g1, g2, g3⟩ := Wd.leave w hf hz
  refine ⟨Hd2, wipeR R3 vs, va, acc, e, ?_, g1, hv, g2, ?_, by omega, h⟩
  · rw [← hw]
    exact w5.wiped hvs
  · rw [← hw]
    exact g3.wiped

/-- what a turn leads to -/
def Nxt (X : Cx) (scope : Scope) (elt : Expr) (F : Fr) (P : List Nat) (τ : L2.St) (Hd1 : Hp) (I : Nat → List D → DS → Prop) (Dl : Addr) (i : Nat) (σ2 : L2.St) (b : Bool) (H3 : Hp) : Prop :=
  if b = true then teB X scope elt σ2 H3 fun y H4 => ∃ acc, H4 Dl = some (.lst acc) ∧ acc.length < sizeLine ∧ Lp X.K F P τ Hd1 I Dl (i + 1) (upd H4 Dl (.lst (acc ++ [y]))) else Lp X.K F P τ Hd1 I Dl (i + 1) H3
theorem lp_turn0 {F : Fr} {σ : L2.St} {vs : List Nat} {Hd1 : Hp} {Dl : Addr} {I : Nat → List D → DS → Prop} {i : Nat} {x : V} {H : Hp} (hf : F.Hf Dl = none) (hz : ¬ F.Fz Dl) (hvs : ∀ v ∈ vs, v ∉ P) (hj : ∀ j ∈ js, j ∈ vs) (hi : i < sizeLine)
    (h : Lp X.K F P (wipe σ vs) Hd1 I Dl i H) (step : ∀ Hd' R' acc, Same Hd1 Hd' → I i acc R' → ∃ d, Dp X.K Hd' x d ∧ Tn0 X P scope tg elt js vs I i acc d R') :
    gB X scope tg x (wipe σ vs) H fun σ2 H2 => wipe σ2 vs = wipe σ vs ∧ tYes σ2 H2 (Nxt X scope elt F P (wipe σ vs) Hd1 I Dl i σ2) := by
  obtain ⟨Hd', R', va, acc, e, w, h1, h2, h3, h4, h5, h6⟩ := h
  obtain ⟨d, hd, tn⟩ := step Hd' R' acc e h6
  intro s H0 C cl fp
  refine ((tn s H0 C cl fp).run (F.with Dl (.lst va)) _ Hd' H x (w.enter h1 h3 h4) hd).mono fun σ2 H2 ⟨Hd2, R2, e2, w2, wp, q2⟩ => ?_
  have hw : wipe σ2 vs = wipe σ vs := by rw [wp vs hj, wipe_wipe]
  refine ⟨hw, ?_⟩
  show Nxt X scope elt F P (wipe σ vs) Hd1 I Dl i σ2 true H2
  exact iteT (lp_push hf hz hvs hw h5 hi (e.trans e2) w2 (dpAllMono e2 h2) q2)
theorem lp_turn1 {F : Fr} {σ : L2.St} {vs : List Nat} {Hd1 : Hp} {Dl : Addr} {I : Nat → List D → DS → Prop} {i : Nat} {x : V} {H : Hp} (hf : F.Hf Dl = none) (hz : ¬ F.Fz Dl) (hvs : ∀ v ∈ vs, v ∉ P) (hj : ∀ j ∈ js, j ∈ vs) (hi : i < sizeLine)
    (h : Lp X.K F P (wipe σ vs) Hd1 I Dl i H) (step : ∀ Hd' R' acc, Same Hd1 Hd' → I i acc R' → ∃ d, Dp X.K Hd' x d ∧ Tn1 X P scope tg c elt js vs I i acc d R') :
    gB X scope tg x (wipe σ vs) H fun σ2 H2 => wipe σ2 vs = wipe σ vs ∧ ttB X scope c σ2 H2 (Nxt X scope elt F P (wipe σ vs) Hd1 I Dl i σ2) := by
  obtain ⟨Hd', R', va, acc, e, w, h1, h2, h3, h4, h5, h6⟩ := h
  obtain ⟨d, hd, tn⟩ := step Hd' R' acc e h6
  intro s H0 C cl fp
  refine ((tn s H0 C cl fp).run (F.with Dl (.lst va)) _ Hd' H x (w.enter h1 h3 h4) hd).mono fun σ2 H2 ⟨Hd2, R2, e2, w2, wp, q2⟩ => ?_
  have hw : wipe σ2 vs = wipe σ vs := by rw [wp vs hj, wipe_wipe]
  refine ⟨hw, fun s H0 C cl fp => (q2 s H0 C cl fp).use w2 fun Hd3 R3 b H3 e3 w3 q3 => ?_⟩
  cases b with
  | true => exact iteT (lp_push hf hz hvs hw h5 hi ((e.trans e2).trans e3) w3 (dpAllMono (e2.trans e3) h2) (q3.1 rfl))
  | false => exact iteF (lp_skip hf hz hvs hw h5 ((e.trans e2).trans e3) w3 (dpAllMono (e2.trans e3) h2) (q3.2 rfl))
theorem lp_start {F : Fr} {σ : L2.St} {vs : List Nat} {Hd1 H1 : Hp} {Dl : Addr} {I : Nat → List D → DS → Prop} {R1 : DS} (w : Wd X.K F P R1 σ Hd1 H1) (hD : H1 Dl = none) (hvs : ∀ v ∈ vs, v ∉ P) (h : I 0 [] (wipeR R1 vs)) :
    Lp X.K F P (wipe σ vs) Hd1 I Dl 0 (upd H1 Dl (.lst [])) ∧ F.Hf Dl = none ∧ ¬ F.Fz Dl := by
  have hf : F.Hf Dl = none := sameNone w.frm hD
  have no : NoOwn R1 σ Dl := fun i n e z => by
    obtain ⟨b, u, e1, e2, _⟩ := w.own i n e
    rw [z] at e1
    cases e1
    rw [hD] at e2
    cases e2
  exact ⟨⟨Hd1, _, [], [], Same.refl _, (w.allocH hD).wiped hvs, upd_same, .nil, sameNone w.dat hD, no.wiped, Nat.le_refl _, h⟩, hf, fun z => (w.prot Dl z).2 hf⟩
theorem lp_end {F : Fr} {σ : L2.St} {vs : List Nat} {Hd1 H : Hp} {Dl : Addr} {I : Nat → List D → DS → Prop} {n : Nat} {Q : SV → DS → Prop} (hf : F.Hf Dl = none) (h : Lp X.K F P (wipe σ vs) Hd1 I Dl n H) (fin : ∀ acc R', I n acc R' → Q (.own (.lst acc)) R') : Post X.K F P σ Hd1 Q (.ref Dl) H := by
  obtain ⟨Hd', R', va, acc, e, w, h1, h2, h3, h4, h5, h6⟩ := h
  exact ⟨Hd', R', .own (.lst acc), e, w.unwipe, ⟨Dl, _, rfl, h1, crL h2, h3, hf, h4.unwipe w⟩, fin acc R' h6⟩
/-- the three sources -/
inductive Src (X : Cx) (P : List Nat) (R : DS) : Expr → (List D → DS → Prop) → Prop where
  | list {it : Expr} {G : List D → DS → Prop} (h : WE X P it R fun sv R1 => asD sv fun d => ∃ xs, d = .list xs ∧ G xs R1) : Src X P R it G
  | tup {it : Expr} {G : List D → DS → Prop} (h : WE X P it R fun sv R1 => asD sv fun d => ∃ xs, d = .tuple xs ∧ G xs R1) : Src X P R it G
  | rng {a : Expr} {p pos : Pos} {G : List D → DS → Prop} (hm : X.mg "range" = none) (hg : Gl X "range") (ha : starEach [a] X.env = (false, eval a X.env) :: starEach [] X.env) (ha2 : starEach [a] X.env = [(false, eval a X.env)])
      (h : WE X P a R fun sv R1 => asI sv fun n => (-(2 ^ 62) ≤ n ∧ n < 2 ^ 62) ∧ G ((List.range n.toNat).map fun i : Nat => .int (i : Int)) R1) : Src X P R (.Call (.Name "range" p) [a] [] pos) G
/-- the reading of a comprehension: with tests as tt -/
theorem lc_core {tt : TT} {vs : List Nat} {Tn : (Nat → List D → DS → Prop) → Nat → List D → D → DS → Prop} {G : (List D → DS → Prop)}
    (turn : ∀ (F : Fr) (σ : L2.St) (Hd1 : Hp) (Dl : Addr) (I : Nat → List D → DS → Prop) (i : Nat) (x : V) (H : Hp), F.Hf Dl = none → ¬ F.Fz Dl → i < sizeLine → Lp X.K F P (wipe σ vs) Hd1 I Dl i H →
      (∀ Hd' R' acc, Same Hd1 Hd' → I i acc R' → ∃ d, Dp X.K Hd' x d ∧ Tn I i acc d R') → gB X scope tg x (wipe σ vs) H fun σ2 H2 => wipe σ2 vs = wipe σ vs ∧ tt σ2 H2 (Nxt X scope elt F P (wipe σ vs) Hd1 I Dl i σ2))
    (hvs : ∀ v ∈ vs, v ∉ P)
    (hG : ∀ xs R1, G xs R1 → xs.length ≤ sizeLine ∧ ∃ I : Nat → List D → DS → Prop, I 0 [] (wipeR R1 vs) ∧ (∀ i x acc R', xs[i]? = some x → I i acc R' → Tn I i acc x R') ∧ ∀ acc R', I xs.length acc R' → Q (.own (.lst acc)) R')
    (hsrc : Src X P R it G) : ∃ wi, PI X tg it wi ∧ Fits X P R (tLc wi (gB X scope tg) tt (teB X scope elt) vs) Q := by
  cases hsrc with
  | list h =>
    refine ⟨_, pi_list pe_m, fun F σ Hd H w Z hZ => h.fzD.use w fun Hd1 R1 sv v H1 e1 w1 r1 q1 => ?_⟩
    obtain ⟨d, rfl, xs, rfl, g⟩ := q1
    obtain ⟨hl, I, i0, step, fin⟩ := hG xs R1 g
    have r' : Dp X.K Hd1 v (.list xs) := r1
    cases r' with
    | lst hS hv =>
      rename_i a ws
      refine ⟨a, rfl, ⟨ws, w1.dat.seq hS⟩, fun Dl hD => ?_⟩
      obtain ⟨l0, hf, hz⟩ := lp_start (vs := vs) w1 hD hvs i0
      refine lc_list (K := X.K) (xs := ws) (Lp X.K F P (wipe σ vs) Hd1 I Dl) l0 (fun i H' _ ⟨Hd', R', va, acc, e', w', _⟩ => w'.dat.seq (e'.seq hS)) (fun i x H' hx hL => ?_) (fun H' hL => hZ _ _ (.same e1 (lp_end hf (by rw [dpAllLen hv] at hL; exact hL) fin)))
      obtain ⟨z, hz1, hdp⟩ := dpAllGetV hv hx
      have hi : i < xs.length := (List.getElem?_eq_some_iff.mp hz1).1
      exact turn F σ Hd1 Dl I i x H' hf hz (by omega) hL fun Hd' R' acc e' hI => ⟨z, dpMono e' hdp, step i z acc R' hz1 hI⟩
  | tup h =>
    refine ⟨_, pi_tup pe_m, fun F σ Hd H w Z hZ => h.fzD.use w fun Hd1 R1 sv v H1 e1 w1 r1 q1 => ?_⟩
    obtain ⟨d, rfl, xs, rfl, g⟩ := q1
    obtain ⟨hl, I, i0, step, fin⟩ := hG xs R1 g
    have r' : Dp X.K Hd1 v (.tuple xs) := r1
    cases r' with
    | tup hS hv =>
      rename_i a ws
      refine ⟨a, rfl, ⟨ws, sameT w1.dat hS⟩, fun Dl hD => ?_⟩
      obtain ⟨l0, hf, hz⟩ := lp_start (vs := vs) w1 hD hvs i0
      refine lc_tup (K := X.K) (xs := ws) (Lp X.K F P (wipe σ vs) Hd1 I Dl) l0 (fun i H' _ ⟨Hd', R', va, acc, e', w', _⟩ => sameT w'.dat (sameT e' hS)) (fun i x H' hx hL => ?_) (fun H' hL => hZ _ _ (.same e1 (lp_end hf (by rw [dpAllLen hv] at hL; exact hL) fin)))
      obtain ⟨z, hz1, hdp⟩ := dpAllGetV hv hx
      have hi : i < xs.length := (List.getElem?_eq_some_iff.mp hz1).1
      exact turn F σ Hd1 Dl I i x H' hf hz (by omega) hL fun Hd' R' acc e' hI => ⟨z, dpMono e' hdp, step i z acc R' hz1 hI⟩
  | rng hm hg ha ha2 h =>
    refine ⟨_, pi_range1 hg hm (pa_cons pe_m pa_nil ha) ha2, fun F σ Hd H w Z hZ => h.use w fun Hd1 R1 sv v H1 e1 w1 r1 q1 => ?_⟩
    obtain ⟨n, rfl, hn, g⟩ := q1.elim
    cases (show Dp _ _ v (.int n) from r1)
    obtain ⟨hl, I, i0, step, fin⟩ := hG _ R1 g
    rw [List.length_map, List.length_range] at hl fin
    refine ⟨n, rfl, hn.1, hn.2, fun Dl hD => ?_⟩
    obtain ⟨l0, hf, hz⟩ := lp_start (vs := vs) w1 hD hvs i0
    refine lc_range (lo := 0) (n := n.toNat) (Lp X.K F P (wipe σ vs) Hd1 I Dl) l0 (fun i H' hi hL => ?_) (fun H' hL => hZ _ _ (.same e1 (lp_end hf hL fin)))
    have e0 : (0 : Int) + (i : Int) = (i : Int) := Int.zero_add _
    rw [e0]
    exact turn F σ Hd1 Dl I i _ H' hf hz (by omega) hL fun Hd' R' acc e' hI => ⟨.int (i : Int), .int _, step i _ acc R' (by rw [List.getElem?_map, List.getElem?_range hi]; rfl) hI⟩
/-- what is asked of a comprehension -/
structure LcG (Q : SV → DS → Prop) (Tn : (Nat → List D → DS → Prop) → Nat → List D → D → DS → Prop) (vs : List Nat) (xs : List D) (R1 : DS) : Prop where
  ex : xs.length ≤ sizeLine ∧ ∃ I : Nat → List D → DS → Prop, I 0 [] (wipeR R1 vs) ∧ (∀ i x acc R', xs[i]? = some x → I i acc R' → Tn I i acc x R') ∧ ∀ acc R', I xs.length acc R' → Q (.own (.lst acc)) R'
theorem we_lc0 (own : List (Str × Nat)) (js : List Nat) (hc : X.calm = true) (hN : X.N.Nodup) (ok : BlkOk X.N X.env.scope scope own) (hvs : ∀ v ∈ own.map (·.2), v ∉ P) (hj : ∀ j ∈ js, j ∈ own.map (·.2))
    (h : Src X P R it (LcG Q (Tn0 X P scope tg elt js (own.map (·.2))) (own.map (·.2)))) (hs : ∀ x, foldedSetIterable it X.env x = pure x := by intro _; rfl) : WE X P (.ListComp elt [⟨tg, it, [], 0⟩] scope pos) R Q := by
  obtain ⟨wi, pi, f⟩ := lc_core (tg := tg) (elt := elt) (scope := scope) (tt := tYes) (Q := Q) (Tn := Tn0 X P scope tg elt js (own.map (·.2))) (fun F σ Hd1 Dl I i x H hf hz hi hL step => lp_turn0 hf hz hvs hj hi hL step) hvs (fun xs R1 g => g.ex) h
  exact .fit (pe_lc (own := own) hc hN pi ok (fun s H C cl fp => ⟨fun pins s' σ H' v u Z I r h => h s H C cl fp pins s' u I r⟩) (fun _ _ _ _ _ => pts_nil) (fun s H C cl fp => ⟨fun pins s' σ H' Z I h => h s H C cl fp pins s' I⟩) hs) f
theorem we_lc1 (own : List (Str × Nat)) (js : List Nat) (hc : X.calm = true) (hN : X.N.Nodup) (ok : BlkOk X.N X.env.scope scope own) (hvs : ∀ v ∈ own.map (·.2), v ∉ P) (hj : ∀ j ∈ js, j ∈ own.map (·.2))
    (h : Src X P R it (LcG Q (Tn1 X P scope tg c elt js (own.map (·.2))) (own.map (·.2)))) (hs : ∀ x, foldedSetIterable it X.env x = pure x := by intro _; rfl) : WE X P (.ListComp elt [⟨tg, it, [c], 0⟩] scope pos) R Q := by
  obtain ⟨wi, pi, f⟩ := lc_core (tg := tg) (elt := elt) (scope := scope) (tt := ttB X scope c) (Q := Q) (Tn := Tn1 X P scope tg c elt js (own.map (·.2))) (fun F σ Hd1 Dl I i x H hf hz hi hL step => lp_turn1 hf hz hvs hj hi hL step) hvs (fun xs R1 g => g.ex) h
  exact .fit (pe_lc (own := own) hc hN pi ok (fun s H C cl fp => ⟨fun pins s' σ H' v u Z I r h => h s H C cl fp pins s' u I r⟩) (fun s H C cl fp => pts_one ⟨fun pins s' σ H' Z I h => h s H C cl fp pins s' I⟩) (fun s H C cl fp => ⟨fun pins s' σ H' Z I h => h s H C cl fp pins s' I⟩) hs) f
/-- name = [..] -/
theorem ws_setLc0 {i : Nat} {y : Str} {py spos : Pos} {D' : DEnds} (own : List (Str × Nat)) (js : List Nat) (hc : X.calm = true) (hN : X.N.Nodup) (hy : X.N[i]? = some y) (hyl : X.env.scope.names.lookup y = some .local)
    (hsw : swapsWith (.ListComp elt [⟨tg, it, [], 0⟩] scope pos) (some (.Name y py)) spos.line X.env = pure true) (ok : BlkOk X.N X.env.scope scope own) (hP : i ∉ P) (hvs : ∀ v ∈ own.map (·.2), v ∉ P) (hj : ∀ j ∈ js, j ∈ own.map (·.2))
    (h : Src X P R it (LcG (fun sv R1 => put i R1 D'.nx sv) (Tn0 X P scope tg elt js (own.map (·.2))) (own.map (·.2)))) (hs : ∀ x, foldedSetIterable it X.env x = pure x := by intro _; rfl) : WS X P (.Assign [.Name y py] (.ListComp elt [⟨tg, it, [], 0⟩] scope pos) spos) R D' := by
  obtain ⟨wi, pi, f⟩ := lc_core (tg := tg) (elt := elt) (scope := scope) (tt := tYes) (Q := fun sv R1 => put i R1 D'.nx sv) (Tn := Tn0 X P scope tg elt js (own.map (·.2))) (fun F σ Hd1 Dl I i x H hf hz hi hL step => lp_turn0 hf hz hvs hj hi hL step) hvs (fun xs R1 g => g.ex) h
  exact .of (ps_setLc (own := own) hc hN hy hyl hsw pi ok (fun s H C cl fp => ⟨fun pins s' σ H' v u Z I r h => h s H C cl fp pins s' u I r⟩) (fun _ _ _ _ _ => pts_nil) (fun s H C cl fp => ⟨fun pins s' σ H' Z I h => h s H C cl fp pins s' I⟩) hs) fun F σ Hd H w => f F σ Hd H w _ fun v H' ⟨Hd', R', sv, e1, w1, r1, q1⟩ => up_same e1 (put_ok w1 r1 hP q1)
theorem ws_setLc1 {i : Nat} {y : Str} {py spos : Pos} {D' : DEnds} (own : List (Str × Nat)) (js : List Nat) (hc : X.calm = true) (hN : X.N.Nodup) (hy : X.N[i]? = some y) (hyl : X.env.scope.names.lookup y = some .local)
    (hsw : swapsWith (.ListComp elt [⟨tg, it, [c], 0⟩] scope pos) (some (.Name y py)) spos.line X.env = pure true) (ok : BlkOk X.N X.env.scope scope own) (hP : i ∉ P) (hvs : ∀ v ∈ own.map (·.2), v ∉ P) (hj : ∀ j ∈ js, j ∈ own.map (·.2))
    (h : Src X P R it (LcG (fun sv R1 => put i R1 D'.nx sv) (Tn1 X P scope tg c elt js (own.map (·.2))) (own.map (·.2)))) (hs : ∀ x, foldedSetIterable it X.env x = pure x := by intro _; rfl) : WS X P (.Assign [.Name y py] (.ListComp elt [⟨tg, it, [c], 0⟩] scope pos) spos) R D' := by
  obtain ⟨wi, pi, f⟩ := lc_core (tg := tg) (elt := elt) (scope := scope) (tt := ttB X scope c) (Q := fun sv R1 => put i R1 D'.nx sv) (Tn := Tn1 X P scope tg c elt js (own.map (·.2))) (fun F σ Hd1 Dl I i x H hf hz hi hL step => lp_turn1 hf hz hvs hj hi hL step) hvs (fun xs R1 g => g.ex) h
  exact .of (ps_setLc (own := own) hc hN hy hyl hsw pi ok (fun s H C cl fp => ⟨fun pins s' σ H' v u Z I r h => h s H C cl fp pins s' u I r⟩) (fun s H C cl fp => pts_one ⟨fun pins s' σ H' Z I h => h s H C cl fp pins s' I⟩) (fun s H C cl fp => ⟨fun pins s' σ H' Z I h => h s H C cl fp pins s' I⟩) hs) fun F σ Hd H w => f F σ Hd H w _ fun v H' ⟨Hd', R', sv, e1, w1, r1, q1⟩ => up_same e1 (put_ok w1 r1 hP q1)
end
end Dl
namespace Dl
open PySem PySem.Spec PyProof.Rows L2
/-! defs, where nothing else is being shown around them -/
structure FnG (Pg : Program) (w : World) (K : PySem.W.Frag) (mg : Str → Option Value) (base : Heap) (CX : CXT) (k : Nat) (f : Addr) (fd : FuncData) (ps : List Str) (sp : Sp) : Prop where
  len : ∀ vs H Q E, sp vs H Q E → vs.length = ps.length
  run : ∀ (A : Around) (outer : List Env) (s : Shared) (H : Hp) (args : Args) (us : List Value) (vs : List V) (Q : VK) (E : XK), A.guards = some [] → Room k A → Env0 Pg w K mg base A outer s H → BindsTo s fd args (ps.zip us) → Vals vs us → sp vs H Q E →
    codeAny (model Pg w) A (.call (.ref f) args) (CR CX outer Pg w H s Q E) s
theorem FnG.up {Pg : Program} {w : World} {K : PySem.W.Frag} {mg : Str → Option Value} {base : Heap} {CX : CXT} {j k : Nat} {f : Addr} {fd : FuncData} {ps : List Str} {sp : Sp} (G : FnG Pg w K mg base CX j f fd ps sp) (h : j ≤ k) : FnG Pg w K mg base CX k f fd ps sp :=
  ⟨G.len, fun A outer s H args us vs Q E g r => G.run A outer s H args us vs Q E g (r.mono h)⟩
theorem fnG_of {CX : CXT} {Pg : Program} {w : World} {K : PySem.W.Frag} {mg : Str → Option Value} {base : Heap} {k : Nat} {x qual : Str} {st : Stmt} {f : Addr} {fd : FuncData} {N ps : List Str} {sp : Sp} (Fu : Fun K x qual st f fd) (S : FnScope N ps (defScope st))
    (len : ∀ vs H Q E, sp vs H Q E → vs.length = ps.length)
    (body : ∀ (cdv : Value) (A : Around) (outer : List Env) (s : Shared) (H : Hp) (vs : List V) (Q : VK) (E : XK), A.guards = some [] → Room k (A.deeper (envOfC qual (defScope st) s.heap.objs.size f cdv)) → sp vs H Q E →
      TSsm (cxOf CX Pg w K mg base N qual (defScope st) f cdv A outer s H E) (defBody st) { nx := fun _ H' => Q .non H', rt := Q } (start N vs) H) : FnG Pg w K mg base CX (k + 1) f fd ps sp := by
  obtain ⟨oc, od, kV, doc, pm, an, cdv, ct, osl, rfl, lk, hcd⟩ := Fu.ex
  refine ⟨len, fun A outer s H args us vs Q E hgd hr e0 hb r hsp => ?_⟩
  have hl : vs.length = ps.length := len _ _ _ _ hsp
  have kn : K.In s.heap := e0.mod.kin.keeps (h := base) fun b o q => (e0.bs b o q).1
  have lm : s.heap.NoLimit := e0.mod.nolimit.keeps (h := base) fun b o q => (e0.bs b o q).1
  refine codeAny_call_function hr.depth (kn _ _ lk) rfl S.co S.gen rfl (PySem.W.codeRec_of kn hcd) (hb _ _ _ _ (wpAny_newFunctionEnv_cells S.kind (fun y hy => ?_) fun env he s1 nw => ?_))
  · obtain ⟨n, v⟩ := y
    exact (S.par n (List.of_mem_zip hy).1).imp id fun q => ⟨q, PySem.W.cellsFrom_some _ _ _ (.inl q)⟩
  · subst he
    refine ⟨lm.keeps nw.toInCall.keep, codeAny_func ?_⟩
    have J := inv_start (CX := CX) (E := E) S hr.hd e0 hl r nw
    refine wpAny_mono (body cdv A outer s H vs Q E hgd (hr.deeper _) hsp [] s1 J) (fun fl s' hs => ?_) (fun e s' hs => hs)
    have done : ∀ {τ : L2.St} {H' : Hp} {v : V} {u : Value}, Inv (cxOf CX Pg w K mg base N qual (defScope st) f cdv A outer s H E) [] τ H' s' → RelV v u → Q v H' → CE outer Pg w H s Q u s' := fun {_ H' v _} I2 rv q => ⟨v, H', I2.os, I2.bare, I2.base, I2.hok, rv, q⟩
    cases fl with
    | next =>
      obtain ⟨τ, H', I2, q⟩ := hs
      exact done (v := V.non) (u := Value.none) I2 rfl q
    | ret u =>
      obtain ⟨v, τ, H', I2, rv, q⟩ := hs
      exact done I2 rv q
    | brk => exact hs.elim fun _ ⟨_, _, q⟩ => (q : False).elim
    | cont => exact hs.elim fun _ ⟨_, _, q⟩ => (q : False).elim
section
variable {X : Cx} {CX : CXT} {k : Nat} {f : Addr} {fd : FuncData} {ps : List Str} {sp : Sp} {ds : List Value} {dvs : List V} {E : XK} {x : Str} {p pos : Pos} {e : Expr} {es : List Expr} {t : TA}
theorem goG {pins : List (Addr × Obj)} {σ : L2.St} {H : Hp} {s : Shared} {Q : VK} {us : List Value} {vs : List V} (G : FnG X.prog X.w X.K X.mg X.base CX k f fd ps sp) (hgd : X.A.guards = some []) (hr : Room k X.A) (hb : Binds X.K fd ps ds) (hd : Vals dvs ds) (hx : Passes CX X E)
    (I : Inv X pins σ H s) (r : Vals vs us) (h : sp (vs ++ dvs) H Q E) : wpAny (model X.prog X.w) X.A (call (.ref f) us) (EP X pins σ Q) X.xe s := by
  have r2 := r.append hd
  have hl : (us ++ ds).length = ps.length := r2.length.symm.trans (G.len _ _ _ _ h)
  refine wpAny_call (codeAny_mono (G.run X.A X.stack s H _ _ _ Q E hgd hr I.env0 (hb s us I.kIn hl) r2 h) fun res s' hq => ?_)
  match res, hq with
  | .error ex, hq => exact hx pins σ H s ex s' I hq
  | .ok (.ret u), hq => exact I.after hq
  | .ok .next, hq => exact (hq : False).elim
  | .ok .brk, hq => exact (hq : False).elim
  | .ok .cont, hq => exact (hq : False).elim
theorem pe_callG (G : FnG X.prog X.w X.K X.mg X.base CX k f fd ps sp) (hgd : X.A.guards = some []) (hr : Room k X.A) (hg : Gl X x) (hm : X.mg x = some (.ref f)) (hk : PySem.W.keepIn X.K (.ref f) = true) (hb : Binds X.K fd ps ds) (hd : Vals dvs ds) (hx : Passes CX X E) (ha : PA X (e :: es) t)
    (hdb : (x == ("__debug__" : Str)) = false := by decide) (he : starEach (e :: es) X.env = (false, eval e X.env) :: starEach es X.env := by rfl) (hpl : (backTo pos (starEach es X.env)).any (·.1) = false := by rfl) : PE X (.Call (.Name x p) (e :: es) [] pos) (tCall sp dvs E t) :=
  ⟨fun pins s σ H Q I h => wpAny_Call_Name_kw (ld_glob I hg hm (PySem.W.callWith_K (h₀ := X.base) I.ok.mod.kin hk (thn (ha.run pos pins s σ H _ I h) fun us s1 ⟨vs, H1, I1, r, q⟩ => ⟨I1.kIn, goG G hgd hr hb hd hx I1 r q⟩) he hpl) hdb)⟩
end

/-! promises over data -/
abbrev SpD := DS → (SV → DS → Prop) → Prop
def isOwn : SV → Bool
  | .own _ => true
  | _ => false
def ownIx (R : DS) : List Nat := (List.range R.length).filter fun i => isOwn (R.getD i .no)
theorem mem_ownIx {R : DS} {i : Nat} : i ∈ ownIx R ↔ ∃ m, R[i]? = some (.own m) := by
  unfold ownIx
  rw [List.mem_filter, List.mem_range]
  constructor
  · rintro ⟨h1, h2⟩
    rw [List.getD_eq_getElem?_getD, List.getElem?_eq_getElem h1] at h2
    rw [List.getElem?_eq_getElem h1]
    simp only [Option.getD_some] at h2
    cases q : R[i] with
    | own m => exact ⟨m, rfl⟩
    | no => rw [q] at h2; cases h2
    | d x => rw [q] at h2; cases h2
    | loc j => rw [q] at h2; cases h2
  · rintro ⟨m, h⟩
    refine ⟨(List.getElem?_eq_some_iff.mp h).1, ?_⟩
    rw [List.getD_eq_getElem?_getD, h]
    rfl
def liftS (K : PySem.W.Frag) (S : SpD) : Sp := fun vs H Q _ => ∃ F Hd R, Wd K F (ownIx R) R (vs.map some) Hd H ∧
  S R fun sv R' => ∀ Hd' v H', Same Hd Hd' → Fin K F (ownIx R) R' sv v Hd' H' → Q v H'
/-- a def that can be called: from where the top left it -/
structure Can (Pg : Program) (w : World) (K : PySem.W.Frag) (mg : Str → Option Value) (base : Heap) (k : Nat) (x : Str) (S : SpD) : Prop where
  ex : ∃ f fd ps, FnG Pg w K mg base CX0 k f fd ps (liftS K S) ∧ mg x = some (.ref f) ∧ PySem.W.keepIn K (.ref f) = true ∧ Binds K fd ps []
  mono : ∀ A Z Z', (∀ sv R', Z sv R' → Z' sv R') → S A Z → S A Z'
theorem Can.up {Pg : Program} {w : World} {K : PySem.W.Frag} {mg : Str → Option Value} {base : Heap} {j k : Nat} {x : Str} {S : SpD} (C : Can Pg w K mg base j x S) (h : j ≤ k) : Can Pg w K mg base k x S := by
  obtain ⟨f, fd, ps, G, h1, h2, h3⟩ := C.ex
  exact ⟨⟨f, fd, ps, G.up h, h1, h2, h3⟩, C.mono⟩
/-- what goes back into the names -/
def back : DS → List SV → DS → DS
  | R, .loc j :: svs, a :: as => back (R.set j a) svs as
  | R, _ :: svs, _ :: as => back R svs as
  | R, _, _ => R
theorem back_len : ∀ (svs : List SV) (R as : DS), (back R svs as).length = R.length
  | [], _, _ => rfl
  | s :: _, _, [] => by cases s <;> rfl
  | .loc j :: svs, R, a :: as => by
    show (back (R.set j a) svs as).length = R.length
    rw [back_len svs, List.length_set]
  | .no :: svs, R, a :: as => back_len svs R as
  | .d _ :: svs, R, a :: as => back_len svs R as
  | .own _ :: svs, R, a :: as => back_len svs R as
theorem back_get {k : Nat} {y : SV} : ∀ (svs : List SV) (R as : DS), as.length = svs.length → (back R svs as)[k]? = some y → (R[k]? = some y ∧ ∀ i : Nat, svs[i]? ≠ some (SV.loc k)) ∨ ∃ i : Nat, svs[i]? = some (SV.loc k) ∧ as[i]? = some y
  | [], R, as, _, h => by
    refine .inl ⟨?_, fun i => by simp⟩
    cases as <;> exact h
  | s :: svs, R, [], hl, _ => by simp at hl
  | s :: svs, R, a :: as, hl, h => by
    have hl' : as.length = svs.length := by simpa using hl
    have ih := fun R0 (h0 : (back R0 svs as)[k]? = some y) => back_get svs R0 as hl' h0
    have go : ∀ R0, (back R0 svs as)[k]? = some y → (R0[k]? = some y → (R[k]? = some y ∧ s ≠ .loc k) ∨ (s = .loc k ∧ a = y)) → (R[k]? = some y ∧ ∀ i : Nat, (s :: svs)[i]? ≠ some (SV.loc k)) ∨ ∃ i : Nat, (s :: svs)[i]? = some (SV.loc k) ∧ (a :: as)[i]? = some y := by
      intro R0 h0 hR
      rcases ih R0 h0 with ⟨h1, h2⟩ | ⟨i, h1, h2⟩
      · rcases hR h1 with ⟨h3, h4⟩ | ⟨h3, h4⟩
        · refine .inl ⟨h3, fun i => ?_⟩
          cases i with
          | zero => simpa using h4
          | succ i => simpa using h2 i
        · exact .inr ⟨0, by simp [h3], by simp [h4]⟩
      · exact .inr ⟨i + 1, by simpa using h1, by simpa using h2⟩
    cases s with
    | loc j =>
      refine go (R.set j a) h fun h1 => ?_
      by_cases e : j = k
      · subst e
        by_cases hj : j < R.length
        · rw [List.getElem?_set_self hj] at h1
          exact .inr ⟨rfl, Option.some.inj h1⟩
        · rw [List.getElem?_eq_none (by simpa using hj)] at h1
          cases h1
      · rw [List.getElem?_set_ne e] at h1
        exact .inl ⟨h1, fun z => e (SV.loc.inj z)⟩
    | no => exact go R h fun h1 => .inl ⟨h1, by intro z; cases z⟩
    | d x => exact go R h fun h1 => .inl ⟨h1, by intro z; cases z⟩
    | own m => exact go R h fun h1 => .inl ⟨h1, by intro z; cases z⟩
/-- what an argument is inside -/
def cont (R : DS) : SV → SV
  | .loc i => R.getD i .no
  | x => x
/-- arguments: data, or a name's own thing, each name once -/
def ArgsOk (R : DS) (svs : List SV) : Prop :=
  (∀ i j : Nat, svs[i]? = some (SV.loc j) → ∃ m, R[j]? = some (.own m)) ∧ (∀ i i' j : Nat, svs[i]? = some (SV.loc j) → svs[i']? = some (SV.loc j) → i = i')
abbrev ArgRel (K : PySem.W.Frag) (σ : L2.St) (Hd : Hp) : SV → V → Prop := fun sv v => (match sv with | .d x => Dp K Hd v x | .loc i => σ[i]? = some (some v) | _ => False)
theorem paired_get {α β : Type} {G : α → β → Prop} : ∀ {xs : List α} {ys : List β} {i : Nat} {x : α}, Paired G xs ys → xs[i]? = some x → ∃ y, ys[i]? = some y ∧ G x y
  | _, _, _, _, .nil, e => by simp at e
  | _, _, 0, _, .cons g _, e => by
    simp at e
    subst e
    exact ⟨_, rfl, g⟩
  | _, _, i + 1, _, .cons _ t, e => by
    obtain ⟨y, h1, h2⟩ := paired_get (i := i) t (by simpa using e)
    exact ⟨y, by simpa using h1, h2⟩
theorem paired_len {α β : Type} {G : α → β → Prop} : ∀ {xs : List α} {ys : List β}, Paired G xs ys → xs.length = ys.length
  | _, _, .nil => rfl
  | _, _, .cons _ t => by rw [List.length_cons, List.length_cons, paired_len t]
theorem call_world {K : PySem.W.Frag} {F : Fr} {P : List Nat} {R : DS} {σ : L2.St} {Hd H : Hp} {svs : List SV} {vs : List V} (w : Wd K F P R σ Hd H) (rel : Paired (ArgRel K σ Hd) svs vs) (ok : ArgsOk R svs) :
    ∃ F', Wd K F' (ownIx (svs.map (cont R))) (svs.map (cont R)) (vs.map some) Hd H ∧
      ∀ Hd' R' sv v H', Same Hd Hd' → R'.length = svs.length → Fin K F' (ownIx (svs.map (cont R))) R' sv v Hd' H' → Wd K F P (back R svs R') σ Hd' H' ∧ Rp K F (back R svs R') σ Hd' H' sv v := by
  classical
  let pass : Addr → Prop := fun a => ∃ i j : Nat, svs[i]? = some (SV.loc j) ∧ σ[j]? = some (some (V.ref a))
  let F' : Fr := ⟨fun a => if pass a then none else H a, fun i => match vs[i]? with | some (.ref a) => a | _ => 0, fun a => F.Fz a ∨ ((∃ (i : Nat) (m : MC), R[i]? = some (SV.own m) ∧ σ[i]? = some (some (V.ref a))) ∧ ¬ pass a)⟩
  have hfp : ∀ {a}, pass a → F'.Hf a = none := fun {a} h => if_pos h
  have hfn : ∀ {a}, ¬ pass a → F'.Hf a = H a := fun {a} h => if_neg h
  have passOwn : ∀ {a}, pass a → ∃ (j : Nat) (m : MC) (o : HO), R[j]? = some (SV.own m) ∧ σ[j]? = some (some (V.ref a)) ∧ H a = some o ∧ Hd a = none ∧ F.Hf a = none := fun {a} ⟨i, j, h1, h2⟩ => by
    obtain ⟨m, hm⟩ := ok.1 i j h1
    obtain ⟨b, o, s1, s2, s3, s4, s5⟩ := w.own j m hm
    rw [h2] at s1
    cases s1
    exact ⟨j, m, o, hm, h2, s2, s4, s5⟩
  have argOwn : ∀ {i : Nat} {m : MC}, (svs.map (cont R))[i]? = some (SV.own m) → ∃ (j : Nat) (a : Addr) (o : HO), svs[i]? = some (SV.loc j) ∧ R[j]? = some (SV.own m) ∧ σ[j]? = some (some (V.ref a)) ∧ vs[i]? = some (V.ref a) ∧ H a = some o ∧ CRp K Hd m o ∧ Hd a = none ∧ F.Hf a = none := fun {i m} h => by
    rw [List.getElem?_map] at h
    cases q : svs[i]? with
    | none => rw [q] at h; cases h
    | some s =>
      rw [q] at h
      have h' : cont R s = .own m := Option.some.inj h
      obtain ⟨v, hv, g⟩ := paired_get rel q
      cases s with
      | loc j =>
        have hR : R[j]? = some (.own m) := by
          obtain ⟨m', hm⟩ := ok.1 i j q
          have h' : R.getD j .no = .own m := h'
          rw [List.getD_eq_getElem?_getD, hm] at h'
          rw [hm]
          exact congrArg some h'
        obtain ⟨a, o, s1, s2, s3, s4, s5⟩ := w.own j m hR
        have g' : σ[j]? = some (some v) := g
        rw [s1] at g'
        cases g'
        exact ⟨j, a, o, rfl, hR, s1, hv, s2, s3, s4, s5⟩
      | no => exact (g : False).elim
      | own _ => exact (g : False).elim
      | d x => cases h'
  have w' : Wd K F' (ownIx (svs.map (cont R))) (svs.map (cont R)) (vs.map some) Hd H := by
    refine ⟨w.dat, fun a u e => ?_, by rw [List.length_map, List.length_map]; exact paired_len rel, fun i x e => ?_, fun i m e => ?_, fun i i' m n a e1 e2 e3 e4 => ?_, fun i hi => ?_, fun a ha => ?_⟩
    · have e' : (if pass a then none else H a) = some u := e
      split at e'
      · cases e'
      · exact e'
    · rw [List.getElem?_map] at e
      cases q : svs[i]? with
      | none => rw [q] at e; cases e
      | some s =>
        rw [q] at e
        have h' : cont R s = .d x := Option.some.inj e
        obtain ⟨v, hv, g⟩ := paired_get rel q
        cases s with
        | loc j =>
          obtain ⟨m, hm⟩ := ok.1 i j q
          have h' : R.getD j .no = .d x := h'
          rw [List.getD_eq_getElem?_getD, hm] at h'
          cases h'
        | no => exact (g : False).elim
        | own _ => exact (g : False).elim
        | d y =>
          cases h'
          exact ⟨v, by rw [List.getElem?_map, hv]; rfl, g⟩
    · obtain ⟨j, a, o, h1, h2, h3, h4, h5, h6, h7, h8⟩ := argOwn e
      exact ⟨a, o, by rw [List.getElem?_map, h4]; rfl, h5, h6, h7, hfp ⟨i, j, h1, h3⟩⟩
    · obtain ⟨j, b, o, h1, h2, h3, h4, _⟩ := argOwn e1
      obtain ⟨j', b', o', h1', h2', h3', h4', _⟩ := argOwn e2
      rw [List.getElem?_map, h4] at e3
      rw [List.getElem?_map, h4'] at e4
      have z1 : b = a := V.ref.inj (Option.some.inj (Option.some.inj e3))
      have z2 : b' = a := V.ref.inj (Option.some.inj (Option.some.inj e4))
      subst z1
      subst z2
      have ej : j = j' := w.apart j j' m n _ h2 h2' h3 h3'
      subst ej
      exact ok.2 i i' j h1 h1'
    · obtain ⟨m, hm⟩ := mem_ownIx.mp hi
      obtain ⟨j, a, o, h1, h2, h3, h4, _⟩ := argOwn hm
      refine ⟨m, hm, ?_⟩
      rw [List.getElem?_map, h4]
      show some (some (V.ref a)) = some (some (V.ref (match vs[i]? with | some (.ref a) => a | _ => 0)))
      rw [h4]
    · rcases ha with ha | ⟨⟨i, m, h1, h2⟩, hp⟩
      · have h := w.prot a ha
        refine ⟨h.1, ?_⟩
        have np : ¬ pass a := fun z => by
          obtain ⟨_, _, _, _, _, _, _, h5⟩ := passOwn z
          exact h.2 h5
        rw [hfn np]
        cases q : F.Hf a with
        | none => exact absurd q h.2
        | some u => rw [w.frm a u q]; simp
      · obtain ⟨b, o, s1, s2, s3, s4, s5⟩ := w.own i m h1
        rw [h2] at s1
        cases s1
        exact ⟨s4, by rw [hfn hp, s2]; simp⟩
  refine ⟨F', w', fun Hd' R' sv v H' e hl fin => ?_⟩
  obtain ⟨f1, f2, f3, f4, f5⟩ := fin
  -- where an own thing stands behind the call
  have own2 : ∀ {k : Nat} {m : MC}, (back R svs R')[k]? = some (SV.own m) → ∃ a o n, σ[k]? = some (some (V.ref a)) ∧ H' a = some o ∧ CRp K Hd' m o ∧ Hd' a = none ∧ F.Hf a = none ∧ R[k]? = some (SV.own n) ∧ (pass a → ∃ i, i ∈ ownIx (svs.map (cont R)) ∧ F'.al i = a) := fun {k m} h => by
    rcases back_get svs R R' hl h with ⟨h1, h2⟩ | ⟨i, h1, h2⟩
    · obtain ⟨a, o, s1, s2, s3, s4, s5⟩ := w.own k m h1
      have np : ¬ pass a := fun ⟨i, j, g1, g2⟩ => by
        obtain ⟨n, hn⟩ := ok.1 i j g1
        have := w.apart j k n m a hn h1 g2 s1
        subst this
        exact h2 i g1
      exact ⟨a, o, m, s1, f2 a o (by rw [hfn np]; exact s2), s3.mono e, f3 a (.inr ⟨⟨k, m, h1, s1⟩, np⟩), s5, h1, fun z => absurd z np⟩
    · obtain ⟨n, hn⟩ := ok.1 i k h1
      have hi : i ∈ ownIx (svs.map (cont R)) := mem_ownIx.mpr ⟨n, by
        rw [List.getElem?_map, h1]
        show some (R.getD k .no) = some (.own n)
        rw [List.getD_eq_getElem?_getD, hn]
        rfl⟩
      obtain ⟨m2, o, g1, g2, g3, g4⟩ := f4 i hi
      rw [h2] at g1
      cases g1
      obtain ⟨a, o2, s1, s2, s3, s4, s5⟩ := w.own k n hn
      obtain ⟨u, hu, g⟩ := paired_get rel h1
      have g' : σ[k]? = some (some u) := g
      rw [s1] at g'
      cases g'
      have ea : F'.al i = a := by
        show (match vs[i]? with | some (.ref a) => a | _ => 0) = a
        rw [hu]
      rw [ea] at g2 g4
      exact ⟨a, o, n, s1, g2, g3, g4, s5, hn, fun _ => ⟨i, hi, ea⟩⟩
  have w2 : Wd K F P (back R svs R') σ Hd' H' := by
    refine ⟨f1, fun a u q => ?_, (back_len svs R R').trans w.len, fun i x q => ?_, fun i m q => ?_, fun i j m n a e1 e2 e3 e4 => ?_, fun i hi => ?_, fun a ha => ⟨f3 a (.inl ha), (w.prot a ha).2⟩⟩
    · have np : ¬ pass a := fun z => by
        obtain ⟨_, _, _, _, _, _, _, h5⟩ := passOwn z
        rw [h5] at q
        cases q
      exact f2 a u (by rw [hfn np]; exact w.frm a u q)
    · rcases back_get svs R R' hl q with ⟨h1, _⟩ | ⟨i', h1, h2⟩
      · obtain ⟨v, s1, s2⟩ := w.val i x h1
        exact ⟨v, s1, dpMono e s2⟩
      · obtain ⟨n, hn⟩ := ok.1 i' i h1
        have hi : i' ∈ ownIx (svs.map (cont R)) := mem_ownIx.mpr ⟨n, by
          rw [List.getElem?_map, h1]
          show some (R.getD i .no) = some (.own n)
          rw [List.getD_eq_getElem?_getD, hn]
          rfl⟩
        obtain ⟨m2, o, g1, _⟩ := f4 i' hi
        rw [h2] at g1
        cases g1
    · obtain ⟨a, o, n, s1, s2, s3, s4, s5, _⟩ := own2 q
      exact ⟨a, o, s1, s2, s3, s4, s5⟩
    · obtain ⟨b, o, n1, s1, _, _, _, _, s6, _⟩ := own2 e1
      obtain ⟨b', o', n2, t1, _, _, _, _, t6, _⟩ := own2 e2
      exact w.apart i j n1 n2 a s6 t6 e3 e4
    · obtain ⟨m, h1, h2⟩ := w.pin i hi
      have hk : i < (back R svs R').length := by
        rw [back_len]
        exact (List.getElem?_eq_some_iff.mp h1).1
      have q : (back R svs R')[i]? = some (back R svs R')[i] := List.getElem?_eq_getElem hk
      rcases back_get svs R R' hl q with ⟨h3, _⟩ | ⟨i', h3, h4⟩
      · rw [h1] at h3
        exact ⟨m, by rw [q, ← Option.some.inj h3], h2⟩
      · have hi' : i' ∈ ownIx (svs.map (cont R)) := mem_ownIx.mpr ⟨m, by
          rw [List.getElem?_map, h3]
          show some (R.getD i .no) = some (.own m)
          rw [List.getD_eq_getElem?_getD, h1]
          rfl⟩
        obtain ⟨m2, o, g1, _⟩ := f4 i' hi'
        rw [h4] at g1
        exact ⟨m2, by rw [q, Option.some.inj g1], h2⟩
  refine ⟨w2, ?_⟩
  cases sv with
  | no => exact (f5 : False).elim
  | loc _ => exact (f5 : False).elim
  | d x => exact f5
  | own m =>
    obtain ⟨a, o, rfl, g2, g3, g4, g5, g6⟩ := f5
    have hH : ¬ pass a → H a = none := fun np => by rw [← hfn np]; exact g5
    refine ⟨a, o, rfl, g2, g3, g4, ?_, fun i n q z => ?_⟩
    · cases q : F.Hf a with
      | none => rfl
      | some u =>
        have np : ¬ pass a := fun z => by
          obtain ⟨_, _, _, _, _, _, _, h5⟩ := passOwn z
          rw [h5] at q
          cases q
        have := w.frm a u q
        rw [hH np] at this
        cases this
    · obtain ⟨b, o', n', s1, _, _, _, _, s6, s7⟩ := own2 q
      rw [z] at s1
      cases s1
      obtain ⟨c, oc, t1, t2, _⟩ := w.own i n' s6
      rw [z] at t1
      cases t1
      by_cases hp : pass a
      · obtain ⟨i', hi', ea⟩ := s7 hp
        exact g6 i' hi' ea
      · rw [hH hp] at t2
        cases t2
section
variable {X : Cx} {P : List Nat} {R : DS} {a e : Expr} {es : List Expr} {pos p : Pos} {Q : SV → DS → Prop}
theorem wa_nil {Q : List SV → DS → Prop} (q : Q [] R) : WA X P [] R Q := ⟨fun F σ Hd H w => TAm.of pa_nil ⟨Hd, R, [], Same.refl _, w, .nil, q⟩⟩
theorem wa_cons {Q : List SV → DS → Prop} (h : WE X P a R fun sv R1 => stb sv fun x => WA X P es R1 fun svs R2 => Q (x :: svs) R2)
    (hs : starEach (a :: es) X.env = (false, eval a X.env) :: starEach es X.env := by rfl) : WA X P (a :: es) R Q :=
  ⟨fun F σ Hd H w => TAm.of (pa_cons pe_m pa_m hs) (h.stb.use w fun Hd1 R1 sv v H1 e1 w1 r1 q1 =>
    (q1.2.run F σ Hd1 H1 w1).mono fun vs H2 ⟨Hd2, R2, svs, e2, w2, r2, q2⟩ => ⟨Hd2, R2, sv :: svs, e1.trans e2, w2, .cons (by
      cases sv with
      | no => exact (r1 : False).elim
      | own m => exact absurd rfl (q1.1 m)
      | d x => exact dpMono e2 r1
      | loc i => exact r1.1) r2, q2⟩)⟩
/-- f(e, ..) -/
theorem we_call {x : Str} {k : Nat} {S : SpD} (C : Can X.prog X.w X.K X.mg X.base k x S) (hgd : X.A.guards = some []) (hr : Room k X.A) (hg : Gl X x)
    (h : WA X P (e :: es) R fun svs R1 => ArgsOk R1 svs ∧ S (svs.map (cont R1)) fun sv R' => R'.length = svs.length ∧ Q sv (back R1 svs R'))
    (hdb : (x == ("__debug__" : Str)) = false := by decide) (he : starEach (e :: es) X.env = (false, eval e X.env) :: starEach es X.env := by rfl) (hpl : (backTo pos (starEach es X.env)).any (·.1) = false := by rfl) : WE X P (.Call (.Name x p) (e :: es) [] pos) R Q := by
  obtain ⟨f, fd, ps, G, hm, hk, hb⟩ := C.ex
  refine .of (pe_callG G hgd hr hg hm hk hb .nil pass0 pa_m hdb he hpl) fun F σ Hd H w => (h.run F σ Hd H w).mono fun vs H1 ⟨Hd1, R1, svs, e1, w1, rel, ok, q⟩ => ?_
  obtain ⟨F', w', k'⟩ := call_world w1 rel ok
  rw [List.append_nil]
  exact ⟨F', Hd1, _, w', C.mono _ _ _ (fun sv R' ⟨hl, q2⟩ Hd' v H' e' fin => by
    obtain ⟨w2, r2⟩ := k' Hd' R' sv v H' e' hl fin
    exact ⟨Hd', _, sv, e1.trans e', w2, r2, q2⟩) q⟩
end
theorem start_world {K : PySem.W.Frag} {F : Fr} {P : List Nat} {R : DS} {vs : List V} {Hd H : Hp} (n : Nat) (w : Wd K F P R (vs.map some) Hd H) : Wd K F P (R ++ List.replicate n .no) (vs.map some ++ List.replicate n none) Hd H := by
  have at_ : ∀ {i : Nat} {x : SV}, x ≠ .no → (R ++ List.replicate n SV.no)[i]? = some x → R[i]? = some x ∧ i < R.length := fun {i x} hx h => by
    by_cases hi : i < R.length
    · rw [List.getElem?_append_left hi] at h
      exact ⟨h, hi⟩
    · rw [List.getElem?_append_right (by omega), List.getElem?_replicate] at h
      split at h
      · exact absurd (Option.some.inj h).symm hx
      · cases h
  have hl : R.length = (vs.map some).length := w.len
  have up_ : ∀ {i : Nat}, i < R.length → (vs.map some ++ List.replicate n none)[i]? = (vs.map some)[i]? := fun {i} hi => List.getElem?_append_left (by rw [← hl]; exact hi)
  refine ⟨w.dat, w.frm, by rw [List.length_append, List.length_append, hl, List.length_replicate, List.length_replicate], fun i x e => ?_, fun i m e => ?_, fun i j m k a e1 e2 e3 e4 => ?_, fun i hi => ?_, w.prot⟩
  · obtain ⟨h1, h2⟩ := at_ (by intro z; cases z) e
    rw [up_ h2]
    exact w.val i x h1
  · obtain ⟨h1, h2⟩ := at_ (by intro z; cases z) e
    rw [up_ h2]
    exact w.own i m h1
  · obtain ⟨h1, h2⟩ := at_ (by intro z; cases z) e1
    obtain ⟨g1, g2⟩ := at_ (by intro z; cases z) e2
    rw [up_ h2] at e3
    rw [up_ g2] at e4
    exact w.apart i j m k a h1 g1 e3 e4
  · obtain ⟨m, h1, h2⟩ := w.pin i hi
    have hi' : i < R.length := (List.getElem?_eq_some_iff.mp h1).1
    exact ⟨m, by rw [List.getElem?_append_left hi']; exact h1, by rw [up_ hi']; exact h2⟩
/-- what a body is to reach -/
def bodyEnds (n : Nat) (Q : SV → DS → Prop) : DEnds := { nx := fun R' => Q (.d .none) (R'.take n), rt := fun sv R' => Q sv (R'.take n) }
theorem def_run {X : Cx} {S : SpD} {N : List Str} {st : Stmt} {vs : List V} {H : Hp} {Q : VK} (hlen : ∀ R Q, S R Q → R.length ≤ N.length)
    (body : ∀ R Q, S R Q → WSs X (ownIx R) (defBody st) (R ++ List.replicate (N.length - R.length) .no) (bodyEnds R.length Q))
    (h : liftS X.K S vs H Q fun _ _ _ => False) : TSsm X (defBody st) { nx := fun _ H' => Q .non H', rt := Q } (start N vs) H := by
  obtain ⟨F, Hd, R, w, q⟩ := h
  have hl : R.length = vs.length := w.len.trans (by rw [List.length_map])
  have hs : start N vs = vs.map some ++ List.replicate (N.length - R.length) none := by
    rw [hl]
    rfl
  rw [hs]
  refine ((body R _ q).run F _ Hd H (start_world _ w)).mono ⟨fun σ' H' h => ?_, fun v H' h => ?_, fun _ _ h => ?_, fun _ _ h => ?_⟩
  · obtain ⟨Hd', R', e1, w1, q1⟩ := h
    refine q1 Hd' .non H' e1 ⟨w1.dat, w1.frm, fun a ha => (w1.prot a ha).1, fun i hi => ?_, .non⟩
    obtain ⟨m, h1, h2⟩ := w1.pin i hi
    obtain ⟨a, o, s1, s2, s3, s4, _⟩ := w1.own i m h1
    rw [h2] at s1
    cases s1
    obtain ⟨m0, hm0⟩ := mem_ownIx.mp hi
    exact ⟨m, o, by rw [List.getElem?_take_of_lt (List.getElem?_eq_some_iff.mp hm0).1]; exact h1, s2, s3, s4⟩
  · obtain ⟨Hd', R', sv, e1, ⟨f1, f2, f3, f4, f5⟩, q1⟩ := h
    refine q1 Hd' v H' e1 ⟨f1, f2, f3, fun i hi => ?_, f5⟩
    obtain ⟨m, o, h1, h2⟩ := f4 i hi
    obtain ⟨m0, hm0⟩ := mem_ownIx.mp hi
    exact ⟨m, o, by rw [List.getElem?_take_of_lt (List.getElem?_eq_some_iff.mp hm0).1]; exact h1, h2⟩
  · obtain ⟨_, _, _, _, z⟩ := h
    exact (z : False).elim
  · obtain ⟨_, _, _, _, z⟩ := h
    exact (z : False).elim
/-- THE RULE for a def -/
theorem can_def {Pg : Program} {w : World} {K : PySem.W.Frag} {mg : Str → Option Value} {base : Heap} {k : Nat} {x qual : Str} {st : Stmt} {f : Addr} {fd : FuncData} {N ps : List Str} {S : SpD} (Fu : Fun K x qual st f fd) (Sc : FnScope N ps (defScope st)) (hm : mg x = some (.ref f)) (hb : Binds K fd ps [])
    (mono : ∀ A Z Z', (∀ sv R', Z sv R' → Z' sv R') → S A Z → S A Z') (hN : ps.length ≤ N.length) (hlen : ∀ R Q, S R Q → R.length = ps.length)
    (body : ∀ (cdv : Value) (A : Around) (outer : List Env) (s : Shared) (H : Hp) (E : XK), A.guards = some [] → Room k (A.deeper (envOfC qual (defScope st) s.heap.objs.size f cdv)) → ∀ R Q, S R Q →
      WSs (cxOf CX0 Pg w K mg base N qual (defScope st) f cdv A outer s H E).nox (ownIx R) (defBody st) (R ++ List.replicate (N.length - R.length) .no) (bodyEnds R.length Q)) : Can Pg w K mg base (k + 1) x S := by
  refine ⟨⟨f, fd, ps, fnG_of Fu Sc (fun vs H Q E h => ?_) (fun cdv A outer s H vs Q E hgd hr h => ?_), hm, Fu.kp, hb⟩, mono⟩
  · obtain ⟨F, Hd, R, w, q⟩ := h
    have := w.len
    rw [List.length_map] at this
    rw [← this]
    exact hlen R _ q
  · have g := def_run (X := (cxOf CX0 Pg w K mg base N qual (defScope st) f cdv A outer s H E).nox) (N := N) (st := st) (fun R Q h => by rw [hlen R Q h]; exact hN) (body cdv A outer s H E hgd hr) (vs := vs) (H := H) (Q := Q) h
    exact TSsm.of (PSs.nox pss_m) g
end Dl
namespace Dl
open PySem PySem.Spec PyProof.Rows L2
/-! the law's own call -/
theorem law_core {Pg : Program} {w : World} {K : PySem.W.Frag} {mg mb : Str → Option Value} {k : Nat} {fa a : Addr} {fd : FuncData} {x : Str} {sp : Sp} {s1 : Shared} {vs : List Value} {ns : List Int} {H : Hp}
    (kx : K.In s1.heap) (hns : s1.heap.Ns mainGlobals mg) (hb : s1.heap.Ns builtinsNs mb) (hbb : ∀ y : Str, y ≠ "__name__" → mb y = bootBuiltins y) (hlim : s1.heap.NoLimit) (hg : s1.gens = #[])
    (ha : s1.heap.get? a = some { cls := .type "list", data := .seq vs.toArray }) (hr : Room k callerA)
    (G : ∀ base : Heap, K.In base → base.Ns mainGlobals mg → FnG Pg w K mg base CX0 k fa fd [x] sp) (hbind : ∀ (s : Shared) (u : Value), BindsTo s fd ⟨[u], []⟩ [(x, u)])
    (only : Only H) (here : ∀ b, H b ≠ none → b = a ∧ K.lookup a = none) (hok : HOk Pg w H s1.heap) (go : sp [.ref a] H (fun v _ => v = .bl true) fun _ _ _ => False) :
    codeAny (model Pg w) callerA (.call (.ref fa) ⟨[.ref a], []⟩) (fun r s' => r = .ok (.ret (.bool true)) ∧ OldK s1.heap s'.heap ∧ s'.os = s1.os ∧ AllBare s'.gens) s1 := by
  have free : ∀ {b : Addr} {o : Obj}, s1.heap.get? b = some o → (b = a → False) → (hidT s1.heap H).get? b = some o := fun {b o} q n => hidT_get q (by
    cases z : H b with
    | none => rfl
    | some u => exact (n (here b (by rw [z]; exact fun y => by cases y)).1).elim)
  have names : ∀ {b : Addr} {m : Str → Option Value}, s1.heap.Ns b m → (hidT s1.heap H).Ns b m := fun {b m} ⟨o, es, ep, q, d, r⟩ => ⟨o, es, ep, free q (fun z => by
    subst z
    rw [ha] at q
    cases q
    exact Data.noConfusion (show Data.seq vs.toArray _ = Data.dict es ep from d)), d, r⟩
  have kb : K.In (hidT s1.heap H) := fun b o q => hidT_get (kx b o q) (by
    cases z : H b with
    | none => rfl
    | some u =>
      obtain ⟨y1, y2⟩ := here b (by rw [z]; exact fun y => by cases y)
      subst y1
      rw [q] at y2
      cases y2)
  have md : Mod K mg (hidT s1.heap H) := ⟨kb, names hns, ⟨mb, names hb, hbb⟩, hlim.elim fun mc hm => ⟨mc, names hm.1, hm.2⟩⟩
  have at0 : Env0 Pg w K mg (hidT s1.heap H) callerA [] s1 H := { frames := rfl, mod := md, bs := fun b o q => of_hidT q, bsz := Nat.le_of_eq (hidT_size _ _), funs := trivial, frf := fun b hb => absurd (show b ∈ ([] : List Addr) from hb) List.not_mem_nil, hok := hok, bare := .of_eq hg }
  have run := (G _ kb (names hns)).run callerA [] s1 H ⟨[.ref a], []⟩ [.ref a] [.ref a] _ _ rfl hr at0 (hbind s1 (.ref a)) (.cons rfl .nil) go
  refine codeAny_mono run fun r s' h => ?_
  match r, h with
  | .error e, h => exact (h : False).elim
  | .ok .next, h => exact (h : False).elim
  | .ok .brk, h => exact (h : False).elim
  | .ok .cont, h => exact (h : False).elim
  | .ok (.ret u), h =>
    obtain ⟨v, H', os, bare, un, hok', rv, q⟩ := h
    have e1 : v = .bl true := q
    subst e1
    have e2 : u = Value.bool true := rv
    subst e2
    refine ⟨rfl, OldK.of_keep fun b o eb => ?_, os, bare⟩
    rcases only b with z | ⟨ob, xs, z⟩
    · exact un.keep b o eb z (fun y => by cases y) (fun y => by cases y)
    · have g1 := (hok b _ z).1
      have g2 := (hok' b _ (un.frzs b ob _ z)).1
      rw [eb] at g1
      cases g1
      exact g2
theorem law_callG {Pg : Program} {w : World} {K : PySem.W.Frag} {mg mb : Str → Option Value} {k : Nat} {fa a : Addr} {fd : FuncData} {x : Str} {sp : Sp} {s1 : Shared} {vs : List Value} {ns : List Int}
    (kx : K.In s1.heap) (hns : s1.heap.Ns mainGlobals mg) (hb : s1.heap.Ns builtinsNs mb) (hbb : ∀ y : Str, y ≠ "__name__" → mb y = bootBuiltins y) (hlim : s1.heap.NoLimit) (hg : s1.gens = #[])
    (ha : s1.heap.get? a = some { cls := .type "list", data := .seq vs.toArray }) (hi : IntsAre vs ns) (hl : ns.length ≤ sizeLine) (hr : Room k callerA)
    (G : ∀ base : Heap, K.In base → base.Ns mainGlobals mg → FnG Pg w K mg base CX0 k fa fd [x] sp) (hbind : ∀ (s : Shared) (u : Value), BindsTo s fd ⟨[u], []⟩ [(x, u)])
    (hsp : ∀ H : Hp, Only H → SqL K H a (ns.map V.int) → sp [.ref a] H (fun v _ => v = .bl true) fun _ _ _ => False) :
    codeAny (model Pg w) callerA (.call (.ref fa) ⟨[.ref a], []⟩) (fun r s' => r = .ok (.ret (.bool true)) ∧ OldK s1.heap s'.heap ∧ s'.os = s1.os ∧ AllBare s'.gens) s1 := by
  have rv := vals_ints hi
  cases hk : K.lookup a with
  | some o =>
    have e := kx a o hk
    rw [ha] at e
    cases e
    let H : Hp := fun _ => none
    have on : Only H := fun _ => .inl rfl
    refine law_core (ns := ns) (H := H) kx hns hb hbb hlim hg ha hr G hbind on (fun b z => absurd rfl z) (fun b u z => by cases z) (hsp H on (.inr ⟨_, _, _, hk, rfl, rfl, rfl, ?_, by simpa using rv⟩))
    rw [List.size_toArray, hi.length]
    exact hl
  | none =>
    let ob : Obj := { cls := .type "list", data := .seq vs.toArray }
    let H : Hp := fun b => if b = a then some (.frz ob (.lst (ns.map V.int))) else none
    have at_ : H a = some (.frz ob (.lst (ns.map V.int))) := if_pos rfl
    have off : ∀ {b : Addr}, b ≠ a → H b = none := fun h => if_neg h
    have on : Only H := fun b => if z : b = a then .inr ⟨ob, ns.map V.int, z ▸ at_⟩ else .inl (off z)
    refine law_core (ns := ns) (H := H) kx hns hb hbb hlim hg ha hr G hbind on (fun b z => ⟨Decidable.byContradiction fun y => z (off y), hk⟩) (fun b u z => ?_) (hsp H on (.inl (.inr ⟨ob, at_⟩)))
    by_cases y : b = a
    · subst y
      rw [at_] at z
      cases z
      exact ⟨ha, by rw [List.length_map]; exact hl, vs, _, rv, ha⟩
    · rw [off y] at z
      cases z
/-- the goal that k_head leaves: from the promise of the law's def -/
theorem walk_G {l : PySem.W.OpenLaw} {n k : Nat} {q : Program} {loose : List Str} {XP : (Str → Option Value) → Heap → Prop} {YP : World → Heap → Prop} {d : DefRec} {K : Params → PySem.W.Frag} {sp : PySem.W.Frag → Sp} {x : Str}
    (hn : l.most = some n) (hn2 : n ≤ sizeLine) (hdf : d.params.defaults = []) (hr : Room k callerA) (hY : ∀ (w : World) (h : Heap), YP w h → (K w.params).In h)
    (F : ∀ (w : World) (mg : Str → Option Value) (fa : Addr) (h : Heap), (K w.params).In h → h.Ns mainGlobals mg → mg d.name = some (.ref fa) → ∃ fd : FuncData, (∀ (s : Shared) (u : Value), BindsTo s fd ⟨[u], []⟩ [(x, u)]) ∧
      ∀ base : Heap, (K w.params).In base → base.Ns mainGlobals mg → FnG l.prog w (K w.params) mg base CX0 k fa fd [x] (sp (K w.params)))
    (hsp : ∀ (K : PySem.W.Frag) (H : Hp) (a : Addr) (ns : List Int), ns.length ≤ n → Only H → SqL K H a (ns.map V.int) → sp K [.ref a] H (fun v _ => v = .bl true) fun _ _ _ => False) : PySem.W.WalkO q loose XP YP l.row.toRowW d [] (fun f vs => PySem.call f vs) := by
  refine Att.attach_call hn hdf fun w s0 s1 mg mb fa o pm cd doc a vs ns Gr Y ho hd hcd hmg hobj hints hlen hg => ?_
  have kx := hY w _ Y
  obtain ⟨fd, hb, hF⟩ := F w mg fa _ kx Gr.T.g hmg
  exact law_callG kx Gr.T.g Gr.T.b Gr.T.builtins Gr.T.nolimit hg hobj hints (Nat.le_trans hlen hn2) hr hF hb fun H hO hS => hsp (K w.params) H a ns hlen hO hS
/-- a law over data: the script's ints -/
theorem law_data {K : PySem.W.Frag} {S : SpD} {H : Hp} {a : Addr} {ns : List Int} (only : Only H) (hS : SqL K H a (ns.map V.int)) (h : S [.d (.list (ns.map PyData.int))] fun sv R' => sv = .d (.bool true))
    (mono : ∀ A Z Z', (∀ sv R', Z sv R' → Z' sv R') → S A Z → S A Z') : liftS K S [.ref a] H (fun v _ => v = .bl true) fun _ _ _ => False := by
  refine ⟨⟨fun _ => none, fun _ => 0, fun _ => False⟩, H, [.d (.list (ns.map PyData.int))], ⟨Same.refl H, fun b u z => (by cases z), rfl, fun i x e => ?_, fun i m e => ?_, fun i j m n b e _ _ _ => ?_, fun i hi => ?_, fun b hb => (show False from hb).elim⟩, mono _ _ _ (fun sv R' e Hd' v H' _ fin => ?_) h⟩
  · cases i with
    | zero =>
      have e' : x = .list (ns.map PyData.int) := by simpa using e.symm
      subst e'
      exact ⟨.ref a, rfl, .lst hS (dpAllOfInts ns)⟩
    | succ i => simp at e
  · cases i with
    | zero => simp at e
    | succ i => simp at e
  · cases i with
    | zero => simp at e
    | succ i => simp at e
  · have : ownIx [SV.d (.list (ns.map PyData.int))] = [] := rfl
    rw [this] at hi
    cases hi
  · subst e
    have r : Dp K Hd' v (.bool true) := fin.2.2.2.2
    cases r
    rfl
end Dl
namespace Dl
open PySem PySem.Spec PyProof.Rows L2
/-! what a frame knows of what runs around it -/
structure Ard (X : Cx) (k : Nat) : Prop where
  gd : X.A.guards = some []
  rm : Room k X.A
theorem Ard.u64 {X : Cx} {k : Nat} (a : Ard X k) : X.A.units + 64 < cLine := a.rm.units
theorem Ard.u1 {X : Cx} {k : Nat} (a : Ard X k) : X.A.units + 1 < cLine := by have := a.rm.units; omega
theorem Ard.u100 {X : Cx} {k : Nat} (a : Ard X k) : X.A.units + 100 < cLine := by have := a.rm.un; omega
theorem vis3 {sc : Scope} {x : Str} (h : (match sc.names.lookup x with | some .local => true | some .cell => true | some .free => true | _ => false) = true) : Vis sc x := by
  unfold Vis
  revert h
  cases sc.names.lookup x with
  | none => intro h; cases h
  | some k => cases k <;> intro h <;> simp at h ⊢
theorem loc2 {sc : Scope} {x : Str} (h : (match sc.names.lookup x with | some .local => true | some .cell => true | _ => false) = true) : L2.Loc sc x := by
  unfold L2.Loc
  revert h
  cases sc.names.lookup x with
  | none => intro h; cases h
  | some k => cases k <;> intro h <;> simp at h ⊢
section
variable {X : Cx} {P : List Nat} {R : DS} {e tg : Expr} {es : List Expr} {st : Stmt} {sts : List Stmt} {D' : DEnds} {x : Str} {pos pos' : Pos} {js : List Nat} {dx : D} {dxs : List D}
theorem isWE {Q : SV → DS → Prop} (h : WE X P e R Q) : WE X P e R Q := h
theorem isWT {Q : Bool → DS → Prop} (h : WT X P e R Q) : WT X P e R Q := h
theorem isWW {Q : Bool → DS → Prop} (h : WW X P e R Q) : WW X P e R Q := h
theorem isWA {Q : List SV → DS → Prop} (h : WA X P es R Q) : WA X P es R Q := h
theorem isWDs {Q : List D → DS → Prop} (h : WDs X P es R Q) : WDs X P es R Q := h
theorem isWS (h : WS X P st R D') : WS X P st R D' := h
theorem isWSs (h : WSs X P sts R D') : WSs X P sts R D' := h
theorem isWG {Q : DS → Prop} (h : WG X P tg js R dx Q) : WG X P tg js R dx Q := h
theorem isWGs {Q : DS → Prop} (h : WGs X P es js R dxs Q) : WGs X P es js R dxs Q := h
theorem isName {Q : SV → DS → Prop} (h : WE X P (.Name x pos) R Q) : WE X P (.Name x pos) R Q := h
theorem isSet (h : WS X P (.Assign [.Name x pos'] e pos) R D') : WS X P (.Assign [.Name x pos'] e pos) R D' := h
end
end Dl
namespace Dl
open PySem PySem.Spec PyProof.Rows L2
def locs : List SV → List Nat
  | [] => []
  | .loc j :: r => j :: locs r
  | _ :: r => locs r
def argsB (R : DS) (svs : List SV) : Bool := ((locs svs).all fun j => isOwn (R.getD j .no)) && decide (locs svs).Nodup
theorem mem_locs {j : Nat} : ∀ {svs : List SV} {i : Nat}, svs[i]? = some (SV.loc j) → j ∈ locs svs
  | [], _, h => by simp at h
  | s :: r, 0, h => by
    have e : s = .loc j := by simpa using h
    subst e
    exact List.mem_cons_self
  | s :: r, i + 1, h => by
    have ih : j ∈ locs r := mem_locs (i := i) (by simpa using h)
    cases s <;> first | exact ih | exact List.mem_cons_of_mem _ ih
theorem locs_once {j : Nat} : ∀ {svs : List SV} {i i' : Nat}, (locs svs).Nodup → svs[i]? = some (SV.loc j) → svs[i']? = some (SV.loc j) → i = i'
  | [], _, _, _, h, _ => by simp at h
  | s :: r, 0, 0, _, _, _ => rfl
  | s :: r, 0, i' + 1, nd, h, h' => by
    have e : s = .loc j := by simpa using h
    subst e
    have nd' : (j :: locs r).Nodup := nd
    exact absurd (mem_locs (i := i') (by simpa using h')) (List.nodup_cons.mp nd').1
  | s :: r, i + 1, 0, nd, h, h' => by
    have e : s = .loc j := by simpa using h'
    subst e
    have nd' : (j :: locs r).Nodup := nd
    exact absurd (mem_locs (i := i) (by simpa using h)) (List.nodup_cons.mp nd').1
  | s :: r, i + 1, i' + 1, nd, h, h' => by
    have nd' : (locs r).Nodup := by
      cases s <;> first | exact nd | exact (List.nodup_cons.mp (show (_ :: locs r).Nodup from nd)).2
    exact congrArg (· + 1) (locs_once (j := j) (svs := r) (i := i) (i' := i') nd' (by simpa using h) (by simpa using h'))
theorem argsOk_of {R : DS} {svs : List SV} (h : argsB R svs = true) : ArgsOk R svs := by
  unfold argsB at h
  rw [Bool.and_eq_true, List.all_eq_true, decide_eq_true_eq] at h
  refine ⟨fun i j q => ?_, fun i i' j q q' => locs_once h.2 q q'⟩
  have g := h.1 j (mem_locs q)
  rw [List.getD_eq_getElem?_getD] at g
  cases z : R[j]? with
  | none => rw [z] at g; cases g
  | some s =>
    rw [z] at g
    cases s with
    | own m => exact ⟨m, rfl⟩
    | no => cases g
    | d x => cases g
    | loc k => cases g
section
variable {X : Cx} {P : List Nat} {R R' : DS} {e : Expr} {es : List Expr} {pos p : Pos} {Q : SV → DS → Prop}
theorem we_call2 {x : Str} {j k : Nat} {S : SpD} (hr : Room k X.A) (hgd : X.A.guards = some []) (C : Can X.prog X.w X.K X.mg X.base j x S) (hjk : j ≤ k) (hg : Gl X x)
    (h : WA X P (e :: es) R fun svs R1 => argsB R1 svs = true ∧ S (svs.map (cont R1)) fun sv R' => R'.length = svs.length ∧ Q sv (back R1 svs R'))
    (hdb : (x == ("__debug__" : Str)) = false := by decide) (he : starEach (e :: es) X.env = (false, eval e X.env) :: starEach es X.env := by rfl) (hpl : (backTo pos (starEach es X.env)).any (·.1) = false := by rfl) : WE X P (.Call (.Name x p) (e :: es) [] pos) R Q :=
  we_call (C.up hjk) hgd hr hg ⟨fun F σ Hd H w => (h.run F σ Hd H w).mono fun vs H' ⟨Hd', R', svs, e1, w1, r1, q1, q2⟩ => ⟨Hd', R', svs, e1, w1, r1, argsOk_of q1, q2⟩⟩ hdb he hpl
theorem nrmE (R' : DS) (h : R = R') (q : WE X P e R' Q) : WE X P e R Q := h ▸ q
theorem nrmS {sts : List Stmt} {D' : DEnds} (R' : DS) (h : R = R') (q : WSs X P sts R' D') : WSs X P sts R D' := h ▸ q
end
/-! comprehensions that change nothing -/
section
variable {X : Cx} {P : List Nat} {R0 R1 : DS} {elt tg c : Expr} {scope : Scope} {js vs : List Nat} {Q : SV → DS → Prop} {α : Type}
theorem lc_pure0 {as : List α} {enc g : α → D} (R0 : DS) (hR : wipeR R1 vs = R0) (hl : as.length ≤ sizeLine)
    (turn : ∀ a ∈ as, AllB X scope fun Y => WG Y P tg js R0 (enc a) fun R2 => AllB X scope fun Y => WE Y P elt R2 fun y R4 => asD y fun z => z = g a ∧ wipeR R4 vs = R0) (fin : Q (.own (.lst (as.map g))) R0) :
    LcG Q (Tn0 X P scope tg elt js vs) vs (as.map enc) R1 := by
  refine ⟨by rw [List.length_map]; exact hl, fun i acc R => R = R0 ∧ acc = (as.take i).map g, ⟨hR, rfl⟩, fun i x acc R hx h => ?_, fun acc R h => ?_⟩
  · obtain ⟨rfl, rfl⟩ := h
    rw [List.getElem?_map] at hx
    cases q : as[i]? with
    | none => rw [q] at hx; cases hx
    | some a =>
      rw [q] at hx
      cases hx
      intro s H C cl fp
      have t := turn a (List.mem_of_getElem? q) s H C cl fp
      refine ⟨fun F σ Hd H1 v w r => (t.run F σ Hd H1 v w r).mono fun σ2 H2 ⟨Hd2, R2, e2, w2, wp, q2⟩ => ⟨Hd2, R2, e2, w2, wp, fun s H C cl fp => (q2 s H C cl fp).mono fun y R4 h4 => ?_⟩⟩
      unfold asD at h4 ⊢
      split at h4
      · refine ⟨h4.2, ?_⟩
        rw [h4.1, List.take_add_one, q, List.map_append]
        rfl
      · refine ⟨h4.2, ?_⟩
        rw [h4.1, List.take_add_one, q, List.map_append]
        rfl
      · exact h4
  · obtain ⟨rfl, rfl⟩ := h
    rw [List.length_map, List.take_length]
    exact fin
theorem lc_pure1 {as : List α} {enc g : α → D} (p : α → Bool) (R0 : DS) (hR : wipeR R1 vs = R0) (hl : as.length ≤ sizeLine)
    (turn : ∀ a ∈ as, AllB X scope fun Y => WG Y P tg js R0 (enc a) fun R2 => AllB X scope fun Y => WT Y P c R2 fun b R3 => b = p a ∧ (b = true → AllB X scope fun Y => WE Y P elt R3 fun y R4 => asD y fun z => z = g a ∧ wipeR R4 vs = R0) ∧ (b = false → wipeR R3 vs = R0))
    (fin : Q (.own (.lst ((as.filter p).map g))) R0) : LcG Q (Tn1 X P scope tg c elt js vs) vs (as.map enc) R1 := by
  refine ⟨by rw [List.length_map]; exact hl, fun i acc R => R = R0 ∧ acc = ((as.take i).filter p).map g, ⟨hR, rfl⟩, fun i x acc R hx h => ?_, fun acc R h => ?_⟩
  · obtain ⟨rfl, rfl⟩ := h
    rw [List.getElem?_map] at hx
    cases q : as[i]? with
    | none => rw [q] at hx; cases hx
    | some a =>
      rw [q] at hx
      cases hx
      have et : (as.take (i + 1)).filter p = (as.take i).filter p ++ (if p a = true then [a] else []) := by
        rw [List.take_add_one, q, List.filter_append]
        show _ ++ List.filter p [a] = _
        rw [List.filter_cons]
        rfl
      intro s H C cl fp
      have t := turn a (List.mem_of_getElem? q) s H C cl fp
      refine ⟨fun F σ Hd H1 v w r => (t.run F σ Hd H1 v w r).mono fun σ2 H2 ⟨Hd2, R2, e2, w2, wp, q2⟩ => ⟨Hd2, R2, e2, w2, wp, fun s H C cl fp => (q2 s H C cl fp).mono fun b R3 h3 => ?_⟩⟩
      obtain ⟨hb, h3, h3'⟩ := h3
      refine ⟨fun eb => fun s H C cl fp => (h3 eb s H C cl fp).mono fun y R4 h4 => ?_, fun eb => ⟨h3' eb, ?_⟩⟩
      · rw [hb] at eb
        have add : ∀ z, z = g a → ((as.take i).filter p).map g ++ [z] = ((as.take (i + 1)).filter p).map g := fun z ez => by
          rw [et, if_pos eb, List.map_append, ez]
          rfl
        unfold asD at h4 ⊢
        split at h4
        · exact ⟨h4.2, add _ h4.1⟩
        · exact ⟨h4.2, add _ h4.1⟩
        · exact h4
      · rw [hb] at eb
        rw [et, if_neg (by rw [eb]; exact Bool.false_ne_true), List.append_nil]
  · obtain ⟨rfl, rfl⟩ := h
    rw [List.length_map, List.take_length]
    exact fin
end
end Dl
namespace Dl
open PySem PySem.Spec PyProof.Rows L2
/-! a tuple once, and more often -/
set_option maxHeartbeats 4000000 in
theorem tup_once (l : Addr) (items : Array Value) (n : Nat) (dd : Option Addr) (sl : Array (Option Value)) (u : Tok) :
    Meets (Builtin.«tuple.__mul__» ⟨[.ref l, .int 1 u], []⟩) (fun _ R s => s.heap.get? l = some { cls := .type "tuple", dict := dd, data := .seq items n, slots := sl } ∧ R (.ok (.ret (.ref l))) s) :=
  .of_wp fun prog w A R s h => by
    obtain ⟨hp, g, d, tk, os⟩ := s
    obtain ⟨hl, h⟩ := h
    have f1 := AutoSeq1.idx_int
    have b1 : (items.isEmpty || (1 : Int) == 1) = true := by simp
    wp_walk using wpAny_loadPart' hl
    repeat (first
      | (refine wpAny_ite_true (decide_eq_true b1) ?_; wp_walk using wpAny_loadPart' hl)
      | (rw [if_pos b1]; wp_walk using wpAny_loadPart' hl))
    exact ⟨_, rfl, h⟩

section
variable {X : Cx} {P : List Nat} {R : DS} {a b c e : Expr} {rest : List Expr} {pos p : Pos} {Q : SV → DS → Prop}
theorem op_once : OpR X (binaryOp .Mult) (fun x y H Q => ∃ l xs, x = .ref l ∧ y = .int 1 ∧ SqT X.K H l xs ∧ Q (.ref l) H) := by
  intro pins s σ H x y v u Q I rx ry h
  obtain ⟨l, xs, rfl, rfl, hT, q⟩ := h
  cases rx
  obtain ⟨t, rfl⟩ := ry
  obtain ⟨its, r, ⟨⟨cls, dd, data, sl⟩, ho, hc, n, hd⟩, hs⟩ := I.tuple hT
  simp only at hc hd
  subst hc hd
  exact wpAny_binaryOp_repeat_ref (T := "tuple") (U := "int") (by decide) ⟨_, ho, rfl⟩ (fun s' => typeIs_int s' 1 t) noFill_tuple_mul F.fills_int_mul F.slot_int_rmul repeat_tuple F.slot_int_index.lookup
    (call_meets F.slot_int_rmul (typeIs_int s 1 t) F.entry_int_rmul (F.args_int_rmul_2 _ _) (int_rmul_tuple 1 t l its.toArray n dd sl) ⟨ho, rfl, ⟨_, ho, rfl⟩,
      call_meets F.slot_tuple_mul ⟨_, ho, rfl⟩ F.entry_tuple_mul (F.args_tuple_mul_2 _ _) (tup_once l its.toArray n dd sl t) ⟨ho, .ref l, H, I, rfl, q⟩⟩)
theorem rep_dp {K : PySem.W.Frag} {H : Hp} {vs : List V} {ds : List D} (h : DpAll K H vs ds) : ∀ n : Nat, DpAll K H (List.replicate n vs).flatten (List.replicate n ds).flatten
  | 0 => .nil
  | n + 1 => by
    rw [List.replicate_succ, List.replicate_succ, List.flatten_cons, List.flatten_cons]
    exact dpAllApp h (rep_dp h n)
theorem we_repT (h : WE X P a R fun x R1 => ∃ ds, x = .d (.tuple ds) ∧ WE X P b R1 fun y R2 => asI y fun k => (ds ≠ [] ∧ 1 ≤ k ∧ k ≤ 1000 ∧ ds.length ≤ 1000) ∧ Q (.d (.tuple (List.replicate k.toNat ds).flatten)) R2) : WE X P (.BinOp a .Mult b pos) R Q :=
  .of (pe_op (op_repT.or op_once) pe_m pe_m) fun F σ Hd H w => h.use w fun Hd1 R1 x v H1 e1 w1 r1 q1 => by
    obtain ⟨ds, rfl, q1⟩ := q1
    exact q1.use w1 fun Hd2 R2 y u H2 e2 w2 r2 q2 => by
      obtain ⟨k, rfl, ⟨g1, g2, g3, g4⟩, q⟩ := q2.elim
      cases (show Dp _ _ u (.int k) from r2)
      obtain ⟨l, vs, rfl, _, hT, hv⟩ := Rp.tup (sv := .d (.tuple ds)) w2 (show Rp _ _ _ _ _ _ (.d (.tuple ds)) v from dpMono e2 r1) rfl
      have hne : vs ≠ [] := fun z => g1 (by
        have := dpAllLen hv
        rw [z] at this
        exact List.eq_nil_of_length_eq_zero this.symm)
      by_cases hk : k = 1
      · subst hk
        refine .inr ⟨l, vs, rfl, rfl, hT, .same (e1.trans e2) (.here w2 (sv := .d (.tuple (List.replicate (Int.toNat 1) ds).flatten)) ?_ q)⟩
        have e : (List.replicate (Int.toNat 1) ds).flatten = ds := by
          show (List.replicate 1 ds).flatten = ds
          rw [List.replicate_one, List.flatten_cons, List.flatten_nil, List.append_nil]
        rw [e]
        exact dpMono e2 r1
      · refine .inl ⟨l, k, vs, rfl, rfl, hT, hne, by omega, g3, by rw [dpAllLen hv]; exact g4, fun z hz => ?_⟩
        obtain ⟨w3, s3⟩ := w2.allocD (o := .tup (List.replicate k.toNat vs).flatten) hz
        exact .same ((e1.trans e2).trans s3) (.here w3 (show Rp _ _ _ _ _ _ (.d (.tuple (List.replicate k.toNat ds).flatten)) _ from Dp.tup (SqT.of upd_same) (rep_dp (dpAllMono s3 hv) _)) q)
theorem we_addT (h : WE X P a R fun x R1 => ∃ ds, x = .d (.tuple ds) ∧ WE X P b R1 fun y R2 => ∃ es, y = .d (.tuple es) ∧ ds.length + es.length ≤ sizeLine ∧ Q (.d (.tuple (ds ++ es))) R2) : WE X P (.BinOp a .Add b pos) R Q :=
  .of (pe_op op_catA pe_m pe_m) fun F σ Hd H w => h.use w fun Hd1 R1 x v H1 e1 w1 r1 q1 => by
    obtain ⟨ds, rfl, q1⟩ := q1
    exact q1.use w1 fun Hd2 R2 y u H2 e2 w2 r2 q2 => by
      obtain ⟨es, rfl, hz, q⟩ := q2
      obtain ⟨l, vs, rfl, _, hT, hv⟩ := Rp.tup (sv := .d (.tuple ds)) w2 (show Rp _ _ _ _ _ _ (.d (.tuple ds)) v from dpMono e2 r1) rfl
      obtain ⟨m, us, rfl, _, hU, hu⟩ := Rp.tup (sv := .d (.tuple es)) w2 r2 rfl
      refine ⟨l, m, vs, us, rfl, rfl, hT, hU, by rw [dpAllLen hv, dpAllLen hu]; exact hz, fun z => ?_, fun _ z => ?_, fun _ _ z hz => ?_⟩
      · subst z
        cases hv
        exact .same (e1.trans e2) (.here w2 r2 q)
      · subst z
        cases hu
        rw [List.append_nil] at q
        exact .same (e1.trans e2) (.here w2 (show Rp _ _ _ _ _ _ (.d (.tuple ds)) _ from dpMono e2 r1) q)
      · obtain ⟨w3, s3⟩ := w2.allocD (o := .tup (vs ++ us)) hz
        exact .same ((e1.trans e2).trans s3) (.here w3 (show Rp _ _ _ _ _ _ (.d (.tuple (ds ++ es))) _ from Dp.tup (SqT.of upd_same) (dpAllApp (dpAllMono s3 hv) (dpAllMono s3 hu))) q)
/-! list + list -/
def vO (R : DS) : SV → Option (List D)
  | .own (.lst ds) => some ds
  | .loc i => match R[i]? with
    | some (.own (.lst ds)) => some ds
    | _ => none
  | _ => none
theorem Rp.exact {K : PySem.W.Frag} {F : Fr} {P : List Nat} {R : DS} {σ : L2.St} {Hd H : Hp} {sv : SV} {v : V} {ds : List D} (w : Wd K F P R σ Hd H) (r : Rp K F R σ Hd H sv v) (h : vO R sv = some ds) : ∃ a vs, v = .ref a ∧ H a = some (.lst vs) ∧ DpAll K Hd vs ds := by
  unfold vO at h
  split at h
  · cases h
    obtain ⟨a, o, rfl, ha, ⟨vs, ho, hv⟩, _⟩ := r
    subst ho
    exact ⟨a, vs, rfl, ha, hv⟩
  · rename_i i
    split at h
    · rename_i e
      cases h
      obtain ⟨a, o, s1, ha, ⟨vs, ho, hv⟩, _⟩ := w.own i _ e
      subst ho
      have s2 := r.1
      rw [s1] at s2
      cases s2
      exact ⟨a, vs, rfl, ha, hv⟩
    · cases h
  · cases h
theorem we_catL (h : WE X P a R fun x R1 => ∃ i, x = .loc i ∧ WE X P b R1 fun y R2 => ∃ ds es, R2[i]? = some (.own (.lst ds)) ∧ vO R2 y = some es ∧ ds.length + es.length ≤ sizeLine ∧ Q (.own (.lst (ds ++ es))) R2) : WE X P (.BinOp a .Add b pos) R Q :=
  .of (pe_op op_cat pe_m pe_m) fun F σ Hd H w => h.use w fun Hd1 R1 x v H1 e1 w1 r1 q1 => by
    obtain ⟨i, rfl, q1⟩ := q1
    exact q1.use w1 fun Hd2 R2 y u H2 e2 w2 r2 q2 => by
      obtain ⟨ds, es, hR, hy, hz, q⟩ := q2
      obtain ⟨m, us, rfl, hm, hu⟩ := Rp.exact w2 r2 hy
      obtain ⟨l, o, s1, hl, ⟨vs, ho, hv⟩, _⟩ := w2.own i _ hR
      subst ho
      have s2 := r1.1
      rw [s1] at s2
      cases s2
      exact ⟨l, m, vs, us, rfl, rfl, hl, hm, by rw [dpAllLen hv, dpAllLen hu]; exact hz, fun z hz => .same (e1.trans e2) (.here (w2.allocH hz) (ownNew w2 hz (crL (dpAllApp hv hu))) q)⟩
theorem we_catO (h : WE X P a R fun x R1 => ∃ ds, x = .own (.lst ds) ∧ WE X P b R1 fun y R2 => ∃ es, vO R2 y = some es ∧ ds.length + es.length ≤ sizeLine ∧ Q (.own (.lst (ds ++ es))) R2) : WE X P (.BinOp a .Add b pos) R Q :=
  .of (pe_op op_cat pe_m pe_m) fun F σ Hd H w => h.use w fun Hd1 R1 x v H1 e1 w1 r1 q1 => by
    obtain ⟨ds, rfl, q1⟩ := q1
    obtain ⟨l, o, rfl, hl, ⟨vs, ho, hv⟩, hd, hf, hn⟩ := r1
    subst ho
    have hz0 : ¬ F.Fz l := fun z => (w1.prot l z).2 hf
    exact (q1.run (F.with l (.lst vs)) σ Hd1 H1 (w1.enter hl hd hn)).mono fun u H2 ⟨Hd2, R2, y, e2, w2, r2, q2⟩ => by
      obtain ⟨es, hy, hz, q⟩ := q2
      obtain ⟨m, us, rfl, hm, hu⟩ := Rp.exact w2 r2 hy
      obtain ⟨w3, g1, g2, g3⟩ := Wd.leave w2 hf hz0
      exact ⟨l, m, vs, us, rfl, rfl, g1, hm, by rw [dpAllLen hv, dpAllLen hu]; exact hz, fun z hz => .same (e1.trans e2) (.here (w3.allocH hz) (ownNew w3 hz (crL (dpAllApp (dpAllMono e2 hv) hu))) q)⟩
/-- xs or ys: lists -/
theorem we_orL (h : WE X P a R fun x R1 => ∃ ds, x = .own (.lst ds) ∧ (ds ≠ [] → Q (.own (.lst ds)) R1) ∧ (ds = [] → WE X P (.BoolOp .Or (b :: rest) pos) R1 Q)) : WE X P (.BoolOp .Or (a :: b :: rest) pos) R Q :=
  .of (pe_orT pe_m pe_m) fun F σ Hd H w => h.use w fun Hd1 R1 x v H1 e1 w1 r1 q1 => by
    obtain ⟨ds, rfl, g1, g2⟩ := q1
    obtain ⟨l, vs, rfl, hl, hv⟩ := Rp.list w1 r1 rfl
    refine ⟨!vs.isEmpty, .inl ⟨vs, hl, rfl⟩, ?_⟩
    cases ds with
    | nil =>
      cases hv
      exact iteF ((g2 rfl).use w1 fun Hd2 R2 y u H2 e2 w2 r2 q2 => .same (e1.trans e2) (.here w2 r2 q2))
    | cons d ds =>
      cases hv
      exact iteT (.same e1 (.here w1 r1 (g1 (by intro z; cases z))))
/-! == of ints, texts, truths -/
def sc2 : SV → SV → (Bool → Prop) → Prop
  | .d (.int i), .d (.int j), k => k (decide (i = j))
  | .d (.str i), .d (.str j), k => k (decide (i = j))
  | .d (.bool i), .d (.bool j), k => k (decide (i = j))
  | _, _, _ => False
theorem sc2_ok {K : PySem.W.Frag} {H : Hp} {F : Fr} {R : DS} {σ : L2.St} {Hd : Hp} {x y : SV} {v u : V} {k : Bool → Prop} (h : sc2 x y k) (r1 : Rp K F R σ Hd H x v) (r2 : Rp K F R σ Hd H y u) : scal v u = true ∧ k (decide (v = u)) := by
  unfold sc2 at h
  split at h
  · cases (show Dp _ _ v (.int _) from r1)
    cases (show Dp _ _ u (.int _) from r2)
    refine ⟨rfl, ?_⟩
    rw [dec_int, Bool.beq_eq_decide_eq]
    exact h
  · cases (show Dp _ _ v (.str _) from r1)
    cases (show Dp _ _ u (.str _) from r2)
    refine ⟨rfl, ?_⟩
    have e : ∀ i j : Str, decide (V.str i = V.str j) = decide (i = j) := fun i j => by
      by_cases z : i = j
      · subst z; simp
      · rw [decide_eq_false z, decide_eq_false fun y => z (V.str.inj y)]
    rw [e]
    exact h
  · cases (show Dp _ _ v (.bool _) from r1)
    cases (show Dp _ _ u (.bool _) from r2)
    refine ⟨rfl, ?_⟩
    rw [dec_bl, Bool.beq_eq_decide_eq]
    exact h
  · cases h
theorem fit_eqS (h : WE X P a R fun x R1 => stb x fun x => WE X P b R1 fun y R2 => (∃ d, vD R2 x = some d) ∧ sc2 x y fun c => Q (.d (.bool c)) R2) : Fits X P R (tOp rEq (TEm X a) (TEm X b)) Q :=
  two h fun F σ Hd H x y R2 v u Z w r1 r2 g k => by
    obtain ⟨g1, g2⟩ := sc2_ok g r1 r2
    exact ⟨g1, k _ _ (.here w (show Rp _ _ _ _ _ _ (.d (.bool _)) _ from .bl _) g2)⟩
theorem fit_neS (h : WE X P a R fun x R1 => stb x fun x => WE X P b R1 fun y R2 => (∃ d, vD R2 x = some d) ∧ sc2 x y fun c => Q (.d (.bool (!c))) R2) : Fits X P R (tOp rNe (TEm X a) (TEm X b)) Q :=
  two h fun F σ Hd H x y R2 v u Z w r1 r2 g k => by
    obtain ⟨g1, g2⟩ := sc2_ok g r1 r2
    exact ⟨g1, k _ _ (.here w (show Rp _ _ _ _ _ _ (.d (.bool _)) _ from .bl _) g2)⟩
theorem we_eqS (h : WE X P a R fun x R1 => stb x fun x => WE X P b R1 fun y R2 => (∃ d, vD R2 x = some d) ∧ sc2 x y fun c => Q (.d (.bool c)) R2) : WE X P (.Compare a [.Eq] [b] pos) R Q := .fit (pe_cmpR op_eq pe_m pe_m (nomark _)) (fit_eqS h)
theorem wt_eqS {Q : Bool → DS → Prop} (h : WE X P a R fun x R1 => stb x fun x => WE X P b R1 fun y R2 => (∃ d, vD R2 x = some d) ∧ sc2 x y fun c => Q c R2) : WT X P (.Compare a [.Eq] [b] pos) R Q :=
  .fit (pt_cmpR op_eq pe_m pe_m (nomark _)) (fit_eqS (Q := fun x R1 => asB x fun c => Q c R1) h)
theorem we_neS (h : WE X P a R fun x R1 => stb x fun x => WE X P b R1 fun y R2 => (∃ d, vD R2 x = some d) ∧ sc2 x y fun c => Q (.d (.bool (!c))) R2) : WE X P (.Compare a [.NotEq] [b] pos) R Q := .fit (pe_cmpR op_ne pe_m pe_m (nomark _)) (fit_neS h)
theorem wt_neS {Q : Bool → DS → Prop} (h : WE X P a R fun x R1 => stb x fun x => WE X P b R1 fun y R2 => (∃ d, vD R2 x = some d) ∧ sc2 x y fun c => Q (!c) R2) : WT X P (.Compare a [.NotEq] [b] pos) R Q :=
  .fit (pt_cmpR op_ne pe_m pe_m (nomark _)) (fit_neS (Q := fun x R1 => asB x fun c => Q c R1) h)
/-! isinstance with a built-in class -/
def tyN : D → String
  | .none => "NoneType" | .bool _ => "bool" | .int _ => "int" | .str _ => "str" | .list _ => "list" | .tuple _ => "tuple" | .dict _ => "dict"
end
end Dl
namespace Dl
open PySem PySem.Spec PyProof.Rows L2
/-! isinstance with a built-in class -/
theorem ty_of {K : PySem.W.Frag} {H : Hp} {v : V} {x : D} (h : Dp K H v x) : TyX K H v (.type (tyN x)) := by
  cases h with
  | non => exact .base .non
  | bl b => exact .base (.bl b)
  | int i => exact .base (.int i)
  | str x => exact .base (.str x)
  | lst hs ha =>
    rcases hs with (hs | ⟨o, hs⟩) | ⟨o, its, n, hk, hc, _⟩
    · exact .base (.lst hs)
    · exact .base (.frz hs)
    · exact .kList hk hc
  | tup hs ha =>
    rcases hs with (hs | ⟨o, hs⟩) | ⟨o, its, n, hk, hc, _⟩
    · exact .base (.tup hs)
    · exact .fTuple hs
    · exact .kTuple hk hc

section
variable {X : Cx} {P : List Nat} {R : DS} {a b c e kx vx tg it : Expr} {scope : Scope} {js : List Nat} {pos p p2 : Pos} {Q : SV → DS → Prop}
theorem we_isi {y : Str} {T : String} (hm : X.mg "isinstance" = none) (hg : Gl X "isinstance") (hm2 : X.mg y = none) (hg2 : Gl X y) (hv : bootBuiltins y = some (.type T))
    (h : WE X P a R fun x R1 => ∃ d k, vD R1 x = some d ∧ kitB (tyN d) T = some k ∧ Q (.d (.bool k)) R1) (hn : y ≠ "__name__" := by decide) (hd : (y == ("__debug__" : Str)) = false := by decide)
    (he : starEach [a, .Name y p2] X.env = (false, eval a X.env) :: starEach [.Name y p2] X.env := by rfl) (he2 : starEach [.Name y p2] X.env = (false, eval (.Name y p2) X.env) :: starEach [] X.env := by rfl) (hpl : (backTo pos (starEach [.Name y p2] X.env)).any (·.1) = false := by rfl) :
    WE X P (.Call (.Name "isinstance" p) [a, .Name y p2] [] pos) R Q :=
  .of (pe_callB call_isi hg hm (by decide +kernel) (pa_cons pe_m (pa_cons (pe_bltn (v := .ty T) hg2 hm2 hv rfl hn hd) pa_nil he2) he) (by decide) (by decide) he hpl) fun F σ Hd H w => h.use w fun Hd1 R1 x v H1 e1 w1 r1 q1 => by
    obtain ⟨d, k, hd, hk, q⟩ := q1
    exact ⟨v, .ty T, _, _, k, rfl, .ty T, ty_of (Rp.dat w1 r1 hd), kit_ty hk, .same e1 (.here w1 (show Rp _ _ _ _ _ _ (.d (.bool k)) _ from .bl k) q)⟩

/-! {k: v for ..}: int keys, over a list, no test -/
def LpD (K : PySem.W.Frag) (F : Fr) (P : List Nat) (τ : L2.St) (Hd1 : Hp) (I : Nat → List (Key × D) → DS → Prop) (Dl : Addr) (i : Nat) (H' : Hp) : Prop :=
  ∃ Hd' R' ws kvs, Same Hd1 Hd' ∧ Wd K F P R' τ Hd' H' ∧ H' Dl = some (.dK ws) ∧ Paired (fun (p : Key × D) (q : Key × V) => p.1 = q.1 ∧ Dp K Hd' q.2 p.2) kvs ws ∧ Hd' Dl = none ∧ NoOwn R' τ Dl ∧ kvs.length ≤ i ∧ I i kvs R'
theorem putD_len {κ : Type} [DecidableEq κ] (kvs : List (κ × D)) (k : κ) (v : D) : (putD kvs k v).length ≤ kvs.length + 1 := by
  unfold putD
  split
  · rw [List.length_map]; omega
  · rw [List.length_append]; simp
def TnD (X : Cx) (P : List Nat) (scope : Scope) (tg kx vx : Expr) (js vs : List Nat) (I : Nat → List (Key × D) → DS → Prop) (i : Nat) (kvs : List (Key × D)) (x : D) (R' : DS) : Prop :=
  AllB X scope fun Y => WG Y P tg js R' x fun R2 => AllB X scope fun Y => WE Y P kx R2 fun y R3 => asI y fun n => AllB X scope fun Y => WE Y P vx R3 fun z R4 => asD z fun d => I (i + 1) (putD kvs (Sum.inl n) d) (wipeR R4 vs)
theorem dc_fits (own : List (Str × Nat)) (js : List Nat) (hvs : ∀ v ∈ own.map (·.2), v ∉ P) (hj : ∀ j ∈ js, j ∈ own.map (·.2))
    (h : WE X P it R fun sv R1 => asD sv fun d => ∃ (xs : List D) (I : Nat → List (Key × D) → DS → Prop), d = .list xs ∧ xs.length ≤ sizeLine ∧ I 0 [] (wipeR R1 (own.map (·.2))) ∧
      (∀ i x kvs R', xs[i]? = some x → I i kvs R' → TnD X P scope tg kx vx js (own.map (·.2)) I i kvs x R') ∧ ∀ kvs R', I xs.length kvs R' → Q (.own (.dK kvs)) R') : Fits X P R (tDc (iList X.K (TEm X it)) (gB X scope tg) tYes (teB X scope kx) (teB X scope vx) (own.map (·.2))) Q :=
  fun F σ Hd H w Z hZ => h.fzD.use w fun Hd1 R1 sv v H1 e1 w1 r1 q1 => by
    obtain ⟨d, rfl, xs, I, rfl, hl, i0, step, fin⟩ := q1
    have r' : Dp X.K Hd1 v (.list xs) := r1
    cases r' with
    | lst hS hv =>
      rename_i ad ws
      refine ⟨ad, rfl, ⟨ws, w1.dat.seq hS⟩, fun Dl hD => ?_⟩
      have hf : F.Hf Dl = none := sameNone w1.frm hD
      have hz : ¬ F.Fz Dl := fun z => (w1.prot Dl z).2 hf
      have no : NoOwn R1 σ Dl := fun i n q z => by
        obtain ⟨b, u, s1, s2, _⟩ := w1.own i n q
        rw [z] at s1
        cases s1
        rw [hD] at s2
        cases s2
      have l0 : LpD X.K F P (wipe σ (own.map (·.2))) Hd1 I Dl 0 (upd H1 Dl (.dK [])) := ⟨Hd1, _, [], [], Same.refl _, (w1.allocH hD).wiped hvs, upd_same, .nil, sameNone w1.dat hD, no.wiped, Nat.le_refl _, i0⟩
      refine ⟨fun i m H' => m = ws.length - i ∧ i ≤ ws.length ∧ LpD X.K F P (wipe σ (own.map (·.2))) Hd1 I Dl i H', ⟨ws.length, by simp, Nat.zero_le _, l0⟩, fun i m H' hW => ?_⟩
      obtain ⟨rfl, hi, hL⟩ := hW
      have hL0 := hL
      obtain ⟨Hd', R', va, kvs, e, w', h1, h2, h3, h4, h5, h6⟩ := hL
      have hA : SqL X.K H' ad ws := w'.dat.seq (e.seq hS)
      by_cases hlt : i < ws.length
      · have hx : ws[i]? = some ws[i] := List.getElem?_eq_getElem hlt
        obtain ⟨x, hx1, hdp⟩ := dpAllGetV hv hx
        have hi2 : i < xs.length := (List.getElem?_eq_some_iff.mp hx1).1
        refine .inr ⟨⟨ws, _, hA, hx⟩, LpD X.K F P (wipe σ (own.map (·.2))) Hd1 I Dl (i + 1), fun H2 hN2 => ⟨ws.length - (i + 1), by omega, rfl, hlt, hN2⟩, fun y H2 hy => ?_⟩
        obtain ⟨rfl, fy⟩ := hy
        have ey : y = ws[i] := Option.some.inj ((fy _ hA).symm.trans hx)
        subst ey
        intro s H0 C cl fp
        refine ((step i x kvs R' hx1 h6 s H0 C cl fp).run (F.with Dl (.dK va)) _ Hd' _ _ (w'.enter h1 h3 h4) (dpMono e hdp)).mono fun σ2 H2 ⟨Hd2, R2, e2, w2, wp, q2⟩ => ?_
        have hw : wipe σ2 (own.map (·.2)) = wipe σ (own.map (·.2)) := by rw [wp _ hj, wipe_wipe]
        refine ⟨hw, iteT (B := LpD X.K F P (wipe σ (own.map (·.2))) Hd1 I Dl (i + 1) H2) fun s H0 C cl fp => (q2 s H0 C cl fp).use w2 fun Hd3 R3 y3 u3 H3 e3 w3 r3 q3 => ?_⟩
        obtain ⟨n, rfl, q3⟩ := q3.elim
        cases (show Dp _ _ u3 (.int n) from r3)
        intro s H0 C cl fp
        refine (q3 s H0 C cl fp).fzD.use w3 fun Hd4 R4 y4 u4 H4 e4 w4 r4 q4 => ?_
        obtain ⟨d4, rfl, q4⟩ := q4
        obtain ⟨w5, g1, g2, g3⟩ := Wd.leave w4 hf hz
        have hv2 : Paired (fun (p : Key × D) (q : Key × V) => p.1 = q.1 ∧ Dp X.K Hd4 q.2 p.2) kvs va := Paired.mapP h2 fun _ _ q => ⟨q.1, dpMono ((e2.trans e3).trans e4) q.2⟩
        refine ⟨va, Sum.inl n, rfl, g1, by rw [pairedLen hv2]; omega, Hd4, wipeR R4 (own.map (·.2)), _, putD kvs (Sum.inl n) d4, ((e.trans e2).trans e3).trans e4, ?_, upd_same, put_dp (Sum.inl n) r4 hv2, g2, ?_, Nat.le_trans (putD_len kvs (Sum.inl n) d4) (by omega), q4⟩
        · rw [← hw]
          exact (w5.poke g2 hf g3).wiped hvs
        · rw [← hw]
          exact g3.wiped
      · have ei : i = xs.length := by rw [← dpAllLen hv]; omega
        subst ei
        exact .inl ⟨⟨ws, hA, by omega⟩, hZ _ _ ⟨Hd', R', .own (.dK kvs), e1.trans e, w'.unwipe, ⟨Dl, _, rfl, h1, crK h2, h3, hf, h4.unwipe w'⟩, fin kvs R' h6⟩⟩
theorem we_dc0 (own : List (Str × Nat)) (js : List Nat) (hc : X.calm = true) (hN : X.N.Nodup) (ok : BlkOk X.N X.env.scope scope own) (hvs : ∀ v ∈ own.map (·.2), v ∉ P) (hj : ∀ j ∈ js, j ∈ own.map (·.2))
    (h : WE X P it R fun sv R1 => asD sv fun d => ∃ (xs : List D) (I : Nat → List (Key × D) → DS → Prop), d = .list xs ∧ xs.length ≤ sizeLine ∧ I 0 [] (wipeR R1 (own.map (·.2))) ∧
      (∀ i x kvs R', xs[i]? = some x → I i kvs R' → TnD X P scope tg kx vx js (own.map (·.2)) I i kvs x R') ∧ ∀ kvs R', I xs.length kvs R' → Q (.own (.dK kvs)) R')
    (hs : ∀ x, foldedSetIterable it X.env x = pure x := by intro _; rfl) : WE X P (.DictComp kx vx [⟨tg, it, [], 0⟩] scope pos) R Q :=
  .fit (pe_dc (own := own) hc hN (pi_list pe_m) ok (fun s H C cl fp => (⟨fun pins s' σ H' v u Z I r h => h s H C cl fp pins s' u I r⟩ : PG _ tg (gB X scope tg))) (fun _ _ _ _ _ => pts_nil) (fun s H C cl fp => (⟨fun pins s' σ H' Z I h => h s H C cl fp pins s' I⟩ : PE _ kx (teB X scope kx)))
    (fun s H C cl fp => (⟨fun pins s' σ H' Z I h => h s H C cl fp pins s' I⟩ : PE _ vx (teB X scope vx))) hs) (dc_fits own js hvs hj h)
end
end Dl
namespace Dl
open PySem PySem.Spec PyProof.Rows L2
theorem atI_of {α : Type} {xs : List α} {i : Int} {v : α} (h0 : 0 ≤ i) (h : xs[i.toNat]? = some v) : atI xs i = some v := by
  have e : i = ((i.toNat : Nat) : Int) := by omega
  have := atI_nat h
  rw [← e] at this
  exact this
theorem rep_one {α : Type} (x : α) : ∀ n : Nat, (List.replicate n [x]).flatten = List.replicate n x
  | 0 => rfl
  | n + 1 => by rw [List.replicate_succ, List.replicate_succ, List.flatten_cons, rep_one x n]; rfl
theorem lay_ints : ∀ ns : List Int, PyData.canLayAll0 (ns.map PyData.int) = true
  | [] => rfl
  | n :: r => by
    rw [List.map_cons]
    show (PyData.canLay0 (.int n) && PyData.canLayAll0 (r.map PyData.int)) = true
    rw [lay_ints r]
    rfl
theorem depth_ints : ∀ ns : List Int, PyData.depthAll (ns.map PyData.int) = 0
  | [] => rfl
  | n :: r => by
    rw [List.map_cons]
    show max (PyData.depth (.int n)) (PyData.depthAll (r.map PyData.int)) = 0
    rw [depth_ints r]
    rfl
theorem shaped_ints (ns : List Int) : SeqAt.shaped (.list (ns.map PyData.int)) = true := by
  unfold SeqAt.shaped
  rw [Bool.and_eq_true, decide_eq_true_eq]
  refine ⟨lay_ints ns, ?_⟩
  show PyData.depthAll (ns.map PyData.int) + 1 ≤ 64
  rw [depth_ints]
  decide
theorem eqv_int (i j : Int) : PyData.eqv (.int i) (.int j) = (i == j) := by simp [PyData.eqv]
theorem eqvAll_ints : ∀ a b : List Int, PyData.eqvAll (a.map PyData.int) (b.map PyData.int) = decide (a = b)
  | [], [] => by simp [PyData.eqvAll]
  | [], y :: b => by simp [PyData.eqvAll]
  | x :: a, [] => by simp [PyData.eqvAll]
  | x :: a, y :: b => by
    rw [List.map_cons, List.map_cons]
    show (PyData.eqv (.int x) (.int y) && PyData.eqvAll (a.map PyData.int) (b.map PyData.int)) = _
    rw [eqvAll_ints a b, eqv_int]
    by_cases h : x = y
    · subst h
      simp
    · simp [h]
theorem eqv_ints (a b : List Int) : PyData.eqv (.list (a.map PyData.int)) (.list (b.map PyData.int)) = decide (a = b) := by
  rw [← eqvAll_ints]
  simp [PyData.eqv]
/-- lists of ints against one another -/
theorem gEq_ints {R2 : DS} {x y : SV} {a b : List Int} {k : Bool → Prop} (h1 : vD R2 x = some (.list (a.map PyData.int))) (h2 : vD R2 y = some (.list (b.map PyData.int))) (q : k (decide (a = b))) : gEq R2 x y k :=
  ⟨_, _, h1, h2, shaped_ints a, shaped_ints b, by rw [eqv_ints]; exact q⟩
end Dl
namespace Dl
open PySem PySem.Spec PyProof.Rows L2
theorem allB_i {X : Cx} {scope : Scope} {f : Cx → Prop} (h : ∀ (s : Shared) (H : Hp) (C : Addr) (cl : List (Str × Addr)) (fp : List Addr), f (X.blk s H scope (compEnvC scope cl C X.env) fp)) : AllB X scope f := h
theorem wgs_consN {X : Cx} {P : List Nat} {R : DS} {e : Expr} {es : List Expr} {j : Nat} {ks : List Nat} {x : D} {xs : List D} {Q : DS → Prop} (h : WG X P e [j] R x fun R1 => WGs X P es ks R1 xs Q)
    (hs : (assignEach (e :: es) X.env).map (·.2) = assign e X.env :: (assignEach es X.env).map (·.2) := by rfl) : WGs X P (e :: es) (j :: ks) R (x :: xs) Q := wgs_cons h hs
theorem wt_bool {X : Cx} {P : List Nat} {R : DS} {op : _} {es : List Expr} {pos : Pos} {Q : Bool → DS → Prop} (h : WW X P (.BoolOp op es pos) R Q) : WT X P (.BoolOp op es pos) R Q := wt_w h
theorem gIn_l {R2 : DS} {x y : SV} {k : Bool → Prop} (i : Int) (ns : List Int) (hx : x = .d (.int i)) (hy : vL R2 y = some (ns.map PyData.int)) (q : k (decide (i ∈ ns))) : gIn R2 x y k := ⟨i, ns, hx, hy, q⟩
theorem gInD_l {R2 : DS} {x y : SV} {k : Bool → Prop} (i : Int) (j : Nat) (kvs : List (Key × D)) (hx : x = .d (.int i)) (hy : y = .loc j) (hR : R2[j]? = some (.own (.dK kvs))) (q : k (hasK kvs (Sum.inl i))) : gInD R2 x y k := ⟨i, j, kvs, hx, hy, hR, q⟩
theorem ws_fz (i : Nat) {X : Cx} {P : List Nat} {R : DS} {st : Stmt} {D' : DEnds} {ds : List D} (hi : R[i]? = some (.own (.lst ds))) (hP : i ∉ P) (h : WS X P st (R.set i (.d (.list ds))) D') : WS X P st R D' :=
  ⟨fun F σ Hd H w => by
    obtain ⟨Hd1, v, _, e1, w1, _⟩ := w.fz hi hP
    exact (h.run F σ Hd1 H w1).mono (upD_le e1)⟩
theorem sz1000 : 1000 ≤ sizeLine := by decide
theorem szle {n : Nat} (h : n ≤ 1000) : n ≤ sizeLine := Nat.le_trans h sz1000
/-! +, *, ==, slices: by what the left one is -/
def asT : SV → (List D → Prop) → Prop
  | .d (.tuple ds), k => k ds
  | _, _ => False
theorem asT.elim {sv : SV} {k : List D → Prop} (h : asT sv k) : ∃ ds, sv = .d (.tuple ds) ∧ k ds := by
  unfold asT at h
  split at h
  · exact ⟨_, rfl, h⟩
  · cases h
section
variable {X : Cx} {P : List Nat} {R : DS} {a b e : Expr} {pos : Pos} {Q : SV → DS → Prop}
def addG (X : Cx) (P : List Nat) (b : Expr) (Q : SV → DS → Prop) (R1 : DS) : SV → Prop
  | .d (.int i) => WE X P b R1 fun y R2 => asI y fun j => Q (.d (.int (i + j))) R2
  | .d (.tuple ds) => WE X P b R1 fun y R2 => asT y fun es => ds.length + es.length ≤ sizeLine ∧ Q (.d (.tuple (ds ++ es))) R2
  | .loc i => WE X P b R1 fun y R2 => ∃ ds es, R2[i]? = some (.own (.lst ds)) ∧ vO R2 y = some es ∧ ds.length + es.length ≤ sizeLine ∧ Q (.own (.lst (ds ++ es))) R2
  | .own (.lst ds) => WE X P b R1 fun y R2 => ∃ es, vO R2 y = some es ∧ ds.length + es.length ≤ sizeLine ∧ Q (.own (.lst (ds ++ es))) R2
  | _ => False
theorem we_addG (h : WE X P a R fun x R1 => addG X P b Q R1 x) : WE X P (.BinOp a .Add b pos) R Q :=
  .of (pe_op (op_add.or (op_catA.or op_cat)) pe_m pe_m) fun F σ Hd H w => h.use w fun Hd1 R1 x v H1 e1 w1 r1 q1 => by
    unfold addG at q1
    split at q1
    · rename_i i
      cases (show Dp _ _ v (.int i) from r1)
      exact q1.use w1 fun Hd2 R2 y u H2 e2 w2 r2 q2 => by
        obtain ⟨j, rfl, q⟩ := q2.elim
        cases (show Dp _ _ u (.int j) from r2)
        exact .inl ⟨i, j, rfl, rfl, .same (e1.trans e2) (.here w2 (show Rp _ _ _ _ _ _ (.d (.int (i + j))) _ from .int _) q)⟩
    · rename_i ds
      exact q1.use w1 fun Hd2 R2 y u H2 e2 w2 r2 q2 => by
        obtain ⟨es, rfl, hz, q⟩ := q2.elim
        obtain ⟨l, vs, rfl, _, hT, hv⟩ := Rp.tup (sv := .d (.tuple ds)) w2 (show Rp _ _ _ _ _ _ (.d (.tuple ds)) v from dpMono e2 r1) rfl
        obtain ⟨m, us, rfl, _, hU, hu⟩ := Rp.tup (sv := .d (.tuple es)) w2 r2 rfl
        refine .inr (.inl ⟨l, m, vs, us, rfl, rfl, hT, hU, by rw [dpAllLen hv, dpAllLen hu]; exact hz, fun z => ?_, fun _ z => ?_, fun _ _ z hz => ?_⟩)
        · subst z
          cases hv
          exact .same (e1.trans e2) (.here w2 r2 q)
        · subst z
          cases hu
          rw [List.append_nil] at q
          exact .same (e1.trans e2) (.here w2 (show Rp _ _ _ _ _ _ (.d (.tuple ds)) _ from dpMono e2 r1) q)
        · obtain ⟨w3, s3⟩ := w2.allocD (o := .tup (vs ++ us)) hz
          exact .same ((e1.trans e2).trans s3) (.here w3 (show Rp _ _ _ _ _ _ (.d (.tuple (ds ++ es))) _ from Dp.tup (SqT.of upd_same) (dpAllApp (dpAllMono s3 hv) (dpAllMono s3 hu))) q)
    · rename_i i
      exact q1.use w1 fun Hd2 R2 y u H2 e2 w2 r2 q2 => by
        obtain ⟨ds, es, hR, hy, hz, q⟩ := q2
        obtain ⟨m, us, rfl, hm, hu⟩ := Rp.exact w2 r2 hy
        obtain ⟨l, o, s1, hl, ⟨vs, ho, hv⟩, _⟩ := w2.own i _ hR
        subst ho
        have s2 := r1.1
        rw [s1] at s2
        cases s2
        exact .inr (.inr ⟨l, m, vs, us, rfl, rfl, hl, hm, by rw [dpAllLen hv, dpAllLen hu]; exact hz, fun z hz => .same (e1.trans e2) (.here (w2.allocH hz) (ownNew w2 hz (crL (dpAllApp hv hu))) q)⟩)
    · rename_i ds
      obtain ⟨l, o, rfl, hl, ⟨vs, ho, hv⟩, hd, hf, hn⟩ := r1
      subst ho
      have hz0 : ¬ F.Fz l := fun z => (w1.prot l z).2 hf
      exact (q1.run (F.with l (.lst vs)) σ Hd1 H1 (w1.enter hl hd hn)).mono fun u H2 ⟨Hd2, R2, y, e2, w2, r2, q2⟩ => by
        obtain ⟨es, hy, hz, q⟩ := q2
        obtain ⟨m, us, rfl, hm, hu⟩ := Rp.exact w2 r2 hy
        obtain ⟨w3, g1, g2, g3⟩ := Wd.leave w2 hf hz0
        exact .inr (.inr ⟨l, m, vs, us, rfl, rfl, g1, hm, by rw [dpAllLen hv, dpAllLen hu]; exact hz, fun z hz => .same (e1.trans e2) (.here (w3.allocH hz) (ownNew w3 hz (crL (dpAllApp (dpAllMono e2 hv) hu))) q)⟩)
    · cases q1
def mulG (X : Cx) (P : List Nat) (b : Expr) (Q : SV → DS → Prop) (R1 : DS) : SV → Prop
  | .d (.int i) => WE X P b R1 fun y R2 => asI y fun j => CMul i j ∧ Q (.d (.int (i * j))) R2
  | .d (.tuple ds) => WE X P b R1 fun y R2 => asI y fun k => (ds ≠ [] ∧ 1 ≤ k ∧ k ≤ 1000 ∧ ds.length ≤ 1000) ∧ Q (.d (.tuple (List.replicate k.toNat ds).flatten)) R2
  | _ => False
theorem we_mulG (h : WE X P a R fun x R1 => mulG X P b Q R1 x) : WE X P (.BinOp a .Mult b pos) R Q :=
  .of (pe_op (op_mul.or (op_repT.or op_once)) pe_m pe_m) fun F σ Hd H w => h.use w fun Hd1 R1 x v H1 e1 w1 r1 q1 => by
    unfold mulG at q1
    split at q1
    · rename_i i
      cases (show Dp _ _ v (.int i) from r1)
      exact q1.use w1 fun Hd2 R2 y u H2 e2 w2 r2 q2 => by
        obtain ⟨j, rfl, c, q⟩ := q2.elim
        cases (show Dp _ _ u (.int j) from r2)
        exact .inl ⟨i, j, rfl, rfl, c, .same (e1.trans e2) (.here w2 (show Rp _ _ _ _ _ _ (.d (.int (i * j))) _ from .int _) q)⟩
    · rename_i ds
      exact q1.use w1 fun Hd2 R2 y u H2 e2 w2 r2 q2 => by
        obtain ⟨k, rfl, ⟨g1, g2, g3, g4⟩, q⟩ := q2.elim
        cases (show Dp _ _ u (.int k) from r2)
        obtain ⟨l, vs, rfl, _, hT, hv⟩ := Rp.tup (sv := .d (.tuple ds)) w2 (show Rp _ _ _ _ _ _ (.d (.tuple ds)) v from dpMono e2 r1) rfl
        have hne : vs ≠ [] := fun z => g1 (by
          have := dpAllLen hv
          rw [z] at this
          exact List.eq_nil_of_length_eq_zero this.symm)
        by_cases hk : k = 1
        · subst hk
          refine .inr (.inr ⟨l, vs, rfl, rfl, hT, .same (e1.trans e2) (.here w2 (sv := .d (.tuple (List.replicate (Int.toNat 1) ds).flatten)) ?_ q)⟩)
          have e : (List.replicate (Int.toNat 1) ds).flatten = ds := by
            show (List.replicate 1 ds).flatten = ds
            rw [List.replicate_one, List.flatten_cons, List.flatten_nil, List.append_nil]
          rw [e]
          exact dpMono e2 r1
        · refine .inr (.inl ⟨l, k, vs, rfl, rfl, hT, hne, by omega, g3, by rw [dpAllLen hv]; exact g4, fun z hz => ?_⟩)
          obtain ⟨w3, s3⟩ := w2.allocD (o := .tup (List.replicate k.toNat vs).flatten) hz
          exact .same ((e1.trans e2).trans s3) (.here w3 (show Rp _ _ _ _ _ _ (.d (.tuple (List.replicate k.toNat ds).flatten)) _ from Dp.tup (SqT.of upd_same) (rep_dp (dpAllMono s3 hv) _)) q)
    · cases q1
def eqG (R2 : DS) (x y : SV) (k : Bool → Prop) : Prop := match x, y with
  | .d (.int i), .d (.int j) => k (decide (i = j))
  | .d (.str i), .d (.str j) => k (decide (i = j))
  | .d (.bool i), .d (.bool j) => k (decide (i = j))
  | x, y => gEq R2 x y k
theorem eqG_or {R2 : DS} {x y : SV} {k : Bool → Prop} (h : eqG R2 x y k) : sc2 x y k ∨ gEq R2 x y k := by
  unfold eqG at h
  split at h
  · exact .inl h
  · exact .inl h
  · exact .inl h
  · exact .inr h
theorem fit_eqG (h : WE X P a R fun x R1 => stb x fun x => WE X P b R1 fun y R2 => (∃ d, vD R2 x = some d) ∧ eqG R2 x y fun c => Q (.d (.bool c)) R2) : Fits X P R (tOp (fun x y H Q => rEq x y H Q ∨ rEqD X.K x y H Q) (TEm X a) (TEm X b)) Q :=
  two h fun F σ Hd H x y R2 v u Z w r1 r2 g k => by
    rcases eqG_or g with g | ⟨d, d', h1, h2, s1, s2, q⟩
    · obtain ⟨g1, g2⟩ := sc2_ok g r1 r2
      exact .inl ⟨g1, k _ _ (.here w (show Rp _ _ _ _ _ _ (.d (.bool _)) _ from .bl _) g2)⟩
    · exact .inr ⟨d, d', Rp.dat w r1 h1, Rp.dat w r2 h2, s1, s2, k _ _ (.here w (show Rp _ _ _ _ _ _ (.d (.bool _)) _ from .bl _) q)⟩
theorem fit_neG (h : WE X P a R fun x R1 => stb x fun x => WE X P b R1 fun y R2 => (∃ d, vD R2 x = some d) ∧ eqG R2 x y fun c => Q (.d (.bool (!c))) R2) : Fits X P R (tOp (fun x y H Q => rNe x y H Q ∨ rNeD X.K x y H Q) (TEm X a) (TEm X b)) Q :=
  two h fun F σ Hd H x y R2 v u Z w r1 r2 g k => by
    rcases eqG_or g with g | ⟨d, d', h1, h2, s1, s2, q⟩
    · obtain ⟨g1, g2⟩ := sc2_ok g r1 r2
      exact .inl ⟨g1, k _ _ (.here w (show Rp _ _ _ _ _ _ (.d (.bool _)) _ from .bl _) g2)⟩
    · exact .inr ⟨d, d', Rp.dat w r1 h1, Rp.dat w r2 h2, s1, s2, k _ _ (.here w (show Rp _ _ _ _ _ _ (.d (.bool _)) _ from .bl _) q)⟩
theorem we_eqG {k : Nat} (hr : Room k X.A) (h : WE X P a R fun x R1 => stb x fun x => WE X P b R1 fun y R2 => (∃ d, vD R2 x = some d) ∧ eqG R2 x y fun c => Q (.d (.bool c)) R2) : WE X P (.Compare a [.Eq] [b] pos) R Q :=
  .fit (pe_cmpR (op_eq.or (op_eqD hr.units)) pe_m pe_m (nomark _)) (fit_eqG h)
theorem wt_eqG {k : Nat} {Q : Bool → DS → Prop} (hr : Room k X.A) (h : WE X P a R fun x R1 => stb x fun x => WE X P b R1 fun y R2 => (∃ d, vD R2 x = some d) ∧ eqG R2 x y fun c => Q c R2) : WT X P (.Compare a [.Eq] [b] pos) R Q :=
  .fit (pt_cmpR (op_eq.or (op_eqD hr.units)) pe_m pe_m (nomark _)) (fit_eqG (Q := fun x R1 => asB x fun c => Q c R1) h)
theorem we_neG {k : Nat} (hr : Room k X.A) (h : WE X P a R fun x R1 => stb x fun x => WE X P b R1 fun y R2 => (∃ d, vD R2 x = some d) ∧ eqG R2 x y fun c => Q (.d (.bool (!c))) R2) : WE X P (.Compare a [.NotEq] [b] pos) R Q :=
  .fit (pe_cmpR (op_ne.or (op_neD hr.units)) pe_m pe_m (nomark _)) (fit_neG h)
theorem wt_neG {k : Nat} {Q : Bool → DS → Prop} (hr : Room k X.A) (h : WE X P a R fun x R1 => stb x fun x => WE X P b R1 fun y R2 => (∃ d, vD R2 x = some d) ∧ eqG R2 x y fun c => Q (!c) R2) : WT X P (.Compare a [.NotEq] [b] pos) R Q :=
  .fit (pt_cmpR (op_ne.or (op_neD hr.units)) pe_m pe_m (nomark _)) (fit_neG (Q := fun x R1 => asB x fun c => Q c R1) h)
/-- x[lo:hi]: a list (a new one), a tuple -/
def slG (Q : SV → DS → Prop) (R3 : DS) (l u : Option Int) : SV → Prop
  | .d (.tuple ds) => Q (.d (.tuple (cutD ds l u))) R3
  | .d (.list ds) => Q (.own (.lst (cutD ds l u))) R3
  | .loc i => ∃ ds, R3[i]? = some (.own (.lst ds)) ∧ Q (.own (.lst (cutD ds l u))) R3
  | _ => False
theorem we_slG {lo hi : Option Expr} {p2 : Pos} (h : WE X P a R fun x R1 => stb x fun x => WO X P lo R1 fun l R2 => WO X P hi R2 fun u R3 => slG Q R3 l u x) : WE X P (.Subscript a (.Slice lo hi none p2) pos) R Q :=
  .of (pe_slice (sl_list.or sl_tupA) pe_m po_m po_m) fun F σ Hd H w => h.stb.use w fun Hd1 R1 x v H1 e1 w1 r1 q1 => q1.2.use w1 fun Hd2 R2 l H2 e2 w2 q2 => q2.use w2 fun Hd3 R3 u H3 e3 w3 q => by
    have lst : ∀ ds, vL R3 x = some ds → vD R3 x = some (.list ds) → Q (.own (.lst (cutD ds l u))) R3 → rSlL X.K v l u H3 (Post X.K F P σ Hd Q) := fun ds h1 h2 q => by
      obtain ⟨p, vs, rfl, hl, hc⟩ := Rp.list w3 (Rp.on q1.1 r1 (e2.trans e3) h2) h1
      exact ⟨p, vs, rfl, hl, fun z hz => .same ((e1.trans e2).trans e3) (.here (w3.allocH hz) (ownNew w3 hz (crL (cut_dp hc l u))) q)⟩
    unfold slG at q
    split at q
    · rename_i ds
      obtain ⟨p, vs, rfl, _, hl, hc⟩ := Rp.tup (sv := .d (.tuple ds)) w3 (show Rp _ _ _ _ _ _ (.d (.tuple ds)) v from dpMono (e2.trans e3) r1) rfl
      refine .inr ⟨p, vs, rfl, hl, fun hw => ?_, fun _ z hz => ?_⟩
      · have e : cutD ds l u = ds := by
          unfold cutD
          rw [dpAllLen hc] at hw
          rw [hw.1, hw.2, List.drop_zero, Nat.sub_zero, List.take_length]
        rw [e] at q
        exact .same ((e1.trans e2).trans e3) (.here w3 (show Rp _ _ _ _ _ _ (.d (.tuple ds)) _ from dpMono (e2.trans e3) r1) q)
      · obtain ⟨w4, s4⟩ := w3.allocD (o := .tup (cutV vs l u)) hz
        exact .same (((e1.trans e2).trans e3).trans s4) (.here w4 (show Rp _ _ _ _ _ _ (.d (.tuple (cutD ds l u))) _ from Dp.tup (SqT.of upd_same) (dpAllMono s4 (cut_dp hc l u))) q)
    · rename_i ds
      exact .inl (lst ds rfl rfl q)
    · rename_i i
      obtain ⟨ds, hR, q⟩ := q
      exact .inl (lst ds (by unfold vL; simp only [hR]) (by unfold vD; simp only [hR]) q)
    · cases q
theorem isWO {o : Option Expr} {Q : Option Int → DS → Prop} (h : WO X P o R Q) : WO X P o R Q := h
end
end Dl
namespace Dl
open PySem PySem.Spec PyProof.Rows L2
theorem nrmB {Z : DS → Prop} {R : DS} (R' : DS) (h : R = R') (q : Z R') : Z R := h ▸ q
theorem asI_i {i : Int} {k : Int → Prop} (h : k i) : asI (.d (.int i)) k := h
theorem asD_d {x : D} {k : D → Prop} (h : k x) : asD (.d x) k := h
theorem asD_o {ds : List D} {k : D → Prop} (h : k (.list ds)) : asD (.own (.lst ds)) k := h
theorem asB_b {i : Bool} {k : Bool → Prop} (h : k i) : asB (.d (.bool i)) k := h
section
variable {X : Cx} {P : List Nat} {R : DS} {kx vx tg it : Expr} {scope : Scope} {pos : Pos}
theorem sw_dict {gs : List Comprehension} {py : Pos} {y : Str} {l : Nat} {env : Env} (h1 : env.scope.kind = .function) (h2 : env.scope.names.lookup y = some .local) (h3 : (py.line == pos.line) = true)
    (h4 : (scope.names.any fun (n, k) => n == y && (k == .local || k == .cell)) = false) : swapsWith (.DictComp kx vx gs scope pos) (some (.Name y py)) l env = pure true := by
  have a1 : env.kindOf y = some .local := h2
  have a2 : env.blockKind = .function := by
    unfold Env.blockKind
    rw [h1]
    rfl
  unfold swapsWith
  simp only [a2, a1, h4, Expr.pos, h3]
  rfl
theorem ps_setDc {i : Nat} {y : Str} {py spos : Pos} {own : List (Str × Nat)} {wi : TI} {g : TG} {tt : TT} {tk tv : TE} (hc : X.calm = true) (hN : X.N.Nodup) (hy : X.N[i]? = some y) (hyl : X.env.scope.names.lookup y = some .local)
    (hsw : swapsWith (.DictComp kx vx [⟨tg, it, [], 0⟩] scope pos) (some (.Name y py)) spos.line X.env = pure true) (hi : PI X tg it wi) (ok : BlkOk X.N X.env.scope scope own)
    (hg : ∀ (s : Shared) (H : Hp) (C : Addr) (cl : List (Str × Addr)) (fp : List Addr), PG (X.blk s H scope (compEnvC scope cl C X.env) fp) tg g) (ht : ∀ (s : Shared) (H : Hp) (C : Addr) (cl : List (Str × Addr)) (fp : List Addr), PTs (X.blk s H scope (compEnvC scope cl C X.env) fp) [] tt)
    (hk : ∀ (s : Shared) (H : Hp) (C : Addr) (cl : List (Str × Addr)) (fp : List Addr), PE (X.blk s H scope (compEnvC scope cl C X.env) fp) kx tk) (hv : ∀ (s : Shared) (H : Hp) (C : Addr) (cl : List (Str × Addr)) (fp : List Addr), PE (X.blk s H scope (compEnvC scope cl C X.env) fp) vx tv)
    (hs : ∀ x, foldedSetIterable it X.env x = pure x) : PS X (.Assign [.Name y py] (.DictComp kx vx [⟨tg, it, [], 0⟩] scope pos) spos) (tAsg (tDc wi g tt tk tv (own.map (·.2))) (gName i)) :=
  ⟨fun pins s σ H D I h => by
    rw [exec_Assign_Name_used (hs := hsw)]
    refine wpAny_bind (wpAny_standAt ?_)
    refine wpAny_bind ?_
    show wpAny _ X.A (do let _ ← comprehension (.DictComp kx vx [⟨tg, it, [], 0⟩] scope pos) scope X.env (firstIterPos [⟨tg, it, [], 0⟩] pos) newDict false (eval it X.env) (some (assign (.Name y py) X.env))) _ _ s
    have h0 : tDc wi g tt tk tv (own.map (·.2)) σ H fun x H1 => gName i x σ H1 D.nx := h
    refine wpAny_bind (thn (dc_core (Qf := fun _ s2 => SP X pins D .next s2) hc hN I hi ok hg ht hk hv hs h0 fun L C s2 m H2 J q hn f => ?_) fun _ s2 hq => wpAny_pure (wpAny_pure hq))
    show wpAny _ _ (assign (.Name y py) X.env (Value.ref L)) _ _ _
    refine wpAny_assign_Name (store_ok2 (v := V.ref L) J hN hy (Or.inl hyl) rfl (fun s3 J3 ⟨a, sb, ha⟩ => ?_) (Or.inr hyl))
    have hne : C ≠ a := ha.elim (fun z => by rw [z]; exact f.2.1) fun z e => f.2.2.2.2.1 y a z e.symm
    exact ⟨m, hn.sameBut sb hne, fun h3 sb3 => ⟨_, H2, J3.turned (t' := s3.toks) (fun b o hb e => (sb3.2 b hb).trans e) f.1 f.2.1 f.2.2.2.1 f.2.2.2.2.1 f.2.2.2.2.2, q⟩⟩⟩
theorem ws_setDc0 {i : Nat} {y : Str} {py spos : Pos} {D' : DEnds} (own : List (Str × Nat)) (js : List Nat) (hc : X.calm = true) (hN : X.N.Nodup) (hy : X.N[i]? = some y) (hyl : X.env.scope.names.lookup y = some .local)
    (hsw : swapsWith (.DictComp kx vx [⟨tg, it, [], 0⟩] scope pos) (some (.Name y py)) spos.line X.env = pure true) (ok : BlkOk X.N X.env.scope scope own) (hP : i ∉ P) (hvs : ∀ v ∈ own.map (·.2), v ∉ P) (hj : ∀ j ∈ js, j ∈ own.map (·.2))
    (h : WE X P it R fun sv R1 => asD sv fun d => ∃ (xs : List D) (I : Nat → List (Key × D) → DS → Prop), d = .list xs ∧ xs.length ≤ sizeLine ∧ I 0 [] (wipeR R1 (own.map (·.2))) ∧
      (∀ i x kvs R', xs[i]? = some x → I i kvs R' → TnD X P scope tg kx vx js (own.map (·.2)) I i kvs x R') ∧ ∀ kvs R', I xs.length kvs R' → put i R' D'.nx (.own (.dK kvs)))
    (hs : ∀ x, foldedSetIterable it X.env x = pure x := by intro _; rfl) : WS X P (.Assign [.Name y py] (.DictComp kx vx [⟨tg, it, [], 0⟩] scope pos) spos) R D' :=
  .of (ps_setDc (own := own) hc hN hy hyl hsw (pi_list pe_m) ok (fun s H C cl fp => (⟨fun pins s' σ H' v u Z I r h => h s H C cl fp pins s' u I r⟩ : PG _ tg (gB X scope tg))) (fun _ _ _ _ _ => pts_nil) (fun s H C cl fp => (⟨fun pins s' σ H' Z I h => h s H C cl fp pins s' I⟩ : PE _ kx (teB X scope kx)))
    (fun s H C cl fp => (⟨fun pins s' σ H' Z I h => h s H C cl fp pins s' I⟩ : PE _ vx (teB X scope vx))) hs) fun F σ Hd H w => dc_fits (Q := fun sv R1 => put i R1 D'.nx sv) own js hvs hj h F σ Hd H w _ fun v H' ⟨Hd', R', sv, e1, w1, r1, q1⟩ => up_same e1 (put_ok w1 r1 hP q1)
end
end Dl
namespace K07
open PySem PySem.Spec PyProof.Rows L2 Dl
local macro_rules | `(tactic| walk_at "v") => `(tactic| first
  | refine we_d (i := 0) rfl (vis3 rfl) rfl ?_ | refine we_o (i := 0) rfl (vis3 rfl) rfl ?_
  | refine we_d (i := 1) rfl (vis3 rfl) rfl ?_ | refine we_o (i := 1) rfl (vis3 rfl) rfl ?_
  | refine we_d (i := 2) rfl (vis3 rfl) rfl ?_ | refine we_o (i := 2) rfl (vis3 rfl) rfl ?_
  | refine we_d (i := 3) rfl (vis3 rfl) rfl ?_ | refine we_o (i := 3) rfl (vis3 rfl) rfl ?_
  | refine we_d (i := 4) rfl (vis3 rfl) rfl ?_ | refine we_o (i := 4) rfl (vis3 rfl) rfl ?_
  | refine we_d (i := 5) rfl (vis3 rfl) rfl ?_ | refine we_o (i := 5) rfl (vis3 rfl) rfl ?_
  | refine we_d (i := 6) rfl (vis3 rfl) rfl ?_ | refine we_o (i := 6) rfl (vis3 rfl) rfl ?_
  | refine we_d (i := 7) rfl (vis3 rfl) rfl ?_ | refine we_o (i := 7) rfl (vis3 rfl) rfl ?_
  | refine we_d (i := 8) rfl (vis3 rfl) rfl ?_ | refine we_o (i := 8) rfl (vis3 rfl) rfl ?_
  | refine we_d (i := 9) rfl (vis3 rfl) rfl ?_ | refine we_o (i := 9) rfl (vis3 rfl) rfl ?_
  | refine we_d (i := 10) rfl (vis3 rfl) rfl ?_ | refine we_o (i := 10) rfl (vis3 rfl) rfl ?_
  | refine we_d (i := 11) rfl (vis3 rfl) rfl ?_ | refine we_o (i := 11) rfl (vis3 rfl) rfl ?_
  | refine we_d (i := 12) rfl (vis3 rfl) rfl ?_ | refine we_o (i := 12) rfl (vis3 rfl) rfl ?_
  | refine we_d (i := 13) rfl (vis3 rfl) rfl ?_ | refine we_o (i := 13) rfl (vis3 rfl) rfl ?_)
local macro_rules | `(tactic| walk_at "si") => `(tactic| first
  | refine ws_set (i := 0) (by assumption) rfl (loc2 rfl) (by decide) ?_
  | refine ws_set (i := 1) (by assumption) rfl (loc2 rfl) (by decide) ?_
  | refine ws_set (i := 2) (by assumption) rfl (loc2 rfl) (by decide) ?_
  | refine ws_set (i := 3) (by assumption) rfl (loc2 rfl) (by decide) ?_
  | refine ws_set (i := 4) (by assumption) rfl (loc2 rfl) (by decide) ?_
  | refine ws_set (i := 5) (by assumption) rfl (loc2 rfl) (by decide) ?_
  | refine ws_set (i := 6) (by assumption) rfl (loc2 rfl) (by decide) ?_
  | refine ws_set (i := 7) (by assumption) rfl (loc2 rfl) (by decide) ?_
  | refine ws_set (i := 8) (by assumption) rfl (loc2 rfl) (by decide) ?_
  | refine ws_set (i := 9) (by assumption) rfl (loc2 rfl) (by decide) ?_
  | refine ws_set (i := 10) (by assumption) rfl (loc2 rfl) (by decide) ?_
  | refine ws_set (i := 11) (by assumption) rfl (loc2 rfl) (by decide) ?_
  | refine ws_set (i := 12) (by assumption) rfl (loc2 rfl) (by decide) ?_
  | refine ws_set (i := 13) (by assumption) rfl (loc2 rfl) (by decide) ?_)
local macro_rules | `(tactic| walk_at "gi") => `(tactic| first
  | refine wg_name (i := 0) (by assumption) rfl (loc2 rfl) (by decide) ?_
  | refine wg_name (i := 1) (by assumption) rfl (loc2 rfl) (by decide) ?_
  | refine wg_name (i := 2) (by assumption) rfl (loc2 rfl) (by decide) ?_
  | refine wg_name (i := 3) (by assumption) rfl (loc2 rfl) (by decide) ?_
  | refine wg_name (i := 4) (by assumption) rfl (loc2 rfl) (by decide) ?_
  | refine wg_name (i := 5) (by assumption) rfl (loc2 rfl) (by decide) ?_
  | refine wg_name (i := 6) (by assumption) rfl (loc2 rfl) (by decide) ?_
  | refine wg_name (i := 7) (by assumption) rfl (loc2 rfl) (by decide) ?_
  | refine wg_name (i := 8) (by assumption) rfl (loc2 rfl) (by decide) ?_
  | refine wg_name (i := 9) (by assumption) rfl (loc2 rfl) (by decide) ?_
  | refine wg_name (i := 10) (by assumption) rfl (loc2 rfl) (by decide) ?_
  | refine wg_name (i := 11) (by assumption) rfl (loc2 rfl) (by decide) ?_
  | refine wg_name (i := 12) (by assumption) rfl (loc2 rfl) (by decide) ?_
  | refine wg_name (i := 13) (by assumption) rfl (loc2 rfl) (by decide) ?_)
local macro_rules | `(tactic| walk_at "side") => `(tactic| first | exact rfl | exact Nat.le_trans (m := 1000) (Nat.le_of_ble_eq_true rfl) sz1000 | omega | decide | assumption)
local macro_rules | `(tactic| walk_at "we") => `(tactic| first
  | (refine isName ?_; walk_at "v")
  | refine we_int ?_ | refine we_bl ?_ | refine we_non ?_ | refine we_str ?_
  | refine we_ix ?_
  | refine we_addG ?_ | refine we_sub ?_ | refine we_mulG ?_ | refine we_div ?_ | refine we_mod ?_ | refine we_pow ?_ | refine we_neg ?_
  | refine we_gt ?_ | refine we_lt ?_ | refine we_ge ?_ | refine we_le ?_
  | refine we_tup ?_ | refine we_lst ?_ | refine we_dict0 ?_
  | refine we_len (by assumption) rfl ?_ | refine we_slG ?_ | refine we_eqG (by assumption) ?_ | refine we_neG (by assumption) ?_ | refine we_not ?_ | refine we_one ?_ | refine we_and ?_ | refine we_or ?_
  | refine we_call2 (by assumption) (by assumption) (by assumption) (by decide) rfl ?_)
local macro_rules | `(tactic| walk_at "wt") => `(tactic| first
  | refine wt_gt ?_ | refine wt_lt ?_ | refine wt_ge ?_ | refine wt_le ?_ | refine wt_not ?_
  | refine wt_eqG (by assumption) ?_ | refine wt_neG (by assumption) ?_ | refine wt_bool ?_ | refine wt_val ?_)
local macro_rules | `(tactic| walk_at "ws") => `(tactic| first
  | refine ws_ret ?_ | (refine isSet ?_; walk_at "si") | refine ws_if ?_
  | refine ws_append (pe_bm PySem.F.plainAttrs_list PySem.F.slot_list_append PySem.F.type_list_append mt_append pe_m (pa_cons pe_m pa_nil)) ?_
  | refine ws_continue ?_ | refine ws_break ?_ | refine ws_pass ?_)
local macro_rules | `(tactic| walk_at "l") => `(tactic| first
  | refine And.intro (Exists.intro _ rfl) ?_
  | refine And.intro trivial ?_
  | refine Exists.intro _ (And.intro rfl ?_)
  | refine Exists.intro _ (Exists.intro _ (And.intro rfl (And.intro rfl ?_)))
  | refine And.intro (And.intro (by walk_at "side") (by walk_at "side") : CDiv _ _) ?_
  | refine And.intro (.inl (And.intro (by walk_at "side") (by walk_at "side")) : CMul _ _) ?_
  | refine And.intro (.inr (And.intro (by walk_at "side") (by walk_at "side")) : CMul _ _) ?_
  | refine And.intro (And.intro (List.cons_ne_nil _ _) (And.intro (by walk_at "side") (And.intro (by walk_at "side") (by walk_at "side")))) ?_
  | refine And.intro (by walk_at "side") ?_)
local macro_rules | `(tactic| walk_at "step") => `(tactic| first
  | (refine isWE ?_; walk_at "we")
  | (refine isWT ?_; walk_at "wt")
  | (refine isWSs ?_; first | refine wss_nil ?_ | refine wss_one ?_ | refine wss_cons ?_)
  | (refine isWS ?_; walk_at "ws")
  | (refine isWDs ?_; first | refine wds_nil ?_ | refine wds_cons ?_)
  | (refine isWW ?_; first | refine ww_and1 ?_ | refine ww_or1 ?_ | refine ww_and ?_ | refine ww_or ?_)
  | refine allB_i fun _ _ _ _ _ => ?_
  | refine asI_i (allB_i fun _ _ _ _ _ => ?_)
  | (refine isWG ?_; first | walk_at "gi" | refine wg_tup rfl ?_ rfl)
  | (refine isWGs ?_; first | refine wgs_nil ?_ | refine wgs_consN ?_)
  | (refine isWO ?_; first | refine wo_none ?_ | refine wo_some ?_)
  | (refine isWA ?_; first | refine wa_nil ?_ | refine wa_cons ?_)
  | walk_at "l")
local macro_rules | `(tactic| walk_at "go") => `(tactic| repeat (walk_at "step"))
def topS (i : Nat) : Stmt := PySem.Challenge.pw_writeorders_k07_changes_put_on.main.body.getD i (.Pass ⟨0, 0, 0, 0⟩)
abbrev NDraw : List Str := ["_law_pool_here", "_law_many_here", "_law_found"]
theorem scDraw : FnScope NDraw ["_law_pool_here", "_law_many_here"] (defScope (topS 16)) := ⟨rfl, rfl, rfl, by decide +kernel, rfl, by decide +kernel, by decide +kernel⟩
section
variable {Pg : Program} {w : World} {K : PySem.W.Frag} {mg : Str → Option Value} {base : Heap}
/-- any draw -/
def PoolOk (b : Int) : Prop := 0 ≤ b ∧ b < 2147483647
def pool (a b : Int) : SV := .own (.lst [.int a, .int b])
def sDraw : SpD := fun R Q => ∃ a b m : Int, R = [pool a b, .d (.int m)] ∧ (0 < m ∧ m < 1000) ∧ PoolOk b ∧
  ∀ r a' b' : Int, 0 ≤ r ∧ r < m → PoolOk b' → Q (.d (.int r)) [pool a' b', .d (.int m)]
theorem ok_draw {f : Addr} {fd : FuncData} (F : Fun K "_law_draw" "_law_draw" (topS 16) f fd) (hm : mg "_law_draw" = some (.ref f)) (hb : Binds K fd ["_law_pool_here", "_law_many_here"] []) : Can Pg w K mg base 1 "_law_draw" sDraw := by
  refine can_def F scDraw hm hb (fun A Z Z' k ⟨a, b, m, h1, h2, h3, h4⟩ => ⟨a, b, m, h1, h2, h3, fun r a' b' g1 g2 => k _ _ (h4 r a' b' g1 g2)⟩) (by decide) (fun R Q h => ?_) (fun cdv A outer s H E hgd hr R Q h => ?_)
  · obtain ⟨a, b, m, rfl, _⟩ := h
    rfl
  · obtain ⟨a, b, m, rfl, hm, ⟨hb1, hb2⟩, q⟩ := h
    show WSs _ [0] _ [.own (.lst [.int a, .int b]), .d (.int m), .no] _
    have nd : NDraw.Nodup := scDraw.nd
    walk_at "go"
    refine ⟨fun h => ?_, fun h => ?_⟩
    · have h0 : 0 < a := of_decide_eq_true h
      walk_at "go"
      refine ws_lput (pg_sub pe_m pe_m set_list) ?_
      walk_at "go"
      exact q _ _ _ ⟨Int.emod_nonneg _ (by omega), Int.emod_lt_of_pos _ hm.1⟩ ⟨hb1, hb2⟩
    · walk_at "go"
      refine ws_lput (pg_sub pe_m pe_m set_list) ?_
      walk_at "go"
      exact q _ _ _ ⟨Int.emod_nonneg _ (by omega), Int.emod_lt_of_pos _ hm.1⟩ ⟨by omega, by omega⟩
end

structure Chg where
  n : Int
  at_ : Int
  puts : List (Int × Int)
  leans : List Int
def putD2 (p : Int × Int) : D := .tuple [.int p.1, .int p.2]
def chgD (c : Chg) : D := .tuple [.int c.n, .int c.at_, .tuple (c.puts.map putD2), .tuple (c.leans.map .int)]
def spots (c : Chg) : List Int := c.puts.map (·.1)
def nums (cs : List Chg) : List Int := cs.map (·.n)
def Small (cs : List Chg) : Prop := cs.length ≤ 100 ∧ ∀ c ∈ cs, c.puts.length ≤ 100 ∧ c.leans.length ≤ 100
def csD (cs : List Chg) : D := .list (cs.map chgD)

/-! images and their pages -/
def imgD (tk ns dt : List D) : D := .tuple [.tuple tk, .tuple ns, .tuple dt]
def nodP (ns : List D) : Int := ((ns.length : Int) + 3) / 4
def manyF (ns dt : List D) : Int := 1 + nodP ns + (dt.length : Int)
def slotsF (tk ns dt : List D) (at_ : Int) : D := if at_ = 0 then .tuple tk else if at_ ≤ nodP ns then .tuple (cutD ns (some (4 * at_ - 4)) (some (4 * at_))) else dt.getD (at_ - 1 - nodP ns).toNat .none
abbrev NMany : List Str := ["_law_image_here"]
theorem scMany : FnScope NMany ["_law_image_here"] (defScope (topS 18)) := ⟨rfl, rfl, rfl, by decide +kernel, rfl, by decide +kernel, by decide +kernel⟩
abbrev NSlots : List Str := ["_law_image_here", "_law_at"]
theorem scSlots : FnScope NSlots ["_law_image_here", "_law_at"] (defScope (topS 19)) := ⟨rfl, rfl, rfl, by decide +kernel, rfl, by decide +kernel, by decide +kernel⟩
section
variable {Pg : Program} {w : World} {K : PySem.W.Frag} {mg : Str → Option Value} {base : Heap}
def sMany : SpD := fun R Q => ∃ tk ns dt, R = [.d (imgD tk ns dt)] ∧ Q (.d (.int (manyF ns dt))) R
theorem ok_many {f : Addr} {fd : FuncData} (F : Fun K "_law_many" "_law_many" (topS 18) f fd) (hm : mg "_law_many" = some (.ref f)) (hb : Binds K fd ["_law_image_here"] []) (ml : mg "len" = none) : Can Pg w K mg base 1 "_law_many" sMany := by
  refine can_def F scMany hm hb (fun A Z Z' k ⟨a, b, c, h1, h2⟩ => ⟨a, b, c, h1, k _ _ h2⟩) (by decide) (fun R Q h => ?_) (fun cdv A outer s H E hgd hr R Q h => ?_)
  · obtain ⟨a, b, c, rfl, _⟩ := h
    rfl
  · obtain ⟨tk, ns, dt, rfl, q⟩ := h
    show WSs _ [] _ [.d (imgD tk ns dt)] _
    have nd : NMany.Nodup := scMany.nd
    walk_at "go"
    exact q
def sSlots : SpD := fun R Q => ∃ tk ns dt at_, R = [.d (imgD tk ns dt), .d (.int at_)] ∧ (0 ≤ at_ ∧ at_ < manyF ns dt) ∧ Q (.d (slotsF tk ns dt at_)) R
theorem ok_slots {f : Addr} {fd : FuncData} (F : Fun K "_law_slots" "_law_slots" (topS 19) f fd) (hm : mg "_law_slots" = some (.ref f)) (hb : Binds K fd ["_law_image_here", "_law_at"] []) (ml : mg "len" = none) : Can Pg w K mg base 1 "_law_slots" sSlots := by
  refine can_def F scSlots hm hb (fun A Z Z' k ⟨a, b, c, d, h1, h2, h3⟩ => ⟨a, b, c, d, h1, h2, k _ _ h3⟩) (by decide) (fun R Q h => ?_) (fun cdv A outer s H E hgd hr R Q h => ?_)
  · obtain ⟨a, b, c, d, rfl, _⟩ := h
    rfl
  · obtain ⟨tk, ns, dt, at_, rfl, ⟨h0, h1⟩, q⟩ := h
    show WSs _ [] _ [.d (imgD tk ns dt), .d (.int at_)] _
    have nd : NSlots.Nodup := scSlots.nd
    walk_at "go"
    refine ⟨fun h => ?_, fun h => ?_⟩
    · have e : at_ = 0 := of_decide_eq_true h
      walk_at "go"
      have e2 : slotsF tk ns dt at_ = .tuple tk := if_pos e
      rw [e2] at q
      exact q
    · have e : ¬ at_ = 0 := of_decide_eq_false h
      walk_at "go"
      refine ⟨fun h2 => ?_, fun h2 => ?_⟩
      · have e1 : at_ ≤ nodP ns := of_decide_eq_true h2
        have e2 : slotsF tk ns dt at_ = .tuple (cutD ns (some (4 * at_ - 4)) (some (4 * at_))) := (if_neg e).trans (if_pos e1)
        rw [e2] at q
        walk_at "go"
        exact q
      · have e1 : ¬ at_ ≤ nodP ns := of_decide_eq_false h2
        have e2 : slotsF tk ns dt at_ = dt.getD (at_ - 1 - nodP ns).toNat .none := (if_neg e).trans (if_neg e1)
        have hlt : (at_ - 1 - nodP ns).toNat < dt.length := by unfold manyF at h1; omega
        walk_at "go"
        refine ⟨dt, dt[(at_ - 1 - nodP ns).toNat], rfl, ?_, ?_⟩
        · exact atI_of (by have z := e1; unfold nodP at z; omega) (List.getElem?_eq_getElem hlt)
        · rw [e2, List.getD_eq_getElem?_getD, List.getElem?_eq_getElem hlt] at q
          exact q
end
end K07
namespace K07
open PySem PySem.Spec PyProof.Rows L2 Dl
local macro_rules | `(tactic| walk_at "v") => `(tactic| first
  | refine we_d (i := 0) rfl (vis3 rfl) rfl ?_ | refine we_o (i := 0) rfl (vis3 rfl) rfl ?_
  | refine we_d (i := 1) rfl (vis3 rfl) rfl ?_ | refine we_o (i := 1) rfl (vis3 rfl) rfl ?_
  | refine we_d (i := 2) rfl (vis3 rfl) rfl ?_ | refine we_o (i := 2) rfl (vis3 rfl) rfl ?_
  | refine we_d (i := 3) rfl (vis3 rfl) rfl ?_ | refine we_o (i := 3) rfl (vis3 rfl) rfl ?_
  | refine we_d (i := 4) rfl (vis3 rfl) rfl ?_ | refine we_o (i := 4) rfl (vis3 rfl) rfl ?_
  | refine we_d (i := 5) rfl (vis3 rfl) rfl ?_ | refine we_o (i := 5) rfl (vis3 rfl) rfl ?_
  | refine we_d (i := 6) rfl (vis3 rfl) rfl ?_ | refine we_o (i := 6) rfl (vis3 rfl) rfl ?_
  | refine we_d (i := 7) rfl (vis3 rfl) rfl ?_ | refine we_o (i := 7) rfl (vis3 rfl) rfl ?_
  | refine we_d (i := 8) rfl (vis3 rfl) rfl ?_ | refine we_o (i := 8) rfl (vis3 rfl) rfl ?_
  | refine we_d (i := 9) rfl (vis3 rfl) rfl ?_ | refine we_o (i := 9) rfl (vis3 rfl) rfl ?_
  | refine we_d (i := 10) rfl (vis3 rfl) rfl ?_ | refine we_o (i := 10) rfl (vis3 rfl) rfl ?_
  | refine we_d (i := 11) rfl (vis3 rfl) rfl ?_ | refine we_o (i := 11) rfl (vis3 rfl) rfl ?_
  | refine we_d (i := 12) rfl (vis3 rfl) rfl ?_ | refine we_o (i := 12) rfl (vis3 rfl) rfl ?_
  | refine we_d (i := 13) rfl (vis3 rfl) rfl ?_ | refine we_o (i := 13) rfl (vis3 rfl) rfl ?_)
local macro_rules | `(tactic| walk_at "si") => `(tactic| first
  | refine ws_set (i := 0) (by assumption) rfl (loc2 rfl) (by decide) ?_
  | refine ws_set (i := 1) (by assumption) rfl (loc2 rfl) (by decide) ?_
  | refine ws_set (i := 2) (by assumption) rfl (loc2 rfl) (by decide) ?_
  | refine ws_set (i := 3) (by assumption) rfl (loc2 rfl) (by decide) ?_
  | refine ws_set (i := 4) (by assumption) rfl (loc2 rfl) (by decide) ?_
  | refine ws_set (i := 5) (by assumption) rfl (loc2 rfl) (by decide) ?_
  | refine ws_set (i := 6) (by assumption) rfl (loc2 rfl) (by decide) ?_
  | refine ws_set (i := 7) (by assumption) rfl (loc2 rfl) (by decide) ?_
  | refine ws_set (i := 8) (by assumption) rfl (loc2 rfl) (by decide) ?_
  | refine ws_set (i := 9) (by assumption) rfl (loc2 rfl) (by decide) ?_
  | refine ws_set (i := 10) (by assumption) rfl (loc2 rfl) (by decide) ?_
  | refine ws_set (i := 11) (by assumption) rfl (loc2 rfl) (by decide) ?_
  | refine ws_set (i := 12) (by assumption) rfl (loc2 rfl) (by decide) ?_
  | refine ws_set (i := 13) (by assumption) rfl (loc2 rfl) (by decide) ?_)
local macro_rules | `(tactic| walk_at "gi") => `(tactic| first
  | refine wg_name (i := 0) (by assumption) rfl (loc2 rfl) (by decide) ?_
  | refine wg_name (i := 1) (by assumption) rfl (loc2 rfl) (by decide) ?_
  | refine wg_name (i := 2) (by assumption) rfl (loc2 rfl) (by decide) ?_
  | refine wg_name (i := 3) (by assumption) rfl (loc2 rfl) (by decide) ?_
  | refine wg_name (i := 4) (by assumption) rfl (loc2 rfl) (by decide) ?_
  | refine wg_name (i := 5) (by assumption) rfl (loc2 rfl) (by decide) ?_
  | refine wg_name (i := 6) (by assumption) rfl (loc2 rfl) (by decide) ?_
  | refine wg_name (i := 7) (by assumption) rfl (loc2 rfl) (by decide) ?_
  | refine wg_name (i := 8) (by assumption) rfl (loc2 rfl) (by decide) ?_
  | refine wg_name (i := 9) (by assumption) rfl (loc2 rfl) (by decide) ?_
  | refine wg_name (i := 10) (by assumption) rfl (loc2 rfl) (by decide) ?_
  | refine wg_name (i := 11) (by assumption) rfl (loc2 rfl) (by decide) ?_
  | refine wg_name (i := 12) (by assumption) rfl (loc2 rfl) (by decide) ?_
  | refine wg_name (i := 13) (by assumption) rfl (loc2 rfl) (by decide) ?_)
local macro_rules | `(tactic| walk_at "side") => `(tactic| first | exact rfl | exact Nat.le_trans (m := 1000) (Nat.le_of_ble_eq_true rfl) sz1000 | omega | decide | assumption)
local macro_rules | `(tactic| walk_at "we") => `(tactic| first
  | (refine isName ?_; walk_at "v")
  | refine we_int ?_ | refine we_bl ?_ | refine we_non ?_ | refine we_str ?_
  | refine we_ix ?_
  | refine we_addG ?_ | refine we_sub ?_ | refine we_mulG ?_ | refine we_div ?_ | refine we_mod ?_ | refine we_pow ?_ | refine we_neg ?_
  | refine we_gt ?_ | refine we_lt ?_ | refine we_ge ?_ | refine we_le ?_
  | refine we_tup ?_ | refine we_lst ?_ | refine we_dict0 ?_
  | refine we_len (by assumption) rfl ?_ | refine we_slG ?_ | refine we_eqG (by assumption) ?_ | refine we_neG (by assumption) ?_ | refine we_not ?_ | refine we_one ?_ | refine we_and ?_ | refine we_or ?_
  | refine we_call2 (by assumption) (by assumption) (by assumption) (by decide) rfl ?_)
local macro_rules | `(tactic| walk_at "wt") => `(tactic| first
  | refine wt_gt ?_ | refine wt_lt ?_ | refine wt_ge ?_ | refine wt_le ?_ | refine wt_not ?_
  | refine wt_eqG (by assumption) ?_ | refine wt_neG (by assumption) ?_ | refine wt_bool ?_ | refine wt_val ?_)
local macro_rules | `(tactic| walk_at "ws") => `(tactic| first
  | refine ws_ret ?_ | (refine isSet ?_; walk_at "si") | refine ws_if ?_
  | refine ws_append (pe_bm PySem.F.plainAttrs_list PySem.F.slot_list_append PySem.F.type_list_append mt_append pe_m (pa_cons pe_m pa_nil)) ?_
  | refine ws_continue ?_ | refine ws_break ?_ | refine ws_pass ?_)
local macro_rules | `(tactic| walk_at "l") => `(tactic| first
  | refine And.intro (Exists.intro _ rfl) ?_
  | refine And.intro trivial ?_
  | refine Exists.intro _ (And.intro rfl ?_)
  | refine Exists.intro _ (Exists.intro _ (And.intro rfl (And.intro rfl ?_)))
  | refine And.intro (And.intro (by walk_at "side") (by walk_at "side") : CDiv _ _) ?_
  | refine And.intro (.inl (And.intro (by walk_at "side") (by walk_at "side")) : CMul _ _) ?_
  | refine And.intro (.inr (And.intro (by walk_at "side") (by walk_at "side")) : CMul _ _) ?_
  | refine And.intro (And.intro (List.cons_ne_nil _ _) (And.intro (by walk_at "side") (And.intro (by walk_at "side") (by walk_at "side")))) ?_
  | refine And.intro (by walk_at "side") ?_)
local macro_rules | `(tactic| walk_at "step") => `(tactic| first
  | (refine isWE ?_; walk_at "we")
  | (refine isWT ?_; walk_at "wt")
  | (refine isWSs ?_; first | refine wss_nil ?_ | refine wss_one ?_ | refine wss_cons ?_)
  | (refine isWS ?_; walk_at "ws")
  | (refine isWDs ?_; first | refine wds_nil ?_ | refine wds_cons ?_)
  | (refine isWW ?_; first | refine ww_and1 ?_ | refine ww_or1 ?_ | refine ww_and ?_ | refine ww_or ?_)
  | refine allB_i fun _ _ _ _ _ => ?_
  | refine asI_i (allB_i fun _ _ _ _ _ => ?_)
  | (refine isWG ?_; first | walk_at "gi" | refine wg_tup rfl ?_ rfl)
  | (refine isWGs ?_; first | refine wgs_nil ?_ | refine wgs_consN ?_)
  | (refine isWO ?_; first | refine wo_none ?_ | refine wo_some ?_)
  | (refine isWA ?_; first | refine wa_nil ?_ | refine wa_cons ?_)
  | walk_at "l")
local macro_rules | `(tactic| walk_at "go") => `(tactic| repeat (walk_at "step"))
abbrev NImage : List Str := ["_law_pool_here", "_law_pages", "_law_own"]
theorem scImage : FnScope NImage ["_law_pool_here"] (defScope (topS 17)) := ⟨rfl, rfl, rfl, by decide +kernel, rfl, by decide +kernel, by decide +kernel⟩
def tkE (np : Nat) : List D := List.replicate np (.bool false)
def nsE (nn : Nat) : List D := .tuple [.str "folder", .int 1, .tuple []] :: List.replicate nn .none
def dtE (np : Nat) : List D := List.replicate np (.tuple (List.replicate 5 .none))
section
variable {Pg : Program} {w : World} {K : PySem.W.Frag} {mg : Str → Option Value} {base : Heap}
def sImage : SpD := fun R Q => ∃ a b : Int, R = [pool a b] ∧ PoolOk b ∧
  ∀ (np nn : Nat) (a' b' : Int), 2 ≤ np ∧ np ≤ 4 → 1 ≤ nn ∧ nn ≤ 7 → PoolOk b' → Q (.d (imgD (tkE np) (nsE nn) (dtE np))) [pool a' b']
theorem ok_image {f : Addr} {fd : FuncData} (F : Fun K "_law_image" "_law_image" (topS 17) f fd) (hm : mg "_law_image" = some (.ref f)) (hb : Binds K fd ["_law_pool_here"] []) (cDraw : Can Pg w K mg base 1 "_law_draw" sDraw) : Can Pg w K mg base 2 "_law_image" sImage := by
  refine can_def F scImage hm hb (fun A Z Z' k ⟨a, b, h1, h2, h3⟩ => ⟨a, b, h1, h2, fun np nn a' b' g1 g2 g3 => k _ _ (h3 np nn a' b' g1 g2 g3)⟩) (by decide) (fun R Q h => ?_) (fun cdv A outer s H E hgd hr R Q h => ?_)
  · obtain ⟨a, b, rfl, _⟩ := h
    rfl
  · obtain ⟨a, b, rfl, hp, q⟩ := h
    show WSs _ [0] _ [pool a b, .no, .no] _
    have nd : NImage.Nodup := scImage.nd
    refine wss_cons ?_
    walk_at "go"
    refine ⟨_, _, _, rfl, ⟨by decide, by decide⟩, hp, fun r1 a1 b1 hr1 hp1 => ⟨rfl, ?_⟩⟩
    walk_at "go"
    refine ⟨_, _, _, rfl, ⟨by decide, by decide⟩, hp1, fun r2 a2 b2 hr2 hp2 => ⟨rfl, ?_⟩⟩
    walk_at "go"
    rw [rep_one]
    refine And.intro ?_ ?_
    · rw [List.length_replicate]
      exact szle (show 1 + (1 + r2).toNat ≤ 1000 by omega)
    walk_at "go"
    have e1 : (List.replicate (2 + r1).toNat [PyData.bool false]).flatten = tkE (2 + r1).toNat := rep_one _ _
    have e2 : (List.replicate (2 + r1).toNat [PyData.tuple (List.replicate (Int.toNat 5) [PyData.none]).flatten]).flatten = dtE (2 + r1).toNat := by
      rw [rep_one, rep_one]
      rfl
    rw [e1, e2]
    exact q (2 + r1).toNat (1 + r2).toNat a2 b2 ⟨by omega, by omega⟩ ⟨by omega, by omega⟩ hp2
end
abbrev NPool : List Str := ["_law_script", "_law_k", "_law_cell", "_law_size", "_law_mixed"]
theorem scPool : FnScope NPool ["_law_script", "_law_k"] (defScope (topS 15)) := ⟨rfl, rfl, rfl, by decide +kernel, rfl, by decide +kernel, by decide +kernel⟩
section
variable {Pg : Program} {w : World} {K : PySem.W.Frag} {mg : Str → Option Value} {base : Heap}
def sPool : SpD := fun R Q => ∃ (ns : List Int) (k : Int), R = [.d (.list (ns.map .int)), .d (.int k)] ∧ (0 ≤ k ∧ k < 100) ∧ ∀ a b : Int, PoolOk b → Q (pool a b) R
theorem ok_pool {f : Addr} {fd : FuncData} (F : Fun K "_law_pool" "_law_pool" (topS 15) f fd) (hm : mg "_law_pool" = some (.ref f)) (hb : Binds K fd ["_law_script", "_law_k"] []) (ml : mg "len" = none) (mx : mg "max" = none) (mi : mg "int" = none) : Can Pg w K mg base 1 "_law_pool" sPool := by
  refine can_def F scPool hm hb (fun A Z Z' k ⟨a, b, h1, h2, h3⟩ => ⟨a, b, h1, h2, fun x y g => k _ _ (h3 x y g)⟩) (by decide) (fun R Q h => ?_) (fun cdv A outer s H E hgd hr R Q h => ?_)
  · obtain ⟨a, b, rfl, _⟩ := h
    rfl
  · obtain ⟨ns, k, rfl, ⟨hk0, hk1⟩, q⟩ := h
    show WSs _ [] _ [.d (.list (ns.map .int)), .d (.int k), .no, .no, .no] _
    have nd : NPool.Nodup := scPool.nd
    have rest : ∀ c : Int, WSs (cxOf CX0 Pg w K mg base NPool "_law_pool" (defScope (topS 15)) f cdv A outer s H E).nox [] ((defBody (topS 15)).drop 2) [.d (.list (ns.map .int)), .d (.int k), .d (.int c), .no, .no] (bodyEnds 2 Q) := fun c => by
      refine wss_cons ?_
      walk_at "si"
      refine we_max2 rfl mx rfl ?_
      walk_at "go"
      generalize (if -1 - c > c then -1 - c else c) = sz
      walk_at "go"
      refine we_intB mi rfl ?_
      walk_at "go"
      refine And.intro ⟨by decide, by decide, by decide⟩ ?_
      walk_at "go"
      exact q _ _ ⟨Int.emod_nonneg _ (by decide), Int.emod_lt_of_pos _ (by decide)⟩
    walk_at "go"
    refine ⟨fun e => ?_, fun e => ?_⟩
    · have e1 : k < (ns.length : Int) := by
        have := of_decide_eq_true e
        rw [List.length_map] at this
        exact this
      have hlt : k.toNat < ns.length := by omega
      walk_at "go"
      refine ⟨ns.map .int, .int ns[k.toNat], rfl, ?_, ?_⟩
      · exact atI_of hk0 (by rw [List.getElem?_map, List.getElem?_eq_getElem hlt]; rfl)
      exact rest ns[k.toNat]
    · refine wss_nil ?_
      exact rest 0
end
end K07
namespace K07
open PySem PySem.Spec PyProof.Rows L2 Dl
local macro_rules | `(tactic| walk_at "v") => `(tactic| first
  | refine we_d (i := 0) rfl (vis3 rfl) rfl ?_ | refine we_o (i := 0) rfl (vis3 rfl) rfl ?_
  | refine we_d (i := 1) rfl (vis3 rfl) rfl ?_ | refine we_o (i := 1) rfl (vis3 rfl) rfl ?_
  | refine we_d (i := 2) rfl (vis3 rfl) rfl ?_ | refine we_o (i := 2) rfl (vis3 rfl) rfl ?_
  | refine we_d (i := 3) rfl (vis3 rfl) rfl ?_ | refine we_o (i := 3) rfl (vis3 rfl) rfl ?_
  | refine we_d (i := 4) rfl (vis3 rfl) rfl ?_ | refine we_o (i := 4) rfl (vis3 rfl) rfl ?_
  | refine we_d (i := 5) rfl (vis3 rfl) rfl ?_ | refine we_o (i := 5) rfl (vis3 rfl) rfl ?_
  | refine we_d (i := 6) rfl (vis3 rfl) rfl ?_ | refine we_o (i := 6) rfl (vis3 rfl) rfl ?_
  | refine we_d (i := 7) rfl (vis3 rfl) rfl ?_ | refine we_o (i := 7) rfl (vis3 rfl) rfl ?_
  | refine we_d (i := 8) rfl (vis3 rfl) rfl ?_ | refine we_o (i := 8) rfl (vis3 rfl) rfl ?_
  | refine we_d (i := 9) rfl (vis3 rfl) rfl ?_ | refine we_o (i := 9) rfl (vis3 rfl) rfl ?_
  | refine we_d (i := 10) rfl (vis3 rfl) rfl ?_ | refine we_o (i := 10) rfl (vis3 rfl) rfl ?_
  | refine we_d (i := 11) rfl (vis3 rfl) rfl ?_ | refine we_o (i := 11) rfl (vis3 rfl) rfl ?_
  | refine we_d (i := 12) rfl (vis3 rfl) rfl ?_ | refine we_o (i := 12) rfl (vis3 rfl) rfl ?_
  | refine we_d (i := 13) rfl (vis3 rfl) rfl ?_ | refine we_o (i := 13) rfl (vis3 rfl) rfl ?_)
local macro_rules | `(tactic| walk_at "si") => `(tactic| first
  | refine ws_set (i := 0) (by assumption) rfl (loc2 rfl) (by decide) ?_
  | refine ws_set (i := 1) (by assumption) rfl (loc2 rfl) (by decide) ?_
  | refine ws_set (i := 2) (by assumption) rfl (loc2 rfl) (by decide) ?_
  | refine ws_set (i := 3) (by assumption) rfl (loc2 rfl) (by decide) ?_
  | refine ws_set (i := 4) (by assumption) rfl (loc2 rfl) (by decide) ?_
  | refine ws_set (i := 5) (by assumption) rfl (loc2 rfl) (by decide) ?_
  | refine ws_set (i := 6) (by assumption) rfl (loc2 rfl) (by decide) ?_
  | refine ws_set (i := 7) (by assumption) rfl (loc2 rfl) (by decide) ?_
  | refine ws_set (i := 8) (by assumption) rfl (loc2 rfl) (by decide) ?_
  | refine ws_set (i := 9) (by assumption) rfl (loc2 rfl) (by decide) ?_
  | refine ws_set (i := 10) (by assumption) rfl (loc2 rfl) (by decide) ?_
  | refine ws_set (i := 11) (by assumption) rfl (loc2 rfl) (by decide) ?_
  | refine ws_set (i := 12) (by assumption) rfl (loc2 rfl) (by decide) ?_
  | refine ws_set (i := 13) (by assumption) rfl (loc2 rfl) (by decide) ?_)
local macro_rules | `(tactic| walk_at "gi") => `(tactic| first
  | refine wg_name (i := 0) (by assumption) rfl (loc2 rfl) (by decide) ?_
  | refine wg_name (i := 1) (by assumption) rfl (loc2 rfl) (by decide) ?_
  | refine wg_name (i := 2) (by assumption) rfl (loc2 rfl) (by decide) ?_
  | refine wg_name (i := 3) (by assumption) rfl (loc2 rfl) (by decide) ?_
  | refine wg_name (i := 4) (by assumption) rfl (loc2 rfl) (by decide) ?_
  | refine wg_name (i := 5) (by assumption) rfl (loc2 rfl) (by decide) ?_
  | refine wg_name (i := 6) (by assumption) rfl (loc2 rfl) (by decide) ?_
  | refine wg_name (i := 7) (by assumption) rfl (loc2 rfl) (by decide) ?_
  | refine wg_name (i := 8) (by assumption) rfl (loc2 rfl) (by decide) ?_
  | refine wg_name (i := 9) (by assumption) rfl (loc2 rfl) (by decide) ?_
  | refine wg_name (i := 10) (by assumption) rfl (loc2 rfl) (by decide) ?_
  | refine wg_name (i := 11) (by assumption) rfl (loc2 rfl) (by decide) ?_
  | refine wg_name (i := 12) (by assumption) rfl (loc2 rfl) (by decide) ?_
  | refine wg_name (i := 13) (by assumption) rfl (loc2 rfl) (by decide) ?_)
local macro_rules | `(tactic| walk_at "side") => `(tactic| first | exact rfl | exact Nat.le_trans (m := 1000) (Nat.le_of_ble_eq_true rfl) sz1000 | omega | decide | assumption)
local macro_rules | `(tactic| walk_at "we") => `(tactic| first
  | (refine isName ?_; walk_at "v")
  | refine we_int ?_ | refine we_bl ?_ | refine we_non ?_ | refine we_str ?_
  | refine we_ix ?_
  | refine we_addG ?_ | refine we_sub ?_ | refine we_mulG ?_ | refine we_div ?_ | refine we_mod ?_ | refine we_pow ?_ | refine we_neg ?_
  | refine we_gt ?_ | refine we_lt ?_ | refine we_ge ?_ | refine we_le ?_
  | refine we_tup ?_ | refine we_lst ?_ | refine we_dict0 ?_
  | refine we_len (by assumption) rfl ?_ | refine we_slG ?_ | refine we_eqG (by assumption) ?_ | refine we_neG (by assumption) ?_ | refine we_not ?_ | refine we_one ?_ | refine we_and ?_ | refine we_or ?_
  | refine we_call2 (by assumption) (by assumption) (by assumption) (by decide) rfl ?_)
local macro_rules | `(tactic| walk_at "wt") => `(tactic| first
  | refine wt_gt ?_ | refine wt_lt ?_ | refine wt_ge ?_ | refine wt_le ?_ | refine wt_not ?_
  | refine wt_eqG (by assumption) ?_ | refine wt_neG (by assumption) ?_ | refine wt_bool ?_ | refine wt_val ?_)
local macro_rules | `(tactic| walk_at "ws") => `(tactic| first
  | refine ws_ret ?_ | (refine isSet ?_; walk_at "si") | refine ws_if ?_
  | refine ws_append (pe_bm PySem.F.plainAttrs_list PySem.F.slot_list_append PySem.F.type_list_append mt_append pe_m (pa_cons pe_m pa_nil)) ?_
  | refine ws_continue ?_ | refine ws_break ?_ | refine ws_pass ?_)
local macro_rules | `(tactic| walk_at "l") => `(tactic| first
  | refine And.intro (Exists.intro _ rfl) ?_
  | refine And.intro trivial ?_
  | refine Exists.intro _ (And.intro rfl ?_)
  | refine Exists.intro _ (Exists.intro _ (And.intro rfl (And.intro rfl ?_)))
  | refine And.intro (And.intro (by walk_at "side") (by walk_at "side") : CDiv _ _) ?_
  | refine And.intro (.inl (And.intro (by walk_at "side") (by walk_at "side")) : CMul _ _) ?_
  | refine And.intro (.inr (And.intro (by walk_at "side") (by walk_at "side")) : CMul _ _) ?_
  | refine And.intro (And.intro (List.cons_ne_nil _ _) (And.intro (by walk_at "side") (And.intro (by walk_at "side") (by walk_at "side")))) ?_
  | refine And.intro (by walk_at "side") ?_)
local macro_rules | `(tactic| walk_at "step") => `(tactic| first
  | (refine isWE ?_; walk_at "we")
  | (refine isWT ?_; walk_at "wt")
  | (refine isWSs ?_; first | refine wss_nil ?_ | refine wss_one ?_ | refine wss_cons ?_)
  | (refine isWS ?_; walk_at "ws")
  | (refine isWDs ?_; first | refine wds_nil ?_ | refine wds_cons ?_)
  | (refine isWW ?_; first | refine ww_and1 ?_ | refine ww_or1 ?_ | refine ww_and ?_ | refine ww_or ?_)
  | refine allB_i fun _ _ _ _ _ => ?_
  | refine asI_i (allB_i fun _ _ _ _ _ => ?_)
  | (refine isWG ?_; first | walk_at "gi" | refine wg_tup rfl ?_ rfl)
  | (refine isWGs ?_; first | refine wgs_nil ?_ | refine wgs_consN ?_)
  | (refine isWO ?_; first | refine wo_none ?_ | refine wo_some ?_)
  | (refine isWA ?_; first | refine wa_nil ?_ | refine wa_cons ?_)
  | walk_at "l")
local macro_rules | `(tactic| walk_at "go") => `(tactic| repeat (walk_at "step"))
set_option maxHeartbeats 2000000

abbrev NChg : List Str := ["_law_pool_here", "_law_image_here", "_law_found", "_law_number", "_law_turn", "_law_at", "_law_many_here", "_law_spots_here", "_law_puts", "_law_leans", "_law_spot", "_law_lean"]
theorem scChg : FnScope NChg ["_law_pool_here", "_law_image_here"] (defScope (topS 20)) := ⟨rfl, rfl, rfl, by decide +kernel, rfl, by decide +kernel, by decide +kernel⟩
def imgE (np nn : Nat) : D := imgD (tkE np) (nsE nn) (dtE np)
def manyE (np nn : Nat) : Int := manyF (nsE nn) (dtE np)
def pageL (np nn : Nat) (at_ : Int) : List D := match slotsF (tkE np) (nsE nn) (dtE np) at_ with
  | .tuple ds => ds
  | _ => []
def Sizes (np nn : Nat) : Prop := (2 ≤ np ∧ np ≤ 4) ∧ (1 ≤ nn ∧ nn ≤ 7)
theorem manyE_eq (np nn : Nat) : manyE np nn = 1 + ((nn : Int) + 4) / 4 + np := by
  unfold manyE manyF nodP nsE dtE
  rw [List.length_cons, List.length_replicate, List.length_replicate]
  omega
theorem page_is {np nn : Nat} (hs : Sizes np nn) {at_ : Int} (h0 : 0 ≤ at_) (h1 : at_ < manyE np nn) : slotsF (tkE np) (nsE nn) (dtE np) at_ = .tuple (pageL np nn at_) ∧ 1 ≤ (pageL np nn at_).length ∧ (pageL np nn at_).length ≤ 5 := by
  obtain ⟨⟨a1, a2⟩, a3, a4⟩ := hs
  have all : ∀ np ∈ [2, 3, 4], ∀ nn ∈ [1, 2, 3, 4, 5, 6, 7], ∀ k ∈ List.range 8, (k : Int) < manyE np nn →
      (match slotsF (tkE np) (nsE nn) (dtE np) (k : Int) with | .tuple ds => decide (1 ≤ ds.length ∧ ds.length ≤ 5) | _ => false) = true := by decide +kernel
  have hm := manyE_eq np nn
  have m1 : np ∈ [2, 3, 4] := by
    have : np = 2 ∨ np = 3 ∨ np = 4 := by omega
    rcases this with h | h | h <;> subst h <;> decide
  have m2 : nn ∈ [1, 2, 3, 4, 5, 6, 7] := by
    have : nn = 1 ∨ nn = 2 ∨ nn = 3 ∨ nn = 4 ∨ nn = 5 ∨ nn = 6 ∨ nn = 7 := by omega
    rcases this with h | h | h | h | h | h | h <;> subst h <;> decide
  have e : at_ = ((at_.toNat : Nat) : Int) := by omega
  have h := all np m1 nn m2 at_.toNat (List.mem_range.mpr (by omega)) (by rw [← e]; exact h1)
  rw [← e] at h
  unfold pageL
  cases q : slotsF (tkE np) (nsE nn) (dtE np) at_ with
  | tuple ds =>
    rw [q] at h
    have h' := of_decide_eq_true h
    exact ⟨rfl, h'.1, h'.2⟩
  | _ =>
    rw [q] at h
    cases h
structure GoodC (np nn : Nat) (c : Chg) : Prop where
  n0 : 0 ≤ c.n
  a0 : 0 ≤ c.at_
  a1 : c.at_ < manyE np nn
  sp : (spots c).Pairwise (· < ·)
  sb : ∀ s ∈ spots c, 0 ≤ s ∧ s < ((pageL np nn c.at_).length : Int)
  ne : spots c ≠ []
  le : c.leans.Pairwise (· < ·)
  lb : ∀ l ∈ c.leans, 0 ≤ l ∧ l < c.n
  pl : c.puts.length ≤ 5
  ll : c.leans.length ≤ 30
  n1 : c.n < 100
  am : c.at_ < 100
  pb : ∀ p ∈ c.puts, (0 ≤ p.1 ∧ p.1 < 100) ∧ 0 ≤ p.2 ∧ p.2 < 2000
structure GoodCs (np nn : Nat) (cs : List Chg) : Prop where
  len : cs.length ≤ 13
  inc : (nums cs).Pairwise (· < ·)
  all : ∀ c ∈ cs, GoodC np nn c
theorem GoodCs.small {np nn : Nat} {cs : List Chg} (g : GoodCs np nn cs) : Small cs := ⟨Nat.le_trans g.len (by decide), fun c h => ⟨Nat.le_trans (g.all c h).pl (by decide), Nat.le_trans (g.all c h).ll (by decide)⟩⟩
section
variable {Pg : Program} {w : World} {K : PySem.W.Frag} {mg : Str → Option Value} {base : Heap}
def sChg : SpD := fun R Q => ∃ (a b : Int) (np nn : Nat), R = [pool a b, .d (imgE np nn)] ∧ (PoolOk b ∧ Sizes np nn) ∧ ∀ (a' b' : Int) (cs : List Chg), PoolOk b' → GoodCs np nn cs → Q (.own (.lst (cs.map chgD))) [pool a' b', .d (imgE np nn)]
/-- a filter over 0, 1, .. -/
def upTo (ss : List Int) (n : Int) : Prop := ss.Pairwise (· < ·) ∧ ∀ s ∈ ss, 0 ≤ s ∧ s < n
theorem upTo.more {ss : List Int} {i : Nat} (h : upTo ss i) : upTo ss ((i + 1 : Nat) : Int) := ⟨h.1, fun s hs => ⟨(h.2 s hs).1, by have := (h.2 s hs).2; omega⟩⟩
theorem upTo.add {ss : List Int} {i : Nat} (h : upTo ss i) : upTo (ss ++ [(i : Int)]) ((i + 1 : Nat) : Int) := by
  refine ⟨List.pairwise_append.mpr ⟨h.1, List.pairwise_singleton _ _, fun x hx y hy => ?_⟩, fun s hs => ?_⟩
  · rw [List.mem_singleton] at hy
    subst hy
    exact (h.2 x hx).2
  · rcases List.mem_append.mp hs with hs | hs
    · exact ⟨(h.2 s hs).1, by have := (h.2 s hs).2; omega⟩
    · rw [List.mem_singleton] at hs
      subst hs
      exact ⟨by omega, by omega⟩
theorem upTo.len {ss : List Int} {n : Nat} (h : upTo ss n) : ss.length ≤ n := by
  have key : ∀ (ss : List Int) (lo n : Int), lo ≤ n → ss.Pairwise (· < ·) → (∀ s ∈ ss, lo ≤ s ∧ s < n) → (ss.length : Int) ≤ n - lo := by
    intro ss
    induction ss with
    | nil => intro lo n hl _ _; simpa using (by omega : (0 : Int) ≤ n - lo)
    | cons x r ih =>
      intro lo n hl hp hb
      have hx := hb x List.mem_cons_self
      have hr := List.pairwise_cons.mp hp
      have := ih (x + 1) n (by omega) hr.2 fun s hs => ⟨by have := hr.1 s hs; omega, (hb s (List.mem_cons_of_mem _ hs)).2⟩
      rw [List.length_cons]
      omega
  have := key ss 0 n (by omega) h.1 h.2
  omega
local macro_rules | `(tactic| walk_at "we") => `(tactic| refine we_orL (a := .ListComp _ _ _ _) ?_)
/-- the rest of a turn: from the puts on -/
def restB (st : Stmt) : List Stmt := match (defBody st).getD 2 (.Pass ⟨0, 0, 0, 0⟩) with
  | .For _ _ b _ _ => b.drop 4
  | _ => []
theorem ok_chg {f : Addr} {fd : FuncData} (F : Fun K "_law_changes" "_law_changes" (topS 20) f fd) (hm : mg "_law_changes" = some (.ref f)) (hb : Binds K fd ["_law_pool_here", "_law_image_here"] []) (ml : mg "len" = none) (mr : mg "range" = none) (mt : mg "tuple" = none)
    (cDraw : Can Pg w K mg base 1 "_law_draw" sDraw) (cMany : Can Pg w K mg base 1 "_law_many" sMany) (cSlots : Can Pg w K mg base 1 "_law_slots" sSlots) : Can Pg w K mg base 2 "_law_changes" sChg := by
  refine can_def F scChg hm hb (fun A Z Z' k ⟨a, b, c, d, h1, h2, h3⟩ => ⟨a, b, c, d, h1, h2, fun x y z g1 g2 => k _ _ (h3 x y z g1 g2)⟩) (by decide) (fun R Q h => ?_) (fun cdv A outer s H E hgd hr R Q h => ?_)
  · obtain ⟨a, b, c, d, rfl, _⟩ := h
    rfl
  · obtain ⟨a, b, np, nn, rfl, ⟨hp, hs⟩, q⟩ := h
    show WSs _ [0] _ [pool a b, .d (imgE np nn), .no, .no, .no, .no, .no, .no, .no, .no, .no, .no] _
    have nd : NChg.Nodup := scChg.nd
    walk_at "go"
    refine ws_forR (js := [4]) PassesOwn.never rfl mr rfl ?_
    walk_at "go"
    refine ⟨_, _, _, rfl, ⟨by decide, by decide⟩, hp, fun r1 a1 b1 hr1 hp1 => ⟨rfl, ?_⟩⟩
    walk_at "go"
    refine ⟨fun i R' => ∃ (a b : Int) (cs : List Chg) (nm : Int) (s4 s5 s6 s7 s8 s9 : SV), R' = [pool a b, .d (imgE np nn), .own (.lst (cs.map chgD)), .d (.int nm), s4, s5, s6, s7, s8, s9, .no, .no] ∧ PoolOk b ∧ cs.length = i ∧ (nums cs).Pairwise (· < ·) ∧ (∀ c ∈ cs, GoodC np nn c ∧ c.n ≤ nm) ∧ (-1 ≤ nm ∧ nm ≤ 2 * i - 1),
      ⟨a1, b1, [], -1, _, _, _, _, _, _, rfl, hp1, rfl, .nil, (fun c h => by cases h), by omega, by omega⟩, fun i R' hlt h => ?_, fun R' h => ?_⟩
    · obtain ⟨a, b, cs, nm, s4, s5, s6, s7, s8, s9, rfl, hp, hl, hinc, hall, hn0, hn1⟩ := h
      walk_at "gi"
      walk_at "go"
      refine ⟨_, _, _, rfl, ⟨by decide, by decide⟩, hp, fun r2 a2 b2 hr2 hp2 => ⟨rfl, ?_⟩⟩
      walk_at "go"
      refine ⟨tkE np, nsE nn, dtE np, rfl, ⟨rfl, ?_⟩⟩
      walk_at "go"
      refine ⟨_, _, _, rfl, ⟨by rw [show manyF (nsE nn) (dtE np) = manyE np nn from rfl, manyE_eq]; omega, by rw [show manyF (nsE nn) (dtE np) = manyE np nn from rfl, manyE_eq]; have := hs; unfold Sizes at this; omega⟩, hp2, fun r3 a3 b3 hr3 hp3 => ⟨rfl, ?_⟩⟩
      walk_at "go"
      refine ⟨tkE np, nsE nn, dtE np, r3, rfl, hr3, ⟨rfl, ?_⟩⟩
      rw [(page_is hs hr3.1 hr3.2).1]
      walk_at "go"
      refine we_lc1 [("_law_spot", 10)] [10] rfl nd (blkOk_by (N := NChg) (sc := defScope (topS 20)) (by decide +kernel)) (by decide) (by decide) (.rng mr rfl rfl rfl ?_)
      walk_at "go"
      have hL := (page_is hs hr3.1 hr3.2).2
      generalize hLn : (pageL np nn r3).length = Ln at *
      refine ⟨⟨by omega, by omega⟩, ?_⟩
      refine ⟨szle (by rw [List.length_map, List.length_range]; omega), fun j acc R' => ∃ (a b : Int) (ss : List Int), R' = [pool a b, .d (imgE np nn), .own (.lst (cs.map chgD)), .d (.int (nm + 1 + r2 / 2)), .d (.int i), .d (.int r3), .d (.int Ln), s7, s8, s9, .no, .no] ∧ PoolOk b ∧ acc = ss.map .int ∧ upTo ss j, ⟨_, _, [], rfl, hp3, rfl, .nil, fun s hs => by cases hs⟩, fun j x acc R' hx h => ?_, fun acc R' h => ?_⟩
      · obtain ⟨a4, b4, ss, rfl, hp4, rfl, hu⟩ := h
        rw [List.getElem?_map, Int.toNat_natCast] at hx
        cases hq : (List.range Ln)[j]? with
        | none => rw [hq] at hx; cases hx
        | some j' =>
          rw [hq] at hx
          cases hx
          have ej : j' = j := by
            have := (List.getElem?_eq_some_iff.mp hq).2
            rw [List.getElem_range] at this
            exact this.symm
          subst ej
          unfold Tn1
          walk_at "go"
          refine ⟨_, _, _, rfl, ⟨by decide, by decide⟩, hp4, fun r5 a5 b5 hr5 hp5 => ⟨rfl, ?_⟩⟩
          walk_at "go"
          refine ⟨fun _ => ?_, fun _ => ?_⟩
          · walk_at "go"
            exact ⟨a5, b5, ss ++ [(j' : Int)], rfl, hp5, by rw [List.map_append]; rfl, hu.add⟩
          · exact ⟨a5, b5, ss, rfl, hp5, rfl, hu.more⟩
      · obtain ⟨a4, b4, ss, rfl, hp4, rfl, hu⟩ := h
        rw [List.length_map, List.length_range] at hu
        have rest : ∀ (D' : DEnds) (a b : Int) (ss : List Int), PoolOk b → upTo ss Ln → ss ≠ [] → (∀ (a b : Int) (c : Chg) s7 s8 s9, PoolOk b → GoodC np nn c → c.n = nm + 1 + r2 / 2 → D'.nx [pool a b, .d (imgE np nn), .own (.lst ((cs ++ [c]).map chgD)), .d (.int (nm + 1 + r2 / 2)), .d (.int i), .d (.int r3), .d (.int Ln), s7, s8, s9, .no, .no]) →
            WSs (cxOf CX0 Pg w K mg base NChg "_law_changes" (defScope (topS 20)) f cdv A outer s H E).nox [0] (restB (topS 20)) [pool a b, .d (imgE np nn), .own (.lst (cs.map chgD)), .d (.int (nm + 1 + r2 / 2)), .d (.int i), .d (.int r3), .d (.int Ln), .own (.lst (ss.map .int)), s8, s9, .no, .no] D' := fun D' a b ss hp hu hne hD => by
          refine wss_fz 7 (ds := ss.map .int) rfl (by decide) ?_
          walk_at "go"
          generalize hN : nm + 1 + r2 / 2 = N at *
          refine we_tupleL mt rfl ?_
          refine we_lc0 [("_law_spot", 10)] [10] rfl nd (blkOk_by (N := NChg) (sc := defScope (topS 20)) (by decide +kernel)) (by decide) (by decide) (.list ?_)
          walk_at "go"
          refine lc_pure0 (as := ss) (enc := PyData.int) (g := fun s => putD2 (s, N * 10 + s)) [pool a b, .d (imgE np nn), .own (.lst (cs.map chgD)), .d (.int N), .d (.int i), .d (.int r3), .d (.int Ln), .d (.list (ss.map .int)), s8, s9, .no, .no] rfl (szle (by have := hu.len; omega)) (fun s hs => ?_) ?_
          · walk_at "go"
            rfl
          refine ⟨_, rfl, ?_⟩
          have ep : (ss.map fun s => putD2 (s, N * 10 + s)) = (ss.map fun s => (s, N * 10 + s)).map putD2 := by
            rw [List.map_map]
            rfl
          rw [ep]
          walk_at "go"
          refine we_tupleL mt rfl ?_
          refine we_lc1 [("_law_lean", 11)] [11] rfl nd (blkOk_by (N := NChg) (sc := defScope (topS 20)) (by decide +kernel)) (by decide) (by decide) (.rng mr rfl rfl rfl ?_)
          walk_at "go"
          refine ⟨szle (by rw [List.length_map, List.length_range]; omega), fun j acc R' => ∃ (a b : Int) (ls : List Int), R' = [pool a b, .d (imgE np nn), .own (.lst (cs.map chgD)), .d (.int N), .d (.int i), .d (.int r3), .d (.int Ln), .d (.list (ss.map .int)), .d (.tuple ((ss.map fun s => (s, N * 10 + s)).map putD2)), s9, .no, .no] ∧ PoolOk b ∧ acc = ls.map .int ∧ upTo ls j, ⟨_, _, [], rfl, hp, rfl, .nil, fun s hs => by cases hs⟩, fun j x acc R' hx h => ?_, fun acc R' h => ?_⟩
          · obtain ⟨a4, b4, ls, rfl, hp4, rfl, hl⟩ := h
            rw [List.getElem?_map] at hx
            cases hq : (List.range N.toNat)[j]? with
            | none => rw [hq] at hx; cases hx
            | some j' =>
              rw [hq] at hx
              cases hx
              have ej : j' = j := by
                have := (List.getElem?_eq_some_iff.mp hq).2
                rw [List.getElem_range] at this
                exact this.symm
              subst ej
              unfold Tn1
              walk_at "go"
              refine ⟨_, _, _, rfl, ⟨by decide, by decide⟩, hp4, fun r5 a5 b5 hr5 hp5 => ⟨rfl, ?_⟩⟩
              walk_at "go"
              refine ⟨fun _ => ?_, fun _ => ?_⟩
              · walk_at "go"
                exact ⟨a5, b5, ls ++ [(j' : Int)], rfl, hp5, by rw [List.map_append]; rfl, hl.add⟩
              · exact ⟨a5, b5, ls, rfl, hp5, rfl, hl.more⟩
          obtain ⟨a4, b4, ls, rfl, hp4, rfl, hul⟩ := h
          rw [List.length_map, List.length_range] at hul
          refine ⟨_, rfl, ?_⟩
          walk_at "go"
          have es : spots ⟨N, r3, ss.map fun s => (s, N * 10 + s), ls⟩ = ss := by
            unfold spots
            rw [List.map_map]
            exact List.map_id _
          have e5 := hu.len
          have e6 := hul.len
          refine ⟨?_, ?_⟩
          · rw [List.length_map]
            exact Nat.lt_of_le_of_lt (show _ ≤ 10000 by omega) (by decide)
          have fi := hD a4 b4 ⟨N, r3, ss.map fun s => (s, N * 10 + s), ls⟩ (.d (.list (ss.map .int))) (.d (.tuple ((ss.map fun s => (s, N * 10 + s)).map putD2))) (.d (.tuple (ls.map .int))) hp4 ⟨by show 0 ≤ N; omega, hr3.1, hr3.2, by rw [es]; exact hu.1, by rw [es]; intro s hs; show 0 ≤ s ∧ s < ((pageL np nn r3).length : Int); rw [hLn]; exact hu.2 s hs, by rw [es]; exact hne, hul.1, fun l hl => by have := hul.2 l hl; show 0 ≤ l ∧ l < N; omega, by show (ss.map _).length ≤ 5; rw [List.length_map]; omega, by show ls.length ≤ 30; omega, by show N < 100; omega, by show r3 < 100; have h1 := hr3.2; have h2 := manyE_eq np nn; have h3 := hs; unfold Sizes at h3; rw [show manyF (nsE nn) (dtE np) = manyE np nn from rfl] at h1; omega, fun p hp => by
            obtain ⟨s, hs', rfl⟩ := List.mem_map.mp hp
            have := hu.2 s hs'
            exact ⟨⟨this.1, by show s < 100; omega⟩, by show 0 ≤ N * 10 + s; omega, by show N * 10 + s < 2000; omega⟩⟩ rfl
          rw [List.map_append] at fi
          exact fi
        have fin : ∀ c : Chg, GoodC np nn c → c.n = nm + 1 + r2 / 2 → (cs ++ [c]).length = i + 1 ∧ (nums (cs ++ [c])).Pairwise (· < ·) ∧ (∀ c' ∈ cs ++ [c], GoodC np nn c' ∧ c'.n ≤ nm + 1 + r2 / 2) ∧ (-1 ≤ nm + 1 + r2 / 2 ∧ nm + 1 + r2 / 2 ≤ 2 * ((i + 1 : Nat) : Int) - 1) := fun c g1 g2 => by
          refine ⟨by rw [List.length_append, hl]; rfl, ?_, fun c' h => ?_, by omega, by omega⟩
          · unfold nums
            rw [List.map_append]
            refine List.pairwise_append.mpr ⟨hinc, List.pairwise_singleton _ _, fun x hx y hy => ?_⟩
            obtain ⟨o, ho, rfl⟩ := List.mem_map.mp hx
            have h1 := (hall o ho).2
            have h2 : y = c.n := by
              rw [List.map_cons, List.map_nil, List.mem_singleton] at hy
              exact hy
            show o.n < y
            omega
          · rcases List.mem_append.mp h with h | h
            · have h1 := hall c' h
              exact ⟨h1.1, by omega⟩
            · rw [List.mem_singleton] at h
              subst h
              exact ⟨g1, by omega⟩
        refine ⟨_, rfl, fun hne => ?_, fun he => ?_⟩
        · refine rest _ a4 b4 ss hp4 hu (fun z => hne (by rw [z]; rfl)) fun a b c s7 s8 s9 g1 g2 g3 => ?_
          obtain ⟨f1, f2, f3, f4, f5⟩ := fin c g2 g3
          exact ⟨a, b, cs ++ [c], _, _, _, _, _, _, _, rfl, g1, f1, f2, f3, f4, f5⟩
        · have e0 : ss = [] := List.map_eq_nil_iff.mp he
          subst e0
          iterate 6 walk_at "step"
          refine rest _ a4 b4 [0] hp4 ⟨List.pairwise_singleton _ _, fun s hs => by rw [List.mem_singleton] at hs; subst hs; omega⟩ (List.cons_ne_nil _ _) fun a b c s7 s8 s9 g1 g2 g3 => ?_
          obtain ⟨f1, f2, f3, f4, f5⟩ := fin c g2 g3
          exact ⟨a, b, cs ++ [c], _, _, _, _, _, _, _, rfl, g1, f1, f2, f3, f4, f5⟩
    · obtain ⟨a, b, cs, nm, s4, s5, s6, s7, s8, s9, rfl, hp, hl, hinc, hall, hn0, hn1⟩ := h
      walk_at "go"
      exact q _ _ _ hp ⟨by omega, hinc, fun c h => (hall c h).1⟩
end
end K07
namespace K07
open PySem PySem.Spec PyProof.Rows L2 Dl
local macro_rules | `(tactic| walk_at "v") => `(tactic| first
  | refine we_d (i := 0) rfl (vis3 rfl) rfl ?_ | refine we_o (i := 0) rfl (vis3 rfl) rfl ?_
  | refine we_d (i := 1) rfl (vis3 rfl) rfl ?_ | refine we_o (i := 1) rfl (vis3 rfl) rfl ?_
  | refine we_d (i := 2) rfl (vis3 rfl) rfl ?_ | refine we_o (i := 2) rfl (vis3 rfl) rfl ?_
  | refine we_d (i := 3) rfl (vis3 rfl) rfl ?_ | refine we_o (i := 3) rfl (vis3 rfl) rfl ?_
  | refine we_d (i := 4) rfl (vis3 rfl) rfl ?_ | refine we_o (i := 4) rfl (vis3 rfl) rfl ?_
  | refine we_d (i := 5) rfl (vis3 rfl) rfl ?_ | refine we_o (i := 5) rfl (vis3 rfl) rfl ?_
  | refine we_d (i := 6) rfl (vis3 rfl) rfl ?_ | refine we_o (i := 6) rfl (vis3 rfl) rfl ?_
  | refine we_d (i := 7) rfl (vis3 rfl) rfl ?_ | refine we_o (i := 7) rfl (vis3 rfl) rfl ?_
  | refine we_d (i := 8) rfl (vis3 rfl) rfl ?_ | refine we_o (i := 8) rfl (vis3 rfl) rfl ?_
  | refine we_d (i := 9) rfl (vis3 rfl) rfl ?_ | refine we_o (i := 9) rfl (vis3 rfl) rfl ?_
  | refine we_d (i := 10) rfl (vis3 rfl) rfl ?_ | refine we_o (i := 10) rfl (vis3 rfl) rfl ?_
  | refine we_d (i := 11) rfl (vis3 rfl) rfl ?_ | refine we_o (i := 11) rfl (vis3 rfl) rfl ?_
  | refine we_d (i := 12) rfl (vis3 rfl) rfl ?_ | refine we_o (i := 12) rfl (vis3 rfl) rfl ?_
  | refine we_d (i := 13) rfl (vis3 rfl) rfl ?_ | refine we_o (i := 13) rfl (vis3 rfl) rfl ?_)
local macro_rules | `(tactic| walk_at "si") => `(tactic| first
  | refine ws_set (i := 0) (by assumption) rfl (loc2 rfl) (by decide) ?_
  | refine ws_set (i := 1) (by assumption) rfl (loc2 rfl) (by decide) ?_
  | refine ws_set (i := 2) (by assumption) rfl (loc2 rfl) (by decide) ?_
  | refine ws_set (i := 3) (by assumption) rfl (loc2 rfl) (by decide) ?_
  | refine ws_set (i := 4) (by assumption) rfl (loc2 rfl) (by decide) ?_
  | refine ws_set (i := 5) (by assumption) rfl (loc2 rfl) (by decide) ?_
  | refine ws_set (i := 6) (by assumption) rfl (loc2 rfl) (by decide) ?_
  | refine ws_set (i := 7) (by assumption) rfl (loc2 rfl) (by decide) ?_
  | refine ws_set (i := 8) (by assumption) rfl (loc2 rfl) (by decide) ?_
  | refine ws_set (i := 9) (by assumption) rfl (loc2 rfl) (by decide) ?_
  | refine ws_set (i := 10) (by assumption) rfl (loc2 rfl) (by decide) ?_
  | refine ws_set (i := 11) (by assumption) rfl (loc2 rfl) (by decide) ?_
  | refine ws_set (i := 12) (by assumption) rfl (loc2 rfl) (by decide) ?_
  | refine ws_set (i := 13) (by assumption) rfl (loc2 rfl) (by decide) ?_)
local macro_rules | `(tactic| walk_at "gi") => `(tactic| first
  | refine wg_name (i := 0) (by assumption) rfl (loc2 rfl) (by decide) ?_
  | refine wg_name (i := 1) (by assumption) rfl (loc2 rfl) (by decide) ?_
  | refine wg_name (i := 2) (by assumption) rfl (loc2 rfl) (by decide) ?_
  | refine wg_name (i := 3) (by assumption) rfl (loc2 rfl) (by decide) ?_
  | refine wg_name (i := 4) (by assumption) rfl (loc2 rfl) (by decide) ?_
  | refine wg_name (i := 5) (by assumption) rfl (loc2 rfl) (by decide) ?_
  | refine wg_name (i := 6) (by assumption) rfl (loc2 rfl) (by decide) ?_
  | refine wg_name (i := 7) (by assumption) rfl (loc2 rfl) (by decide) ?_
  | refine wg_name (i := 8) (by assumption) rfl (loc2 rfl) (by decide) ?_
  | refine wg_name (i := 9) (by assumption) rfl (loc2 rfl) (by decide) ?_
  | refine wg_name (i := 10) (by assumption) rfl (loc2 rfl) (by decide) ?_
  | refine wg_name (i := 11) (by assumption) rfl (loc2 rfl) (by decide) ?_
  | refine wg_name (i := 12) (by assumption) rfl (loc2 rfl) (by decide) ?_
  | refine wg_name (i := 13) (by assumption) rfl (loc2 rfl) (by decide) ?_)
local macro_rules | `(tactic| walk_at "side") => `(tactic| first | exact rfl | exact Nat.le_trans (m := 1000) (Nat.le_of_ble_eq_true rfl) sz1000 | omega | decide | assumption)
local macro_rules | `(tactic| walk_at "we") => `(tactic| first
  | (refine isName ?_; walk_at "v")
  | refine we_int ?_ | refine we_bl ?_ | refine we_non ?_ | refine we_str ?_
  | refine we_ix ?_
  | refine we_addG ?_ | refine we_sub ?_ | refine we_mulG ?_ | refine we_div ?_ | refine we_mod ?_ | refine we_pow ?_ | refine we_neg ?_
  | refine we_gt ?_ | refine we_lt ?_ | refine we_ge ?_ | refine we_le ?_
  | refine we_tup ?_ | refine we_lst ?_ | refine we_dict0 ?_
  | refine we_len (by assumption) rfl ?_ | refine we_slG ?_ | refine we_eqG (by assumption) ?_ | refine we_neG (by assumption) ?_ | refine we_not ?_ | refine we_one ?_ | refine we_and ?_ | refine we_or ?_
  | refine we_call2 (by assumption) (by assumption) (by assumption) (by decide) rfl ?_)
local macro_rules | `(tactic| walk_at "wt") => `(tactic| first
  | refine wt_gt ?_ | refine wt_lt ?_ | refine wt_ge ?_ | refine wt_le ?_ | refine wt_not ?_
  | refine wt_eqG (by assumption) ?_ | refine wt_neG (by assumption) ?_ | refine wt_bool ?_ | refine wt_val ?_)
local macro_rules | `(tactic| walk_at "ws") => `(tactic| first
  | refine ws_ret ?_ | (refine isSet ?_; walk_at "si") | refine ws_if ?_
  | refine ws_append (pe_bm PySem.F.plainAttrs_list PySem.F.slot_list_append PySem.F.type_list_append mt_append pe_m (pa_cons pe_m pa_nil)) ?_
  | refine ws_continue ?_ | refine ws_break ?_ | refine ws_pass ?_)
local macro_rules | `(tactic| walk_at "l") => `(tactic| first
  | refine And.intro (Exists.intro _ rfl) ?_
  | refine And.intro trivial ?_
  | refine Exists.intro _ (And.intro rfl ?_)
  | refine Exists.intro _ (Exists.intro _ (And.intro rfl (And.intro rfl ?_)))
  | refine And.intro (And.intro (by walk_at "side") (by walk_at "side") : CDiv _ _) ?_
  | refine And.intro (.inl (And.intro (by walk_at "side") (by walk_at "side")) : CMul _ _) ?_
  | refine And.intro (.inr (And.intro (by walk_at "side") (by walk_at "side")) : CMul _ _) ?_
  | refine And.intro (And.intro (List.cons_ne_nil _ _) (And.intro (by walk_at "side") (And.intro (by walk_at "side") (by walk_at "side")))) ?_
  | refine And.intro (by walk_at "side") ?_)
local macro_rules | `(tactic| walk_at "step") => `(tactic| first
  | (refine isWE ?_; walk_at "we")
  | (refine isWT ?_; walk_at "wt")
  | (refine isWSs ?_; first | refine wss_nil ?_ | refine wss_one ?_ | refine wss_cons ?_)
  | (refine isWS ?_; walk_at "ws")
  | (refine isWDs ?_; first | refine wds_nil ?_ | refine wds_cons ?_)
  | (refine isWW ?_; first | refine ww_and1 ?_ | refine ww_or1 ?_ | refine ww_and ?_ | refine ww_or ?_)
  | refine allB_i fun _ _ _ _ _ => ?_
  | refine asI_i (allB_i fun _ _ _ _ _ => ?_)
  | (refine isWG ?_; first | walk_at "gi" | refine wg_tup rfl ?_ rfl)
  | (refine isWGs ?_; first | refine wgs_nil ?_ | refine wgs_consN ?_)
  | (refine isWO ?_; first | refine wo_none ?_ | refine wo_some ?_)
  | (refine isWA ?_; first | refine wa_nil ?_ | refine wa_cons ?_)
  | walk_at "l")
local macro_rules | `(tactic| walk_at "go") => `(tactic| repeat (walk_at "step"))
theorem sAll {α : Type} (f : α → D) : ∀ xs : List α, (∀ a ∈ xs, (f a).showable = true) → PyData.showableAll (xs.map f) = true
  | [], _ => rfl
  | x :: r, h => by
    rw [List.map_cons]
    show ((f x).showable && PyData.showableAll (r.map f)) = true
    rw [h x List.mem_cons_self, sAll f r fun a ha => h a (List.mem_cons_of_mem _ ha)]
    rfl
theorem dAll {α : Type} (f : α → D) : ∀ xs : List α, (∀ a ∈ xs, (f a).hasDict = false) → PyData.hasDictAll (xs.map f) = false
  | [], _ => rfl
  | x :: r, h => by
    rw [List.map_cons]
    show ((f x).hasDict || PyData.hasDictAll (r.map f)) = false
    rw [h x List.mem_cons_self, dAll f r fun a ha => h a (List.mem_cons_of_mem _ ha)]
    rfl
theorem pAll {α : Type} (f : α → D) (k : Nat) : ∀ xs : List α, (∀ a ∈ xs, (f a).depth ≤ k) → PyData.depthAll (xs.map f) ≤ k
  | [], _ => Nat.zero_le _
  | x :: r, h => by
    rw [List.map_cons]
    show max (f x).depth (PyData.depthAll (r.map f)) ≤ k
    exact Nat.max_le.mpr ⟨h x List.mem_cons_self, pAll f k r fun a ha => h a (List.mem_cons_of_mem _ ha)⟩
theorem lAll {α : Type} (f : α → D) (B : Nat) : ∀ xs : List α, (∀ a ∈ xs, (f a).shown.length ≤ B) → piled (PyData.shownAll (xs.map f)) ≤ xs.length * (B + 2)
  | [], _ => Nat.zero_le _
  | x :: r, h => by
    rw [List.map_cons]
    show piled ((f x).shown :: PyData.shownAll (r.map f)) ≤ _
    rw [piled_cons, List.length_cons, Nat.succ_mul]
    have h1 := h x List.mem_cons_self
    have h2 := lAll f B r fun a ha => h a (List.mem_cons_of_mem _ ha)
    omega
theorem listText_le (ts : List Str) : (listText ts).length ≤ piled ts + 2 := by
  cases ts with
  | nil => exact Nat.le_refl _
  | cons t r =>
    have h := textFrom_length_pos r 1 (("[" : Str) ++ (if (0 : Nat) > 0 then ", " else "" : String) ++ t) (Nat.succ_pos 0)
    have e : ((("[" : Str) ++ (if (0 : Nat) > 0 then ", " else "" : String) ++ t)).length = 1 + t.length := by
      rw [strLen_append, strLen_append]
      rfl
    have hX : (listText (t :: r)).length = (textFrom 1 (("[" : Str) ++ (if (0 : Nat) > 0 then ", " else "" : String) ++ t) r).length + 1 := by
      show (textFrom 1 (("[" : Str) ++ (if (0 : Nat) > 0 then ", " else "" : String) ++ t) r ++ ("]" : Str)).length = _
      rw [strLen_append]
      rfl
    rw [hX, h, e, piled_cons]
    omega
theorem tupleText_le (ts : List Str) : (tupleText ts).length ≤ piled ts + 3 := by
  have h1 : (Str.join ", " ts).length ≤ piled ts := by
    cases ts with
    | nil => exact Nat.zero_le _
    | cons t r =>
      have := join_length_add (t :: r) (List.cons_ne_nil _ _)
      omega
  have h2 : (((if ts.length == 1 then ",)" else ")" : String) : Str)).length ≤ 2 := by split <;> decide
  have h3 : ((("(" : String) : Str)).length = 1 := rfl
  unfold tupleText
  rw [strLen_append, strLen_append]
  omega
theorem log_of {i : Int} (h0 : 0 ≤ i) (h1 : i < 2000) : i.natAbs.log2 < 1920 := by
  have h2 : i.natAbs < 2 ^ 11 := by omega
  have : i.natAbs.log2 < 11 := by
    by_cases z : i.natAbs = 0
    · rw [z]
      decide
    · exact (Nat.log2_lt z).mpr h2
  omega
def Tiny (i : Int) : Prop := 0 ≤ i ∧ i < 2000
structure Shows (d : D) (k B : Nat) : Prop where
  s : d.showable = true
  h : d.hasDict = false
  p : d.depth ≤ k
  l : d.shown.length ≤ B
theorem sh_int {i : Int} (h : Tiny i) : Shows (.int i) 0 1921 := ⟨decide_eq_true (log_of h.1 h.2), rfl, Nat.le_refl _, int_text_len_1921 (log_of h.1 h.2)⟩
theorem sh_tup {α : Type} (f : α → D) (k B n : Nat) (xs : List α) (hn : xs.length ≤ n) (h : ∀ a ∈ xs, Shows (f a) k B) : Shows (.tuple (xs.map f)) (k + 1) (n * (B + 2) + 3) :=
  ⟨sAll f xs fun a ha => (h a ha).s, dAll f xs fun a ha => (h a ha).h, Nat.succ_le_succ (pAll f k xs fun a ha => (h a ha).p), by
    have h1 := lAll f B xs fun a ha => (h a ha).l
    have h2 := tupleText_le (PyData.shownAll (xs.map f))
    have h3 : xs.length * (B + 2) ≤ n * (B + 2) := Nat.mul_le_mul_right _ hn
    show (tupleText (PyData.shownAll (xs.map f))).length ≤ _
    omega⟩
theorem sh_lst {α : Type} (f : α → D) (k B n : Nat) (xs : List α) (hn : xs.length ≤ n) (h : ∀ a ∈ xs, Shows (f a) k B) : Shows (.list (xs.map f)) (k + 1) (n * (B + 2) + 2) :=
  ⟨sAll f xs fun a ha => (h a ha).s, dAll f xs fun a ha => (h a ha).h, Nat.succ_le_succ (pAll f k xs fun a ha => (h a ha).p), by
    have h1 := lAll f B xs fun a ha => (h a ha).l
    have h2 := listText_le (PyData.shownAll (xs.map f))
    have h3 : xs.length * (B + 2) ≤ n * (B + 2) := Nat.mul_le_mul_right _ hn
    show (listText (PyData.shownAll (xs.map f))).length ≤ _
    omega⟩
theorem Shows.up {d : D} {k B k' B' : Nat} (h : Shows d k B) (h1 : k ≤ k') (h2 : B ≤ B') : Shows d k' B' := ⟨h.s, h.h, Nat.le_trans h.p h1, Nat.le_trans h.l h2⟩
theorem sh_tup0 (k B n : Nat) (xs : List D) (hn : xs.length ≤ n) (h : ∀ a ∈ xs, Shows a k B) : Shows (.tuple xs) (k + 1) (n * (B + 2) + 3) := by
  have := sh_tup id k B n xs hn h
  rwa [List.map_id] at this
theorem sh_put {p : Int × Int} (h : Tiny p.1 ∧ Tiny p.2) : Shows (putD2 p) 1 3849 := by
  refine sh_tup0 0 1921 2 _ (Nat.le_refl _) fun a ha => ?_
  rcases List.mem_cons.mp ha with e | ha
  · subst e
    exact sh_int h.1
  · rcases List.mem_cons.mp ha with e | ha
    · subst e
      exact sh_int h.2
    · cases ha
theorem sh_chg {np nn : Nat} {c : Chg} (g : GoodC np nn c) : Shows (chgD c) 3 300000 := by
  refine (sh_tup0 2 70000 4 _ (Nat.le_refl _) fun a ha => ?_).up (Nat.le_refl _) (by decide)
  have i1 : Tiny c.n := ⟨g.n0, by have := g.n1; omega⟩
  have i2 : Tiny c.at_ := ⟨g.a0, by have := g.am; omega⟩
  rcases List.mem_cons.mp ha with e | ha
  · subst e
    exact (sh_int i1).up (by decide) (by decide)
  rcases List.mem_cons.mp ha with e | ha
  · subst e
    exact (sh_int i2).up (by decide) (by decide)
  rcases List.mem_cons.mp ha with e | ha
  · subst e
    exact (sh_tup putD2 1 3849 5 c.puts g.pl fun p hp => sh_put ⟨⟨(g.pb p hp).1.1, by have := (g.pb p hp).1.2; omega⟩, (g.pb p hp).2⟩).up (by decide) (by decide)
  rcases List.mem_cons.mp ha with e | ha
  · subst e
    exact (sh_tup PyData.int 0 1921 30 c.leans g.ll fun l hl => sh_int ⟨(g.lb l hl).1, by have h1 := (g.lb l hl).2; have h2 := g.n1; omega⟩).up (by decide) (by decide)
  · cases ha
theorem sh_cs {np nn : Nat} {cs : List Chg} (g : GoodCs np nn cs) : Shows (csD cs) 4 5000000 :=
  (sh_lst chgD 3 300000 13 cs g.len fun c hc => sh_chg (g.all c hc)).up (Nat.le_refl _) (by decide)
end K07
namespace K07
open PySem PySem.Spec PyProof.Rows L2 Dl
local macro_rules | `(tactic| walk_at "v") => `(tactic| first
  | refine we_d (i := 0) rfl (vis3 rfl) rfl ?_ | refine we_o (i := 0) rfl (vis3 rfl) rfl ?_
  | refine we_d (i := 1) rfl (vis3 rfl) rfl ?_ | refine we_o (i := 1) rfl (vis3 rfl) rfl ?_
  | refine we_d (i := 2) rfl (vis3 rfl) rfl ?_ | refine we_o (i := 2) rfl (vis3 rfl) rfl ?_
  | refine we_d (i := 3) rfl (vis3 rfl) rfl ?_ | refine we_o (i := 3) rfl (vis3 rfl) rfl ?_
  | refine we_d (i := 4) rfl (vis3 rfl) rfl ?_ | refine we_o (i := 4) rfl (vis3 rfl) rfl ?_
  | refine we_d (i := 5) rfl (vis3 rfl) rfl ?_ | refine we_o (i := 5) rfl (vis3 rfl) rfl ?_
  | refine we_d (i := 6) rfl (vis3 rfl) rfl ?_ | refine we_o (i := 6) rfl (vis3 rfl) rfl ?_
  | refine we_d (i := 7) rfl (vis3 rfl) rfl ?_ | refine we_o (i := 7) rfl (vis3 rfl) rfl ?_
  | refine we_d (i := 8) rfl (vis3 rfl) rfl ?_ | refine we_o (i := 8) rfl (vis3 rfl) rfl ?_
  | refine we_d (i := 9) rfl (vis3 rfl) rfl ?_ | refine we_o (i := 9) rfl (vis3 rfl) rfl ?_
  | refine we_d (i := 10) rfl (vis3 rfl) rfl ?_ | refine we_o (i := 10) rfl (vis3 rfl) rfl ?_
  | refine we_d (i := 11) rfl (vis3 rfl) rfl ?_ | refine we_o (i := 11) rfl (vis3 rfl) rfl ?_
  | refine we_d (i := 12) rfl (vis3 rfl) rfl ?_ | refine we_o (i := 12) rfl (vis3 rfl) rfl ?_
  | refine we_d (i := 13) rfl (vis3 rfl) rfl ?_ | refine we_o (i := 13) rfl (vis3 rfl) rfl ?_)
local macro_rules | `(tactic| walk_at "si") => `(tactic| first
  | refine ws_set (i := 0) (by assumption) rfl (loc2 rfl) (by decide) ?_
  | refine ws_set (i := 1) (by assumption) rfl (loc2 rfl) (by decide) ?_
  | refine ws_set (i := 2) (by assumption) rfl (loc2 rfl) (by decide) ?_
  | refine ws_set (i := 3) (by assumption) rfl (loc2 rfl) (by decide) ?_
  | refine ws_set (i := 4) (by assumption) rfl (loc2 rfl) (by decide) ?_
  | refine ws_set (i := 5) (by assumption) rfl (loc2 rfl) (by decide) ?_
  | refine ws_set (i := 6) (by assumption) rfl (loc2 rfl) (by decide) ?_
  | refine ws_set (i := 7) (by assumption) rfl (loc2 rfl) (by decide) ?_
  | refine ws_set (i := 8) (by assumption) rfl (loc2 rfl) (by decide) ?_
  | refine ws_set (i := 9) (by assumption) rfl (loc2 rfl) (by decide) ?_
  | refine ws_set (i := 10) (by assumption) rfl (loc2 rfl) (by decide) ?_
  | refine ws_set (i := 11) (by assumption) rfl (loc2 rfl) (by decide) ?_
  | refine ws_set (i := 12) (by assumption) rfl (loc2 rfl) (by decide) ?_
  | refine ws_set (i := 13) (by assumption) rfl (loc2 rfl) (by decide) ?_)
local macro_rules | `(tactic| walk_at "gi") => `(tactic| first
  | refine wg_name (i := 0) (by assumption) rfl (loc2 rfl) (by decide) ?_
  | refine wg_name (i := 1) (by assumption) rfl (loc2 rfl) (by decide) ?_
  | refine wg_name (i := 2) (by assumption) rfl (loc2 rfl) (by decide) ?_
  | refine wg_name (i := 3) (by assumption) rfl (loc2 rfl) (by decide) ?_
  | refine wg_name (i := 4) (by assumption) rfl (loc2 rfl) (by decide) ?_
  | refine wg_name (i := 5) (by assumption) rfl (loc2 rfl) (by decide) ?_
  | refine wg_name (i := 6) (by assumption) rfl (loc2 rfl) (by decide) ?_
  | refine wg_name (i := 7) (by assumption) rfl (loc2 rfl) (by decide) ?_
  | refine wg_name (i := 8) (by assumption) rfl (loc2 rfl) (by decide) ?_
  | refine wg_name (i := 9) (by assumption) rfl (loc2 rfl) (by decide) ?_
  | refine wg_name (i := 10) (by assumption) rfl (loc2 rfl) (by decide) ?_
  | refine wg_name (i := 11) (by assumption) rfl (loc2 rfl) (by decide) ?_
  | refine wg_name (i := 12) (by assumption) rfl (loc2 rfl) (by decide) ?_
  | refine wg_name (i := 13) (by assumption) rfl (loc2 rfl) (by decide) ?_)
local macro_rules | `(tactic| walk_at "side") => `(tactic| first | exact rfl | exact Nat.le_trans (m := 1000) (Nat.le_of_ble_eq_true rfl) sz1000 | omega | decide | assumption)
local macro_rules | `(tactic| walk_at "we") => `(tactic| first
  | (refine isName ?_; walk_at "v")
  | refine we_int ?_ | refine we_bl ?_ | refine we_non ?_ | refine we_str ?_
  | refine we_ix ?_
  | refine we_addG ?_ | refine we_sub ?_ | refine we_mulG ?_ | refine we_div ?_ | refine we_mod ?_ | refine we_pow ?_ | refine we_neg ?_
  | refine we_gt ?_ | refine we_lt ?_ | refine we_ge ?_ | refine we_le ?_
  | refine we_tup ?_ | refine we_lst ?_ | refine we_dict0 ?_
  | refine we_len (by assumption) rfl ?_ | refine we_slG ?_ | refine we_eqG (by assumption) ?_ | refine we_neG (by assumption) ?_ | refine we_not ?_ | refine we_one ?_ | refine we_and ?_ | refine we_or ?_
  | refine we_call2 (by assumption) (by assumption) (by assumption) (by decide) rfl ?_)
local macro_rules | `(tactic| walk_at "wt") => `(tactic| first
  | refine wt_gt ?_ | refine wt_lt ?_ | refine wt_ge ?_ | refine wt_le ?_ | refine wt_not ?_
  | refine wt_eqG (by assumption) ?_ | refine wt_neG (by assumption) ?_ | refine wt_bool ?_ | refine wt_val ?_)
local macro_rules | `(tactic| walk_at "ws") => `(tactic| first
  | refine ws_ret ?_ | (refine isSet ?_; walk_at "si") | refine ws_if ?_
  | refine ws_append (pe_bm PySem.F.plainAttrs_list PySem.F.slot_list_append PySem.F.type_list_append mt_append pe_m (pa_cons pe_m pa_nil)) ?_
  | refine ws_continue ?_ | refine ws_break ?_ | refine ws_pass ?_)
local macro_rules | `(tactic| walk_at "l") => `(tactic| first
  | refine And.intro (Exists.intro _ rfl) ?_
  | refine And.intro trivial ?_
  | refine Exists.intro _ (And.intro rfl ?_)
  | refine Exists.intro _ (Exists.intro _ (And.intro rfl (And.intro rfl ?_)))
  | refine And.intro (And.intro (by walk_at "side") (by walk_at "side") : CDiv _ _) ?_
  | refine And.intro (.inl (And.intro (by walk_at "side") (by walk_at "side")) : CMul _ _) ?_
  | refine And.intro (.inr (And.intro (by walk_at "side") (by walk_at "side")) : CMul _ _) ?_
  | refine And.intro (And.intro (List.cons_ne_nil _ _) (And.intro (by walk_at "side") (And.intro (by walk_at "side") (by walk_at "side")))) ?_
  | refine And.intro (by walk_at "side") ?_)
local macro_rules | `(tactic| walk_at "step") => `(tactic| first
  | (refine isWE ?_; walk_at "we")
  | (refine isWT ?_; walk_at "wt")
  | (refine isWSs ?_; first | refine wss_nil ?_ | refine wss_one ?_ | refine wss_cons ?_)
  | (refine isWS ?_; walk_at "ws")
  | (refine isWDs ?_; first | refine wds_nil ?_ | refine wds_cons ?_)
  | (refine isWW ?_; first | refine ww_and1 ?_ | refine ww_or1 ?_ | refine ww_and ?_ | refine ww_or ?_)
  | refine allB_i fun _ _ _ _ _ => ?_
  | refine asI_i (allB_i fun _ _ _ _ _ => ?_)
  | (refine isWG ?_; first | walk_at "gi" | refine wg_tup rfl ?_ rfl)
  | (refine isWGs ?_; first | refine wgs_nil ?_ | refine wgs_consN ?_)
  | (refine isWO ?_; first | refine wo_none ?_ | refine wo_some ?_)
  | (refine isWA ?_; first | refine wa_nil ?_ | refine wa_cons ?_)
  | walk_at "l")
local macro_rules | `(tactic| walk_at "go") => `(tactic| repeat (walk_at "step"))
section
variable {X : Cx} {P : List Nat} {R : DS} {a b c : Expr} {pos : Pos} {Q : SV → DS → Prop}
/-- a <= b <= c, of ints -/
theorem we_chain (h : WE X P a R fun x R1 => asI x fun i => WE X P b R1 fun y R2 => asI y fun j => (i ≤ j → WE X P c R2 fun z R3 => asI z fun l => Q (.d (.bool (decide (j ≤ l)))) R3) ∧ (¬ i ≤ j → Q (.d (.bool false)) R2))
    (hm : lastMarks [.LtE, .LtE] [b, c] = false := by rfl) : WE X P (.Compare a [.LtE, .LtE] [b, c] pos) R Q :=
  .of (pe_chain op_le op_le pe_m pe_m pe_m hm) fun F σ Hd H w => h.use w fun Hd1 R1 x v H1 e1 w1 r1 q1 => by
    obtain ⟨i, rfl, q1⟩ := q1.elim
    cases (show Dp _ _ v (.int i) from r1)
    exact q1.use w1 fun Hd2 R2 y u H2 e2 w2 r2 q2 => by
      obtain ⟨j, rfl, h1, h2⟩ := q2.elim
      cases (show Dp _ _ u (.int j) from r2)
      refine ⟨i, j, rfl, rfl, decide (i ≤ j), rfl, ?_⟩
      by_cases z : i ≤ j
      · rw [decide_eq_true z]
        exact iteT ((h1 z).use w2 fun Hd3 R3 y u H3 e3 w3 r3 q3 => by
          obtain ⟨l, rfl, q⟩ := q3.elim
          cases (show Dp _ _ u (.int l) from r3)
          exact ⟨j, l, rfl, rfl, .same (e1.trans (e2.trans e3)) (.here w3 (show Rp _ _ _ _ _ _ (.d (.bool (decide (j ≤ l)))) _ from .bl _) q)⟩)
      · rw [decide_eq_false z]
        exact iteF (.same (e1.trans e2) (.here w2 (show Rp _ _ _ _ _ _ (.d (.bool false)) _ from .bl _) (h2 z)))
/-- a module's own int -/
theorem we_glob {x : Str} {i : Int} {u : Value} (hm : X.mg x = some u) (hg : Gl X x) (hr : L2.RelV (.int i) u) (q : Q (.d (.int i)) R) (hd : (x == ("__debug__" : Str)) = false := by decide) : WE X P (.Name x pos) R Q :=
  .of (pe_glob hg hm hr hd) fun F σ Hd H w => .here w (show Rp _ _ _ _ _ _ (.d (.int i)) _ from .int _) q
end
end K07
namespace K07
open PySem PySem.Spec PyProof.Rows L2 Dl
local macro_rules | `(tactic| walk_at "v") => `(tactic| first
  | refine we_d (i := 0) rfl (vis3 rfl) rfl ?_ | refine we_o (i := 0) rfl (vis3 rfl) rfl ?_
  | refine we_d (i := 1) rfl (vis3 rfl) rfl ?_ | refine we_o (i := 1) rfl (vis3 rfl) rfl ?_
  | refine we_d (i := 2) rfl (vis3 rfl) rfl ?_ | refine we_o (i := 2) rfl (vis3 rfl) rfl ?_
  | refine we_d (i := 3) rfl (vis3 rfl) rfl ?_ | refine we_o (i := 3) rfl (vis3 rfl) rfl ?_
  | refine we_d (i := 4) rfl (vis3 rfl) rfl ?_ | refine we_o (i := 4) rfl (vis3 rfl) rfl ?_
  | refine we_d (i := 5) rfl (vis3 rfl) rfl ?_ | refine we_o (i := 5) rfl (vis3 rfl) rfl ?_
  | refine we_d (i := 6) rfl (vis3 rfl) rfl ?_ | refine we_o (i := 6) rfl (vis3 rfl) rfl ?_
  | refine we_d (i := 7) rfl (vis3 rfl) rfl ?_ | refine we_o (i := 7) rfl (vis3 rfl) rfl ?_
  | refine we_d (i := 8) rfl (vis3 rfl) rfl ?_ | refine we_o (i := 8) rfl (vis3 rfl) rfl ?_
  | refine we_d (i := 9) rfl (vis3 rfl) rfl ?_ | refine we_o (i := 9) rfl (vis3 rfl) rfl ?_
  | refine we_d (i := 10) rfl (vis3 rfl) rfl ?_ | refine we_o (i := 10) rfl (vis3 rfl) rfl ?_
  | refine we_d (i := 11) rfl (vis3 rfl) rfl ?_ | refine we_o (i := 11) rfl (vis3 rfl) rfl ?_
  | refine we_d (i := 12) rfl (vis3 rfl) rfl ?_ | refine we_o (i := 12) rfl (vis3 rfl) rfl ?_
  | refine we_d (i := 13) rfl (vis3 rfl) rfl ?_ | refine we_o (i := 13) rfl (vis3 rfl) rfl ?_)
local macro_rules | `(tactic| walk_at "si") => `(tactic| first
  | refine ws_set (i := 0) (by assumption) rfl (loc2 rfl) (by decide) ?_
  | refine ws_set (i := 1) (by assumption) rfl (loc2 rfl) (by decide) ?_
  | refine ws_set (i := 2) (by assumption) rfl (loc2 rfl) (by decide) ?_
  | refine ws_set (i := 3) (by assumption) rfl (loc2 rfl) (by decide) ?_
  | refine ws_set (i := 4) (by assumption) rfl (loc2 rfl) (by decide) ?_
  | refine ws_set (i := 5) (by assumption) rfl (loc2 rfl) (by decide) ?_
  | refine ws_set (i := 6) (by assumption) rfl (loc2 rfl) (by decide) ?_
  | refine ws_set (i := 7) (by assumption) rfl (loc2 rfl) (by decide) ?_
  | refine ws_set (i := 8) (by assumption) rfl (loc2 rfl) (by decide) ?_
  | refine ws_set (i := 9) (by assumption) rfl (loc2 rfl) (by decide) ?_
  | refine ws_set (i := 10) (by assumption) rfl (loc2 rfl) (by decide) ?_
  | refine ws_set (i := 11) (by assumption) rfl (loc2 rfl) (by decide) ?_
  | refine ws_set (i := 12) (by assumption) rfl (loc2 rfl) (by decide) ?_
  | refine ws_set (i := 13) (by assumption) rfl (loc2 rfl) (by decide) ?_)
local macro_rules | `(tactic| walk_at "gi") => `(tactic| first
  | refine wg_name (i := 0) (by assumption) rfl (loc2 rfl) (by decide) ?_
  | refine wg_name (i := 1) (by assumption) rfl (loc2 rfl) (by decide) ?_
  | refine wg_name (i := 2) (by assumption) rfl (loc2 rfl) (by decide) ?_
  | refine wg_name (i := 3) (by assumption) rfl (loc2 rfl) (by decide) ?_
  | refine wg_name (i := 4) (by assumption) rfl (loc2 rfl) (by decide) ?_
  | refine wg_name (i := 5) (by assumption) rfl (loc2 rfl) (by decide) ?_
  | refine wg_name (i := 6) (by assumption) rfl (loc2 rfl) (by decide) ?_
  | refine wg_name (i := 7) (by assumption) rfl (loc2 rfl) (by decide) ?_
  | refine wg_name (i := 8) (by assumption) rfl (loc2 rfl) (by decide) ?_
  | refine wg_name (i := 9) (by assumption) rfl (loc2 rfl) (by decide) ?_
  | refine wg_name (i := 10) (by assumption) rfl (loc2 rfl) (by decide) ?_
  | refine wg_name (i := 11) (by assumption) rfl (loc2 rfl) (by decide) ?_
  | refine wg_name (i := 12) (by assumption) rfl (loc2 rfl) (by decide) ?_
  | refine wg_name (i := 13) (by assumption) rfl (loc2 rfl) (by decide) ?_)
local macro_rules | `(tactic| walk_at "side") => `(tactic| first | exact rfl | exact Nat.le_trans (m := 1000) (Nat.le_of_ble_eq_true rfl) sz1000 | omega | decide | assumption)
local macro_rules | `(tactic| walk_at "we") => `(tactic| first
  | (refine isName ?_; walk_at "v")
  | refine we_int ?_ | refine we_bl ?_ | refine we_non ?_ | refine we_str ?_
  | refine we_ix ?_
  | refine we_addG ?_ | refine we_sub ?_ | refine we_mulG ?_ | refine we_div ?_ | refine we_mod ?_ | refine we_pow ?_ | refine we_neg ?_
  | refine we_gt ?_ | refine we_lt ?_ | refine we_ge ?_ | refine we_le ?_
  | refine we_tup ?_ | refine we_lst ?_ | refine we_dict0 ?_
  | refine we_len (by assumption) rfl ?_ | refine we_slG ?_ | refine we_eqG (by assumption) ?_ | refine we_neG (by assumption) ?_ | refine we_not ?_ | refine we_one ?_ | refine we_and ?_ | refine we_or ?_
  | refine we_call2 (by assumption) (by assumption) (by assumption) (by decide) rfl ?_)
local macro_rules | `(tactic| walk_at "wt") => `(tactic| first
  | refine wt_gt ?_ | refine wt_lt ?_ | refine wt_ge ?_ | refine wt_le ?_ | refine wt_not ?_
  | refine wt_eqG (by assumption) ?_ | refine wt_neG (by assumption) ?_ | refine wt_bool ?_ | refine wt_val ?_)
local macro_rules | `(tactic| walk_at "ws") => `(tactic| first
  | refine ws_ret ?_ | (refine isSet ?_; walk_at "si") | refine ws_if ?_
  | refine ws_append (pe_bm PySem.F.plainAttrs_list PySem.F.slot_list_append PySem.F.type_list_append mt_append pe_m (pa_cons pe_m pa_nil)) ?_
  | refine ws_continue ?_ | refine ws_break ?_ | refine ws_pass ?_)
local macro_rules | `(tactic| walk_at "l") => `(tactic| first
  | refine And.intro (Exists.intro _ rfl) ?_
  | refine And.intro trivial ?_
  | refine Exists.intro _ (And.intro rfl ?_)
  | refine Exists.intro _ (Exists.intro _ (And.intro rfl (And.intro rfl ?_)))
  | refine And.intro (And.intro (by walk_at "side") (by walk_at "side") : CDiv _ _) ?_
  | refine And.intro (.inl (And.intro (by walk_at "side") (by walk_at "side")) : CMul _ _) ?_
  | refine And.intro (.inr (And.intro (by walk_at "side") (by walk_at "side")) : CMul _ _) ?_
  | refine And.intro (And.intro (List.cons_ne_nil _ _) (And.intro (by walk_at "side") (And.intro (by walk_at "side") (by walk_at "side")))) ?_
  | refine And.intro (by walk_at "side") ?_)
local macro_rules | `(tactic| walk_at "step") => `(tactic| first
  | (refine isWE ?_; walk_at "we")
  | (refine isWT ?_; walk_at "wt")
  | (refine isWSs ?_; first | refine wss_nil ?_ | refine wss_one ?_ | refine wss_cons ?_)
  | (refine isWS ?_; walk_at "ws")
  | (refine isWDs ?_; first | refine wds_nil ?_ | refine wds_cons ?_)
  | (refine isWW ?_; first | refine ww_and1 ?_ | refine ww_or1 ?_ | refine ww_and ?_ | refine ww_or ?_)
  | refine allB_i fun _ _ _ _ _ => ?_
  | refine asI_i (allB_i fun _ _ _ _ _ => ?_)
  | (refine isWG ?_; first | walk_at "gi" | refine wg_tup rfl ?_ rfl)
  | (refine isWGs ?_; first | refine wgs_nil ?_ | refine wgs_consN ?_)
  | (refine isWO ?_; first | refine wo_none ?_ | refine wo_some ?_)
  | (refine isWA ?_; first | refine wa_nil ?_ | refine wa_cons ?_)
  | walk_at "l")
local macro_rules | `(tactic| walk_at "go") => `(tactic| repeat (walk_at "step"))
abbrev NFirst : List Str := ["image", "many"]
theorem scFirst : FnScope NFirst ["image"] (defScope (topS 9)) := ⟨rfl, rfl, rfl, by decide +kernel, rfl, by decide +kernel, by decide +kernel⟩
abbrev NNode : List Str := ["page"]
theorem scNode : FnScope NNode ["page"] (defScope (topS 10)) := ⟨rfl, rfl, rfl, by decide +kernel, rfl, by decide +kernel, by decide +kernel⟩
abbrev NPages : List Str := ["image"]
theorem scPages : FnScope NPages ["image"] (defScope (topS 6)) := ⟨rfl, rfl, rfl, by decide +kernel, rfl, by decide +kernel, by decide +kernel⟩
abbrev NWhole : List Str := ["thing"]
theorem scWhole : FnScope NWhole ["thing"] (defScope (topS 4)) := ⟨rfl, rfl, rfl, by decide +kernel, rfl, by decide +kernel, by decide +kernel⟩
abbrev NWithin : List Str := ["thing", "least", "most"]
theorem scWithin : FnScope NWithin ["thing", "least", "most"] (defScope (topS 5)) := ⟨rfl, rfl, rfl, by decide +kernel, rfl, by decide +kernel, by decide +kernel⟩
abbrev NCheck : List Str := ["image", "page"]
theorem scCheck : FnScope NCheck ["image", "page"] (defScope (topS 11)) := ⟨rfl, rfl, rfl, by decide +kernel, rfl, by decide +kernel, by decide +kernel⟩
local macro_rules | `(tactic| walk_at "we") => `(tactic| first
  | refine we_chain ?_
  | refine we_glob (by assumption) rfl (by assumption) ?_
  | refine we_isi (by assumption) rfl (by assumption) rfl rfl ?_)
section
variable {Pg : Program} {w : World} {K : PySem.W.Frag} {mg : Str → Option Value} {base : Heap} {u4 : Value}
def sFirst : SpD := fun R Q => ∃ tk ns dt, R = [.d (imgD tk ns dt)] ∧ Q (.d (.int (1 + nodP ns))) R
theorem ok_first {f : Addr} {fd : FuncData} (F : Fun K "_first_data_page" "_first_data_page" (topS 9) f fd) (hm : mg "_first_data_page" = some (.ref f)) (hb : Binds K fd ["image"] []) (ml : mg "len" = none) (m4 : mg "NODES_OF_A_PAGE" = some u4) (r4 : L2.RelV (.int 4) u4) : Can Pg w K mg base 1 "_first_data_page" sFirst := by
  refine can_def F scFirst hm hb (fun A Z Z' k ⟨a, b, c, h1, h2⟩ => ⟨a, b, c, h1, k _ _ h2⟩) (by decide) (fun R Q h => ?_) (fun cdv A outer s H E hgd hr R Q h => ?_)
  · obtain ⟨a, b, c, rfl, _⟩ := h
    rfl
  · obtain ⟨tk, ns, dt, rfl, q⟩ := h
    show WSs _ [] _ [.d (imgD tk ns dt), .no] _
    have nd : NFirst.Nodup := scFirst.nd
    walk_at "go"
    have e : 1 + nodP ns = 1 + ((ns.length : Int) + 4 - 1) / 4 := by
      unfold nodP
      omega
    rw [e] at q
    exact q
def sNode : SpD := fun R Q => ∃ p : Int, R = [.d (.int p)] ∧ Q (.d (.int ((p - 1) * 4))) R
theorem ok_node {f : Addr} {fd : FuncData} (F : Fun K "_first_node" "_first_node" (topS 10) f fd) (hm : mg "_first_node" = some (.ref f)) (hb : Binds K fd ["page"] []) (m4 : mg "NODES_OF_A_PAGE" = some u4) (r4 : L2.RelV (.int 4) u4) : Can Pg w K mg base 1 "_first_node" sNode := by
  refine can_def F scNode hm hb (fun A Z Z' k ⟨a, h1, h2⟩ => ⟨a, h1, k _ _ h2⟩) (by decide) (fun R Q h => ?_) (fun cdv A outer s H E hgd hr R Q h => ?_)
  · obtain ⟨a, rfl, _⟩ := h
    rfl
  · obtain ⟨p, rfl, q⟩ := h
    show WSs _ [] _ [.d (.int p)] _
    have nd : NNode.Nodup := scNode.nd
    walk_at "go"
    exact q
def sPages : SpD := fun R Q => ∃ tk ns dt, R = [.d (imgD tk ns dt)] ∧ Q (.d (.int (manyF ns dt))) R
theorem ok_pages {f : Addr} {fd : FuncData} (F : Fun K "disk_pages" "disk_pages" (topS 6) f fd) (hm : mg "disk_pages" = some (.ref f)) (hb : Binds K fd ["image"] []) (ml : mg "len" = none) (cFirst : Can Pg w K mg base 1 "_first_data_page" sFirst) : Can Pg w K mg base 2 "disk_pages" sPages := by
  refine can_def F scPages hm hb (fun A Z Z' k ⟨a, b, c, h1, h2⟩ => ⟨a, b, c, h1, k _ _ h2⟩) (by decide) (fun R Q h => ?_) (fun cdv A outer s H E hgd hr R Q h => ?_)
  · obtain ⟨a, b, c, rfl, _⟩ := h
    rfl
  · obtain ⟨tk, ns, dt, rfl, q⟩ := h
    show WSs _ [] _ [.d (imgD tk ns dt)] _
    have nd : NPages.Nodup := scPages.nd
    walk_at "go"
    refine ⟨tk, ns, dt, rfl, ⟨rfl, ?_⟩⟩
    walk_at "go"
    exact q
def sWhole : SpD := fun R Q => ∃ p : Int, R = [.d (.int p)] ∧ Q (.d (.bool true)) R
theorem ok_whole {f : Addr} {fd : FuncData} (F : Fun K "is_whole" "is_whole" (topS 4) f fd) (hm : mg "is_whole" = some (.ref f)) (hb : Binds K fd ["thing"] []) (mi : mg "isinstance" = none) (mn : mg "int" = none) (mb : mg "bool" = none) : Can Pg w K mg base 1 "is_whole" sWhole := by
  refine can_def F scWhole hm hb (fun A Z Z' k ⟨a, h1, h2⟩ => ⟨a, h1, k _ _ h2⟩) (by decide) (fun R Q h => ?_) (fun cdv A outer s H E hgd hr R Q h => ?_)
  · obtain ⟨a, rfl, _⟩ := h
    rfl
  · obtain ⟨p, rfl, q⟩ := h
    show WSs _ [] _ [.d (.int p)] _
    have nd : NWhole.Nodup := scWhole.nd
    walk_at "go"
    refine ⟨fun _ => ?_, fun z => Bool.noConfusion z⟩
    walk_at "go"
    exact q
def sWithin : SpD := fun R Q => ∃ p l m : Int, R = [.d (.int p), .d (.int l), .d (.int m)] ∧ (l ≤ p ∧ p ≤ m) ∧ Q (.d (.bool true)) R
theorem ok_within {f : Addr} {fd : FuncData} (F : Fun K "is_within" "is_within" (topS 5) f fd) (hm : mg "is_within" = some (.ref f)) (hb : Binds K fd ["thing", "least", "most"] []) (cWhole : Can Pg w K mg base 1 "is_whole" sWhole) : Can Pg w K mg base 2 "is_within" sWithin := by
  refine can_def F scWithin hm hb (fun A Z Z' k ⟨a, b, c, h1, h2, h3⟩ => ⟨a, b, c, h1, h2, k _ _ h3⟩) (by decide) (fun R Q h => ?_) (fun cdv A outer s H E hgd hr R Q h => ?_)
  · obtain ⟨a, b, c, rfl, _⟩ := h
    rfl
  · obtain ⟨p, l, m, rfl, ⟨h1, h2⟩, q⟩ := h
    show WSs _ [] _ [.d (.int p), .d (.int l), .d (.int m)] _
    have nd : NWithin.Nodup := scWithin.nd
    walk_at "go"
    refine ⟨fun _ => ?_, fun z => Bool.noConfusion z⟩
    walk_at "go"
    refine ⟨fun _ => ?_, fun z => absurd h1 z⟩
    walk_at "go"
    have q' : ∀ x, x = true → Q (.d (.bool x)) [.d (.int p), .d (.int l), .d (.int m)] := fun x e => by
      rw [e]
      exact q
    exact q' _ (decide_eq_true h2)
def sCheck : SpD := fun R Q => ∃ tk ns dt p, R = [.d (imgD tk ns dt), .d (.int p)] ∧ (0 ≤ p ∧ p < manyF ns dt) ∧ Q (.d .none) R
theorem ok_check {f : Addr} {fd : FuncData} (F : Fun K "_check_page" "_check_page" (topS 11) f fd) (hm : mg "_check_page" = some (.ref f)) (hb : Binds K fd ["image", "page"] []) (cWithin : Can Pg w K mg base 2 "is_within" sWithin) (cPages : Can Pg w K mg base 2 "disk_pages" sPages) : Can Pg w K mg base 3 "_check_page" sCheck := by
  refine can_def F scCheck hm hb (fun A Z Z' k ⟨a, b, c, d, h1, h2, h3⟩ => ⟨a, b, c, d, h1, h2, k _ _ h3⟩) (by decide) (fun R Q h => ?_) (fun cdv A outer s H E hgd hr R Q h => ?_)
  · obtain ⟨a, b, c, d, rfl, _⟩ := h
    rfl
  · obtain ⟨tk, ns, dt, p, rfl, ⟨h1, h2⟩, q⟩ := h
    show WSs _ [] _ [.d (imgD tk ns dt), .d (.int p)] _
    have nd : NCheck.Nodup := scCheck.nd
    walk_at "go"
    refine ⟨tk, ns, dt, rfl, ⟨rfl, ?_⟩⟩
    walk_at "go"
    refine ⟨p, _, _, rfl, ⟨h1, by omega⟩, ⟨rfl, ?_⟩⟩
    walk_at "go"
    refine ⟨fun z => Bool.noConfusion z, fun _ => ?_⟩
    walk_at "go"
    exact q
end
end K07
namespace K07
open PySem PySem.Spec PyProof.Rows L2 Dl
local macro_rules | `(tactic| walk_at "v") => `(tactic| first
  | refine we_d (i := 0) rfl (vis3 rfl) rfl ?_ | refine we_o (i := 0) rfl (vis3 rfl) rfl ?_
  | refine we_d (i := 1) rfl (vis3 rfl) rfl ?_ | refine we_o (i := 1) rfl (vis3 rfl) rfl ?_
  | refine we_d (i := 2) rfl (vis3 rfl) rfl ?_ | refine we_o (i := 2) rfl (vis3 rfl) rfl ?_
  | refine we_d (i := 3) rfl (vis3 rfl) rfl ?_ | refine we_o (i := 3) rfl (vis3 rfl) rfl ?_
  | refine we_d (i := 4) rfl (vis3 rfl) rfl ?_ | refine we_o (i := 4) rfl (vis3 rfl) rfl ?_
  | refine we_d (i := 5) rfl (vis3 rfl) rfl ?_ | refine we_o (i := 5) rfl (vis3 rfl) rfl ?_
  | refine we_d (i := 6) rfl (vis3 rfl) rfl ?_ | refine we_o (i := 6) rfl (vis3 rfl) rfl ?_
  | refine we_d (i := 7) rfl (vis3 rfl) rfl ?_ | refine we_o (i := 7) rfl (vis3 rfl) rfl ?_
  | refine we_d (i := 8) rfl (vis3 rfl) rfl ?_ | refine we_o (i := 8) rfl (vis3 rfl) rfl ?_
  | refine we_d (i := 9) rfl (vis3 rfl) rfl ?_ | refine we_o (i := 9) rfl (vis3 rfl) rfl ?_
  | refine we_d (i := 10) rfl (vis3 rfl) rfl ?_ | refine we_o (i := 10) rfl (vis3 rfl) rfl ?_
  | refine we_d (i := 11) rfl (vis3 rfl) rfl ?_ | refine we_o (i := 11) rfl (vis3 rfl) rfl ?_
  | refine we_d (i := 12) rfl (vis3 rfl) rfl ?_ | refine we_o (i := 12) rfl (vis3 rfl) rfl ?_
  | refine we_d (i := 13) rfl (vis3 rfl) rfl ?_ | refine we_o (i := 13) rfl (vis3 rfl) rfl ?_)
local macro_rules | `(tactic| walk_at "si") => `(tactic| first
  | refine ws_set (i := 0) (by assumption) rfl (loc2 rfl) (by decide) ?_
  | refine ws_set (i := 1) (by assumption) rfl (loc2 rfl) (by decide) ?_
  | refine ws_set (i := 2) (by assumption) rfl (loc2 rfl) (by decide) ?_
  | refine ws_set (i := 3) (by assumption) rfl (loc2 rfl) (by decide) ?_
  | refine ws_set (i := 4) (by assumption) rfl (loc2 rfl) (by decide) ?_
  | refine ws_set (i := 5) (by assumption) rfl (loc2 rfl) (by decide) ?_
  | refine ws_set (i := 6) (by assumption) rfl (loc2 rfl) (by decide) ?_
  | refine ws_set (i := 7) (by assumption) rfl (loc2 rfl) (by decide) ?_
  | refine ws_set (i := 8) (by assumption) rfl (loc2 rfl) (by decide) ?_
  | refine ws_set (i := 9) (by assumption) rfl (loc2 rfl) (by decide) ?_
  | refine ws_set (i := 10) (by assumption) rfl (loc2 rfl) (by decide) ?_
  | refine ws_set (i := 11) (by assumption) rfl (loc2 rfl) (by decide) ?_
  | refine ws_set (i := 12) (by assumption) rfl (loc2 rfl) (by decide) ?_
  | refine ws_set (i := 13) (by assumption) rfl (loc2 rfl) (by decide) ?_)
local macro_rules | `(tactic| walk_at "gi") => `(tactic| first
  | refine wg_name (i := 0) (by assumption) rfl (loc2 rfl) (by decide) ?_
  | refine wg_name (i := 1) (by assumption) rfl (loc2 rfl) (by decide) ?_
  | refine wg_name (i := 2) (by assumption) rfl (loc2 rfl) (by decide) ?_
  | refine wg_name (i := 3) (by assumption) rfl (loc2 rfl) (by decide) ?_
  | refine wg_name (i := 4) (by assumption) rfl (loc2 rfl) (by decide) ?_
  | refine wg_name (i := 5) (by assumption) rfl (loc2 rfl) (by decide) ?_
  | refine wg_name (i := 6) (by assumption) rfl (loc2 rfl) (by decide) ?_
  | refine wg_name (i := 7) (by assumption) rfl (loc2 rfl) (by decide) ?_
  | refine wg_name (i := 8) (by assumption) rfl (loc2 rfl) (by decide) ?_
  | refine wg_name (i := 9) (by assumption) rfl (loc2 rfl) (by decide) ?_
  | refine wg_name (i := 10) (by assumption) rfl (loc2 rfl) (by decide) ?_
  | refine wg_name (i := 11) (by assumption) rfl (loc2 rfl) (by decide) ?_
  | refine wg_name (i := 12) (by assumption) rfl (loc2 rfl) (by decide) ?_
  | refine wg_name (i := 13) (by assumption) rfl (loc2 rfl) (by decide) ?_)
local macro_rules | `(tactic| walk_at "side") => `(tactic| first | exact rfl | exact Nat.le_trans (m := 1000) (Nat.le_of_ble_eq_true rfl) sz1000 | omega | decide | assumption)
local macro_rules | `(tactic| walk_at "we") => `(tactic| first
  | (refine isName ?_; walk_at "v")
  | refine we_int ?_ | refine we_bl ?_ | refine we_non ?_ | refine we_str ?_
  | refine we_ix ?_
  | refine we_addG ?_ | refine we_sub ?_ | refine we_mulG ?_ | refine we_div ?_ | refine we_mod ?_ | refine we_pow ?_ | refine we_neg ?_
  | refine we_gt ?_ | refine we_lt ?_ | refine we_ge ?_ | refine we_le ?_
  | refine we_tup ?_ | refine we_lst ?_ | refine we_dict0 ?_
  | refine we_len (by assumption) rfl ?_ | refine we_slG ?_ | refine we_eqG (by assumption) ?_ | refine we_neG (by assumption) ?_ | refine we_not ?_ | refine we_one ?_ | refine we_and ?_ | refine we_or ?_
  | refine we_call2 (by assumption) (by assumption) (by assumption) (by decide) rfl ?_)
local macro_rules | `(tactic| walk_at "wt") => `(tactic| first
  | refine wt_gt ?_ | refine wt_lt ?_ | refine wt_ge ?_ | refine wt_le ?_ | refine wt_not ?_
  | refine wt_eqG (by assumption) ?_ | refine wt_neG (by assumption) ?_ | refine wt_bool ?_ | refine wt_val ?_)
local macro_rules | `(tactic| walk_at "ws") => `(tactic| first
  | refine ws_ret ?_ | (refine isSet ?_; walk_at "si") | refine ws_if ?_
  | refine ws_append (pe_bm PySem.F.plainAttrs_list PySem.F.slot_list_append PySem.F.type_list_append mt_append pe_m (pa_cons pe_m pa_nil)) ?_
  | refine ws_continue ?_ | refine ws_break ?_ | refine ws_pass ?_)
local macro_rules | `(tactic| walk_at "l") => `(tactic| first
  | refine And.intro (Exists.intro _ rfl) ?_
  | refine And.intro trivial ?_
  | refine Exists.intro _ (And.intro rfl ?_)
  | refine Exists.intro _ (Exists.intro _ (And.intro rfl (And.intro rfl ?_)))
  | refine And.intro (And.intro (by walk_at "side") (by walk_at "side") : CDiv _ _) ?_
  | refine And.intro (.inl (And.intro (by walk_at "side") (by walk_at "side")) : CMul _ _) ?_
  | refine And.intro (.inr (And.intro (by walk_at "side") (by walk_at "side")) : CMul _ _) ?_
  | refine And.intro (And.intro (List.cons_ne_nil _ _) (And.intro (by walk_at "side") (And.intro (by walk_at "side") (by walk_at "side")))) ?_
  | refine And.intro (by walk_at "side") ?_)
local macro_rules | `(tactic| walk_at "step") => `(tactic| first
  | (refine isWE ?_; walk_at "we")
  | (refine isWT ?_; walk_at "wt")
  | (refine isWSs ?_; first | refine wss_nil ?_ | refine wss_one ?_ | refine wss_cons ?_)
  | (refine isWS ?_; walk_at "ws")
  | (refine isWDs ?_; first | refine wds_nil ?_ | refine wds_cons ?_)
  | (refine isWW ?_; first | refine ww_and1 ?_ | refine ww_or1 ?_ | refine ww_and ?_ | refine ww_or ?_)
  | refine allB_i fun _ _ _ _ _ => ?_
  | refine asI_i (allB_i fun _ _ _ _ _ => ?_)
  | (refine isWG ?_; first | walk_at "gi" | refine wg_tup rfl ?_ rfl)
  | (refine isWGs ?_; first | refine wgs_nil ?_ | refine wgs_consN ?_)
  | (refine isWO ?_; first | refine wo_none ?_ | refine wo_some ?_)
  | (refine isWA ?_; first | refine wa_nil ?_ | refine wa_cons ?_)
  | walk_at "l")
local macro_rules | `(tactic| walk_at "go") => `(tactic| repeat (walk_at "step"))
abbrev NSlO : List Str := ["image", "page", "taken", "nodes", "data"]
theorem scSlO : FnScope NSlO ["image", "page"] (defScope (topS 7)) := ⟨rfl, rfl, rfl, by decide +kernel, rfl, by decide +kernel, by decide +kernel⟩
abbrev NWith : List Str := ["image", "page", "slots", "taken", "nodes", "data", "at"]
theorem scWith : FnScope NWith ["image", "page", "slots"] (defScope (topS 8)) := ⟨rfl, rfl, rfl, by decide +kernel, rfl, by decide +kernel, by decide +kernel⟩
local macro_rules | `(tactic| walk_at "ws") => `(tactic| first
  | refine ws_expr ?_)
def withF (tk ns dt : List D) (p : Int) (ss : List D) : D :=
  if p = 0 then imgD ss ns dt else if p ≤ nodP ns then imgD tk (cutD ns none (some ((p - 1) * 4)) ++ ss ++ cutD ns (some (p * 4)) none) dt
  else imgD tk ns (cutD dt none (some (p - 1 - nodP ns)) ++ [.tuple ss] ++ cutD dt (some (p - nodP ns)) none)
section
variable {Pg : Program} {w : World} {K : PySem.W.Frag} {mg : Str → Option Value} {base : Heap} {u4 : Value}
def sSlO : SpD := fun R Q => ∃ tk ns dt p, R = [.d (imgD tk ns dt), .d (.int p)] ∧ (0 ≤ p ∧ p < manyF ns dt) ∧ Q (.d (slotsF tk ns dt p)) R
theorem ok_slo {f : Addr} {fd : FuncData} (F : Fun K "slots_of" "slots_of" (topS 7) f fd) (hm : mg "slots_of" = some (.ref f)) (hb : Binds K fd ["image", "page"] []) (cCheck : Can Pg w K mg base 3 "_check_page" sCheck) (cFirst : Can Pg w K mg base 1 "_first_data_page" sFirst) (cNode : Can Pg w K mg base 1 "_first_node" sNode) : Can Pg w K mg base 4 "slots_of" sSlO := by
  refine can_def F scSlO hm hb (fun A Z Z' k ⟨a, b, c, d, h1, h2, h3⟩ => ⟨a, b, c, d, h1, h2, k _ _ h3⟩) (by decide) (fun R Q h => ?_) (fun cdv A outer s H E hgd hr R Q h => ?_)
  · obtain ⟨a, b, c, d, rfl, _⟩ := h
    rfl
  · obtain ⟨tk, ns, dt, at_, rfl, ⟨h0, h1⟩, q⟩ := h
    show WSs _ [] _ [.d (imgD tk ns dt), .d (.int at_), .no, .no, .no] _
    have nd : NSlO.Nodup := scSlO.nd
    walk_at "go"
    refine ⟨tk, ns, dt, at_, rfl, ⟨h0, h1⟩, ⟨rfl, ?_⟩⟩
    walk_at "go"
    refine ws_unp (js := [2, 3, 4]) ?_
    walk_at "go"
    refine ⟨fun h => ?_, fun h => ?_⟩
    · have e : at_ = 0 := of_decide_eq_true h
      have e2 : slotsF tk ns dt at_ = .tuple tk := if_pos e
      rw [e2] at q
      walk_at "go"
      exact q
    · have e : ¬ at_ = 0 := of_decide_eq_false h
      walk_at "go"
      refine ⟨tk, ns, dt, rfl, ⟨rfl, ?_⟩⟩
      walk_at "go"
      refine ⟨fun h2 => ?_, fun h2 => ?_⟩
      · have e1 : at_ ≤ nodP ns := by have := of_decide_eq_true h2; omega
        have e2 : slotsF tk ns dt at_ = .tuple (cutD ns (some ((at_ - 1) * 4)) (some ((at_ + 1 - 1) * 4))) := by
          rw [show (at_ - 1) * 4 = 4 * at_ - 4 by omega, show (at_ + 1 - 1) * 4 = 4 * at_ by omega]
          exact (if_neg e).trans (if_pos e1)
        rw [e2] at q
        walk_at "go"
        exact q
      · have e1 : ¬ at_ ≤ nodP ns := by have := of_decide_eq_false h2; omega
        have e2 : slotsF tk ns dt at_ = dt.getD (at_ - 1 - nodP ns).toNat .none := (if_neg e).trans (if_neg e1)
        have hlt : (at_ - 1 - nodP ns).toNat < dt.length := by unfold manyF at h1; omega
        walk_at "go"
        refine ⟨tk, ns, dt, rfl, ⟨rfl, ?_⟩⟩
        walk_at "go"
        refine ⟨dt, dt[(at_ - 1 - nodP ns).toNat], rfl, ?_, ?_⟩
        · rw [show at_ - (1 + nodP ns) = at_ - 1 - nodP ns by omega]
          exact atI_of (by omega) (List.getElem?_eq_getElem hlt)
        · rw [e2, List.getD_eq_getElem?_getD, List.getElem?_eq_getElem hlt] at q
          exact q
end
end K07
namespace K07
open PySem PySem.Spec PyProof.Rows L2 Dl
local macro_rules | `(tactic| walk_at "v") => `(tactic| first
  | refine we_d (i := 0) rfl (vis3 rfl) rfl ?_ | refine we_o (i := 0) rfl (vis3 rfl) rfl ?_
  | refine we_d (i := 1) rfl (vis3 rfl) rfl ?_ | refine we_o (i := 1) rfl (vis3 rfl) rfl ?_
  | refine we_d (i := 2) rfl (vis3 rfl) rfl ?_ | refine we_o (i := 2) rfl (vis3 rfl) rfl ?_
  | refine we_d (i := 3) rfl (vis3 rfl) rfl ?_ | refine we_o (i := 3) rfl (vis3 rfl) rfl ?_
  | refine we_d (i := 4) rfl (vis3 rfl) rfl ?_ | refine we_o (i := 4) rfl (vis3 rfl) rfl ?_
  | refine we_d (i := 5) rfl (vis3 rfl) rfl ?_ | refine we_o (i := 5) rfl (vis3 rfl) rfl ?_
  | refine we_d (i := 6) rfl (vis3 rfl) rfl ?_ | refine we_o (i := 6) rfl (vis3 rfl) rfl ?_
  | refine we_d (i := 7) rfl (vis3 rfl) rfl ?_ | refine we_o (i := 7) rfl (vis3 rfl) rfl ?_
  | refine we_d (i := 8) rfl (vis3 rfl) rfl ?_ | refine we_o (i := 8) rfl (vis3 rfl) rfl ?_
  | refine we_d (i := 9) rfl (vis3 rfl) rfl ?_ | refine we_o (i := 9) rfl (vis3 rfl) rfl ?_
  | refine we_d (i := 10) rfl (vis3 rfl) rfl ?_ | refine we_o (i := 10) rfl (vis3 rfl) rfl ?_
  | refine we_d (i := 11) rfl (vis3 rfl) rfl ?_ | refine we_o (i := 11) rfl (vis3 rfl) rfl ?_
  | refine we_d (i := 12) rfl (vis3 rfl) rfl ?_ | refine we_o (i := 12) rfl (vis3 rfl) rfl ?_
  | refine we_d (i := 13) rfl (vis3 rfl) rfl ?_ | refine we_o (i := 13) rfl (vis3 rfl) rfl ?_)
local macro_rules | `(tactic| walk_at "si") => `(tactic| first
  | refine ws_set (i := 0) (by assumption) rfl (loc2 rfl) (by decide) ?_
  | refine ws_set (i := 1) (by assumption) rfl (loc2 rfl) (by decide) ?_
  | refine ws_set (i := 2) (by assumption) rfl (loc2 rfl) (by decide) ?_
  | refine ws_set (i := 3) (by assumption) rfl (loc2 rfl) (by decide) ?_
  | refine ws_set (i := 4) (by assumption) rfl (loc2 rfl) (by decide) ?_
  | refine ws_set (i := 5) (by assumption) rfl (loc2 rfl) (by decide) ?_
  | refine ws_set (i := 6) (by assumption) rfl (loc2 rfl) (by decide) ?_
  | refine ws_set (i := 7) (by assumption) rfl (loc2 rfl) (by decide) ?_
  | refine ws_set (i := 8) (by assumption) rfl (loc2 rfl) (by decide) ?_
  | refine ws_set (i := 9) (by assumption) rfl (loc2 rfl) (by decide) ?_
  | refine ws_set (i := 10) (by assumption) rfl (loc2 rfl) (by decide) ?_
  | refine ws_set (i := 11) (by assumption) rfl (loc2 rfl) (by decide) ?_
  | refine ws_set (i := 12) (by assumption) rfl (loc2 rfl) (by decide) ?_
  | refine ws_set (i := 13) (by assumption) rfl (loc2 rfl) (by decide) ?_)
local macro_rules | `(tactic| walk_at "gi") => `(tactic| first
  | refine wg_name (i := 0) (by assumption) rfl (loc2 rfl) (by decide) ?_
  | refine wg_name (i := 1) (by assumption) rfl (loc2 rfl) (by decide) ?_
  | refine wg_name (i := 2) (by assumption) rfl (loc2 rfl) (by decide) ?_
  | refine wg_name (i := 3) (by assumption) rfl (loc2 rfl) (by decide) ?_
  | refine wg_name (i := 4) (by assumption) rfl (loc2 rfl) (by decide) ?_
  | refine wg_name (i := 5) (by assumption) rfl (loc2 rfl) (by decide) ?_
  | refine wg_name (i := 6) (by assumption) rfl (loc2 rfl) (by decide) ?_
  | refine wg_name (i := 7) (by assumption) rfl (loc2 rfl) (by decide) ?_
  | refine wg_name (i := 8) (by assumption) rfl (loc2 rfl) (by decide) ?_
  | refine wg_name (i := 9) (by assumption) rfl (loc2 rfl) (by decide) ?_
  | refine wg_name (i := 10) (by assumption) rfl (loc2 rfl) (by decide) ?_
  | refine wg_name (i := 11) (by assumption) rfl (loc2 rfl) (by decide) ?_
  | refine wg_name (i := 12) (by assumption) rfl (loc2 rfl) (by decide) ?_
  | refine wg_name (i := 13) (by assumption) rfl (loc2 rfl) (by decide) ?_)
local macro_rules | `(tactic| walk_at "side") => `(tactic| first | exact rfl | exact Nat.le_trans (m := 1000) (Nat.le_of_ble_eq_true rfl) sz1000 | omega | decide | assumption)
local macro_rules | `(tactic| walk_at "we") => `(tactic| first
  | (refine isName ?_; walk_at "v")
  | refine we_int ?_ | refine we_bl ?_ | refine we_non ?_ | refine we_str ?_
  | refine we_ix ?_
  | refine we_addG ?_ | refine we_sub ?_ | refine we_mulG ?_ | refine we_div ?_ | refine we_mod ?_ | refine we_pow ?_ | refine we_neg ?_
  | refine we_gt ?_ | refine we_lt ?_ | refine we_ge ?_ | refine we_le ?_
  | refine we_tup ?_ | refine we_lst ?_ | refine we_dict0 ?_
  | refine we_len (by assumption) rfl ?_ | refine we_slG ?_ | refine we_eqG (by assumption) ?_ | refine we_neG (by assumption) ?_ | refine we_not ?_ | refine we_one ?_ | refine we_and ?_ | refine we_or ?_
  | refine we_call2 (by assumption) (by assumption) (by assumption) (by decide) rfl ?_)
local macro_rules | `(tactic| walk_at "wt") => `(tactic| first
  | refine wt_gt ?_ | refine wt_lt ?_ | refine wt_ge ?_ | refine wt_le ?_ | refine wt_not ?_
  | refine wt_eqG (by assumption) ?_ | refine wt_neG (by assumption) ?_ | refine wt_bool ?_ | refine wt_val ?_)
local macro_rules | `(tactic| walk_at "ws") => `(tactic| first
  | refine ws_ret ?_ | (refine isSet ?_; walk_at "si") | refine ws_if ?_
  | refine ws_append (pe_bm PySem.F.plainAttrs_list PySem.F.slot_list_append PySem.F.type_list_append mt_append pe_m (pa_cons pe_m pa_nil)) ?_
  | refine ws_continue ?_ | refine ws_break ?_ | refine ws_pass ?_)
local macro_rules | `(tactic| walk_at "l") => `(tactic| first
  | refine And.intro (Exists.intro _ rfl) ?_
  | refine And.intro trivial ?_
  | refine Exists.intro _ (And.intro rfl ?_)
  | refine Exists.intro _ (Exists.intro _ (And.intro rfl (And.intro rfl ?_)))
  | refine And.intro (And.intro (by walk_at "side") (by walk_at "side") : CDiv _ _) ?_
  | refine And.intro (.inl (And.intro (by walk_at "side") (by walk_at "side")) : CMul _ _) ?_
  | refine And.intro (.inr (And.intro (by walk_at "side") (by walk_at "side")) : CMul _ _) ?_
  | refine And.intro (And.intro (List.cons_ne_nil _ _) (And.intro (by walk_at "side") (And.intro (by walk_at "side") (by walk_at "side")))) ?_
  | refine And.intro (by walk_at "side") ?_)
local macro_rules | `(tactic| walk_at "step") => `(tactic| first
  | (refine isWE ?_; walk_at "we")
  | (refine isWT ?_; walk_at "wt")
  | (refine isWSs ?_; first | refine wss_nil ?_ | refine wss_one ?_ | refine wss_cons ?_)
  | (refine isWS ?_; walk_at "ws")
  | (refine isWDs ?_; first | refine wds_nil ?_ | refine wds_cons ?_)
  | (refine isWW ?_; first | refine ww_and1 ?_ | refine ww_or1 ?_ | refine ww_and ?_ | refine ww_or ?_)
  | refine allB_i fun _ _ _ _ _ => ?_
  | refine asI_i (allB_i fun _ _ _ _ _ => ?_)
  | (refine isWG ?_; first | walk_at "gi" | refine wg_tup rfl ?_ rfl)
  | (refine isWGs ?_; first | refine wgs_nil ?_ | refine wgs_consN ?_)
  | (refine isWO ?_; first | refine wo_none ?_ | refine wo_some ?_)
  | (refine isWA ?_; first | refine wa_nil ?_ | refine wa_cons ?_)
  | walk_at "l")
local macro_rules | `(tactic| walk_at "go") => `(tactic| repeat (walk_at "step"))
theorem cutD_len (xs : List D) (lo hi : Option Int) : (Dl.cutD xs lo hi).length ≤ xs.length := by
  unfold Dl.cutD
  rw [List.length_take, List.length_drop]
  omega
local macro_rules | `(tactic| walk_at "ws") => `(tactic| first
  | refine ws_expr ?_)
section
variable {Pg : Program} {w : World} {K : PySem.W.Frag} {mg : Str → Option Value} {base : Heap} {u4 : Value}
def sWith : SpD := fun R Q => ∃ tk ns dt p ss, R = [.d (imgD tk ns dt), .d (.int p), .d (.tuple ss)] ∧ ((0 ≤ p ∧ p < manyF ns dt) ∧ ns.length ≤ 100 ∧ dt.length ≤ 100 ∧ ss.length ≤ 100) ∧ Q (.d (withF tk ns dt p ss)) R
theorem ok_with {f : Addr} {fd : FuncData} (F : Fun K "with_slots" "with_slots" (topS 8) f fd) (hm : mg "with_slots" = some (.ref f)) (hb : Binds K fd ["image", "page", "slots"] []) (cCheck : Can Pg w K mg base 3 "_check_page" sCheck) (cFirst : Can Pg w K mg base 1 "_first_data_page" sFirst) (cNode : Can Pg w K mg base 1 "_first_node" sNode) : Can Pg w K mg base 4 "with_slots" sWith := by
  refine can_def F scWith hm hb (fun A Z Z' k ⟨a, b, c, d, e, h1, h2, h3⟩ => ⟨a, b, c, d, e, h1, h2, k _ _ h3⟩) (by decide) (fun R Q h => ?_) (fun cdv A outer s H E hgd hr R Q h => ?_)
  · obtain ⟨a, b, c, d, e, rfl, _⟩ := h
    rfl
  · obtain ⟨tk, ns, dt, at_, ss, rfl, ⟨⟨h0, h1⟩, l1, l2, l3⟩, q⟩ := h
    show WSs _ [] _ [.d (imgD tk ns dt), .d (.int at_), .d (.tuple ss), .no, .no, .no, .no] _
    have nd : NWith.Nodup := scWith.nd
    walk_at "go"
    refine ⟨tk, ns, dt, at_, rfl, ⟨h0, h1⟩, ⟨rfl, ?_⟩⟩
    walk_at "go"
    refine ws_unp (js := [3, 4, 5]) ?_
    walk_at "go"
    refine ⟨fun h => ?_, fun h => ?_⟩
    · have e : at_ = 0 := of_decide_eq_true h
      have e2 : withF tk ns dt at_ ss = imgD ss ns dt := if_pos e
      rw [e2] at q
      walk_at "go"
      exact q
    · have e : ¬ at_ = 0 := of_decide_eq_false h
      walk_at "go"
      refine ⟨tk, ns, dt, rfl, ⟨rfl, ?_⟩⟩
      walk_at "go"
      refine ⟨fun h2 => ?_, fun h2 => ?_⟩
      · have e1 : at_ ≤ nodP ns := by have := of_decide_eq_true h2; omega
        have e2 : withF tk ns dt at_ ss = imgD tk (cutD ns none (some ((at_ - 1) * 4)) ++ ss ++ cutD ns (some ((at_ + 1 - 1) * 4)) none) dt := by
          rw [show at_ + 1 - 1 = at_ by omega]
          exact (if_neg e).trans (if_pos e1)
        rw [e2] at q
        walk_at "go"
        have c1 := cutD_len ns none (some ((at_ - 1) * 4))
        have c2 := cutD_len ns (some ((at_ + 1 - 1) * 4)) none
        refine ⟨szle (by omega), ?_⟩
        walk_at "go"
        refine ⟨szle (by rw [List.length_append]; omega), ?_⟩
        walk_at "go"
        exact q
      · have e1 : ¬ at_ ≤ nodP ns := by have := of_decide_eq_false h2; omega
        have e2 : withF tk ns dt at_ ss = imgD tk ns (cutD dt none (some (at_ - (1 + nodP ns))) ++ [.tuple ss] ++ cutD dt (some (at_ - (1 + nodP ns) + 1)) none) := by
          rw [show at_ - (1 + nodP ns) = at_ - 1 - nodP ns by omega, show at_ - 1 - nodP ns + 1 = at_ - nodP ns by omega]
          exact (if_neg e).trans (if_neg e1)
        rw [e2] at q
        walk_at "go"
        refine ⟨tk, ns, dt, rfl, ⟨rfl, ?_⟩⟩
        walk_at "go"
        have c1 := cutD_len dt none (some (at_ - (1 + nodP ns)))
        have c2 := cutD_len dt (some (at_ - (1 + nodP ns) + 1)) none
        refine ⟨szle (by rw [List.length_singleton]; omega), ?_⟩
        walk_at "go"
        refine ⟨szle (by rw [List.length_append, List.length_singleton]; omega), ?_⟩
        walk_at "go"
        exact q
end
end K07
namespace K07
open PySem PySem.Spec PyProof.Rows L2 Dl
local macro_rules | `(tactic| walk_at "v") => `(tactic| first
  | refine we_d (i := 0) rfl (vis3 rfl) rfl ?_ | refine we_o (i := 0) rfl (vis3 rfl) rfl ?_
  | refine we_d (i := 1) rfl (vis3 rfl) rfl ?_ | refine we_o (i := 1) rfl (vis3 rfl) rfl ?_
  | refine we_d (i := 2) rfl (vis3 rfl) rfl ?_ | refine we_o (i := 2) rfl (vis3 rfl) rfl ?_
  | refine we_d (i := 3) rfl (vis3 rfl) rfl ?_ | refine we_o (i := 3) rfl (vis3 rfl) rfl ?_
  | refine we_d (i := 4) rfl (vis3 rfl) rfl ?_ | refine we_o (i := 4) rfl (vis3 rfl) rfl ?_
  | refine we_d (i := 5) rfl (vis3 rfl) rfl ?_ | refine we_o (i := 5) rfl (vis3 rfl) rfl ?_
  | refine we_d (i := 6) rfl (vis3 rfl) rfl ?_ | refine we_o (i := 6) rfl (vis3 rfl) rfl ?_
  | refine we_d (i := 7) rfl (vis3 rfl) rfl ?_ | refine we_o (i := 7) rfl (vis3 rfl) rfl ?_
  | refine we_d (i := 8) rfl (vis3 rfl) rfl ?_ | refine we_o (i := 8) rfl (vis3 rfl) rfl ?_
  | refine we_d (i := 9) rfl (vis3 rfl) rfl ?_ | refine we_o (i := 9) rfl (vis3 rfl) rfl ?_
  | refine we_d (i := 10) rfl (vis3 rfl) rfl ?_ | refine we_o (i := 10) rfl (vis3 rfl) rfl ?_
  | refine we_d (i := 11) rfl (vis3 rfl) rfl ?_ | refine we_o (i := 11) rfl (vis3 rfl) rfl ?_
  | refine we_d (i := 12) rfl (vis3 rfl) rfl ?_ | refine we_o (i := 12) rfl (vis3 rfl) rfl ?_
  | refine we_d (i := 13) rfl (vis3 rfl) rfl ?_ | refine we_o (i := 13) rfl (vis3 rfl) rfl ?_)
local macro_rules | `(tactic| walk_at "si") => `(tactic| first
  | refine ws_set (i := 0) (by assumption) rfl (loc2 rfl) (by decide) ?_
  | refine ws_set (i := 1) (by assumption) rfl (loc2 rfl) (by decide) ?_
  | refine ws_set (i := 2) (by assumption) rfl (loc2 rfl) (by decide) ?_
  | refine ws_set (i := 3) (by assumption) rfl (loc2 rfl) (by decide) ?_
  | refine ws_set (i := 4) (by assumption) rfl (loc2 rfl) (by decide) ?_
  | refine ws_set (i := 5) (by assumption) rfl (loc2 rfl) (by decide) ?_
  | refine ws_set (i := 6) (by assumption) rfl (loc2 rfl) (by decide) ?_
  | refine ws_set (i := 7) (by assumption) rfl (loc2 rfl) (by decide) ?_
  | refine ws_set (i := 8) (by assumption) rfl (loc2 rfl) (by decide) ?_
  | refine ws_set (i := 9) (by assumption) rfl (loc2 rfl) (by decide) ?_
  | refine ws_set (i := 10) (by assumption) rfl (loc2 rfl) (by decide) ?_
  | refine ws_set (i := 11) (by assumption) rfl (loc2 rfl) (by decide) ?_
  | refine ws_set (i := 12) (by assumption) rfl (loc2 rfl) (by decide) ?_
  | refine ws_set (i := 13) (by assumption) rfl (loc2 rfl) (by decide) ?_)
local macro_rules | `(tactic| walk_at "gi") => `(tactic| first
  | refine wg_name (i := 0) (by assumption) rfl (loc2 rfl) (by decide) ?_
  | refine wg_name (i := 1) (by assumption) rfl (loc2 rfl) (by decide) ?_
  | refine wg_name (i := 2) (by assumption) rfl (loc2 rfl) (by decide) ?_
  | refine wg_name (i := 3) (by assumption) rfl (loc2 rfl) (by decide) ?_
  | refine wg_name (i := 4) (by assumption) rfl (loc2 rfl) (by decide) ?_
  | refine wg_name (i := 5) (by assumption) rfl (loc2 rfl) (by decide) ?_
  | refine wg_name (i := 6) (by assumption) rfl (loc2 rfl) (by decide) ?_
  | refine wg_name (i := 7) (by assumption) rfl (loc2 rfl) (by decide) ?_
  | refine wg_name (i := 8) (by assumption) rfl (loc2 rfl) (by decide) ?_
  | refine wg_name (i := 9) (by assumption) rfl (loc2 rfl) (by decide) ?_
  | refine wg_name (i := 10) (by assumption) rfl (loc2 rfl) (by decide) ?_
  | refine wg_name (i := 11) (by assumption) rfl (loc2 rfl) (by decide) ?_
  | refine wg_name (i := 12) (by assumption) rfl (loc2 rfl) (by decide) ?_
  | refine wg_name (i := 13) (by assumption) rfl (loc2 rfl) (by decide) ?_)
local macro_rules | `(tactic| walk_at "side") => `(tactic| first | exact rfl | exact Nat.le_trans (m := 1000) (Nat.le_of_ble_eq_true rfl) sz1000 | omega | decide | assumption)
local macro_rules | `(tactic| walk_at "we") => `(tactic| first
  | (refine isName ?_; walk_at "v")
  | refine we_int ?_ | refine we_bl ?_ | refine we_non ?_ | refine we_str ?_
  | refine we_ix ?_
  | refine we_addG ?_ | refine we_sub ?_ | refine we_mulG ?_ | refine we_div ?_ | refine we_mod ?_ | refine we_pow ?_ | refine we_neg ?_
  | refine we_gt ?_ | refine we_lt ?_ | refine we_ge ?_ | refine we_le ?_
  | refine we_tup ?_ | refine we_lst ?_ | refine we_dict0 ?_
  | refine we_len (by assumption) rfl ?_ | refine we_slG ?_ | refine we_eqG (by assumption) ?_ | refine we_neG (by assumption) ?_ | refine we_not ?_ | refine we_one ?_ | refine we_and ?_ | refine we_or ?_
  | refine we_call2 (by assumption) (by assumption) (by assumption) (by decide) rfl ?_)
local macro_rules | `(tactic| walk_at "wt") => `(tactic| first
  | refine wt_gt ?_ | refine wt_lt ?_ | refine wt_ge ?_ | refine wt_le ?_ | refine wt_not ?_
  | refine wt_eqG (by assumption) ?_ | refine wt_neG (by assumption) ?_ | refine wt_bool ?_ | refine wt_val ?_)
local macro_rules | `(tactic| walk_at "ws") => `(tactic| first
  | refine ws_ret ?_ | (refine isSet ?_; walk_at "si") | refine ws_if ?_
  | refine ws_append (pe_bm PySem.F.plainAttrs_list PySem.F.slot_list_append PySem.F.type_list_append mt_append pe_m (pa_cons pe_m pa_nil)) ?_
  | refine ws_continue ?_ | refine ws_break ?_ | refine ws_pass ?_)
local macro_rules | `(tactic| walk_at "l") => `(tactic| first
  | refine And.intro (Exists.intro _ rfl) ?_
  | refine And.intro trivial ?_
  | refine Exists.intro _ (And.intro rfl ?_)
  | refine Exists.intro _ (Exists.intro _ (And.intro rfl (And.intro rfl ?_)))
  | refine And.intro (And.intro (by walk_at "side") (by walk_at "side") : CDiv _ _) ?_
  | refine And.intro (.inl (And.intro (by walk_at "side") (by walk_at "side")) : CMul _ _) ?_
  | refine And.intro (.inr (And.intro (by walk_at "side") (by walk_at "side")) : CMul _ _) ?_
  | refine And.intro (And.intro (List.cons_ne_nil _ _) (And.intro (by walk_at "side") (And.intro (by walk_at "side") (by walk_at "side")))) ?_
  | refine And.intro (by walk_at "side") ?_)
local macro_rules | `(tactic| walk_at "step") => `(tactic| first
  | (refine isWE ?_; walk_at "we")
  | (refine isWT ?_; walk_at "wt")
  | (refine isWSs ?_; first | refine wss_nil ?_ | refine wss_one ?_ | refine wss_cons ?_)
  | (refine isWS ?_; walk_at "ws")
  | (refine isWDs ?_; first | refine wds_nil ?_ | refine wds_cons ?_)
  | (refine isWW ?_; first | refine ww_and1 ?_ | refine ww_or1 ?_ | refine ww_and ?_ | refine ww_or ?_)
  | refine allB_i fun _ _ _ _ _ => ?_
  | refine asI_i (allB_i fun _ _ _ _ _ => ?_)
  | (refine isWG ?_; first | walk_at "gi" | refine wg_tup rfl ?_ rfl)
  | (refine isWGs ?_; first | refine wgs_nil ?_ | refine wgs_consN ?_)
  | (refine isWO ?_; first | refine wo_none ?_ | refine wo_some ?_)
  | (refine isWA ?_; first | refine wa_nil ?_ | refine wa_cons ?_)
  | walk_at "l")
local macro_rules | `(tactic| walk_at "go") => `(tactic| repeat (walk_at "step"))
/-! images as three lists -/
structure Im where
  tk : List D
  ns : List D
  dt : List D
def Im.d (m : Im) : D := imgD m.tk m.ns m.dt
def Im.page (m : Im) (p : Int) : List D := match slotsF m.tk m.ns m.dt p with
  | .tuple ds => ds
  | _ => []
def Im.with (m : Im) (p : Int) (ss : List D) : Im :=
  if p = 0 then ⟨ss, m.ns, m.dt⟩ else if p ≤ nodP m.ns then ⟨m.tk, Dl.cutD m.ns none (some ((p - 1) * 4)) ++ ss ++ Dl.cutD m.ns (some (p * 4)) none, m.dt⟩
  else ⟨m.tk, m.ns, Dl.cutD m.dt none (some (p - 1 - nodP m.ns)) ++ [.tuple ss] ++ Dl.cutD m.dt (some (p - nodP m.ns)) none⟩
theorem with_d (m : Im) (p : Int) (ss : List D) : withF m.tk m.ns m.dt p ss = (m.with p ss).d := by
  unfold withF Im.with
  split
  · rfl
  · split <;> rfl
def putF (sl : List D) (ps : List (Int × Int)) : List D := ps.foldl (fun s p => s.set p.1.toNat (.int p.2)) sl
theorem putF_len : ∀ (ps : List (Int × Int)) (sl : List D), (putF sl ps).length = sl.length
  | [], _ => rfl
  | p :: r, sl => by
    show (putF (sl.set p.1.toNat (.int p.2)) r).length = _
    rw [putF_len r, List.length_set]
def Im.put (m : Im) (c : Chg) : Im := m.with c.at_ (putF (m.page c.at_) c.puts)
def onF (m : Im) (cs : List Chg) : Im := cs.foldl Im.put m
structure GI (np nn : Nat) (m : Im) : Prop where
  tl : m.tk.length = np
  nl : m.ns.length = nn + 1
  dl : m.dt.length = np
  dd : ∀ x ∈ m.dt, ∃ ds : List D, x = .tuple ds ∧ ds.length = 5
def imE (np nn : Nat) : Im := ⟨tkE np, nsE nn, dtE np⟩
theorem gi_E (np nn : Nat) : GI np nn (imE np nn) := ⟨List.length_replicate, by show (nsE nn).length = _; unfold nsE; rw [List.length_cons, List.length_replicate], List.length_replicate, fun x hx => ⟨_, List.eq_of_mem_replicate hx, List.length_replicate⟩⟩
theorem GI.many {np nn : Nat} {m : Im} (g : GI np nn m) : manyF m.ns m.dt = manyE np nn := by
  have h := gi_E np nn
  unfold manyE manyF nodP
  rw [g.nl, g.dl, show (nsE nn).length = nn + 1 from h.nl, show (dtE np).length = np from h.dl]
theorem cut_same {xs ys : List D} (lo hi : Option Int) (h : xs.length = ys.length) : (Dl.cutD xs lo hi).length = (Dl.cutD ys lo hi).length := by
  unfold Dl.cutD
  rw [List.length_take, List.length_drop, List.length_take, List.length_drop, h]
theorem GI.pages {np nn : Nat} {m : Im} (g : GI np nn m) {p : Int} (h0 : 0 ≤ p) (h1 : p < manyE np nn) : slotsF m.tk m.ns m.dt p = .tuple (m.page p) ∧ (m.page p).length = if p = 0 then np else if p ≤ ((nn : Int) + 4) / 4 then (Dl.cutD m.ns (some (4 * p - 4)) (some (4 * p))).length else 5 := by
  have hn : nodP m.ns = ((nn : Int) + 4) / 4 := by
    unfold nodP
    rw [g.nl]
    omega
  rw [manyE_eq] at h1
  unfold Im.page slotsF
  rw [hn]
  split
  · exact ⟨rfl, g.tl⟩
  · rename_i z
    split
    · exact ⟨rfl, rfl⟩
    · rename_i z2
      have hlt : (p - 1 - ((nn : Int) + 4) / 4).toNat < m.dt.length := by
        rw [g.dl]
        omega
      rw [List.getD_eq_getElem?_getD, List.getElem?_eq_getElem hlt]
      obtain ⟨ds, e, l⟩ := g.dd _ (List.getElem_mem hlt)
      show m.dt[(p - 1 - ((nn : Int) + 4) / 4).toNat] = _ ∧ _
      rw [show (some m.dt[(p - 1 - ((nn : Int) + 4) / 4).toNat]).getD PyData.none = m.dt[(p - 1 - ((nn : Int) + 4) / 4).toNat] from rfl, e]
      exact ⟨rfl, l⟩
theorem GI.plen {np nn : Nat} {m : Im} (g : GI np nn m) {p : Int} (h0 : 0 ≤ p) (h1 : p < manyE np nn) : (m.page p).length = (pageL np nn p).length := by
  have h2 := (g.pages h0 h1).2
  have h3 := ((gi_E np nn).pages h0 h1).2
  rw [show pageL np nn p = (imE np nn).page p from rfl, h2, h3, cut_same _ _ (g.nl.trans (gi_E np nn).nl.symm)]
end K07
namespace K07
open PySem PySem.Spec PyProof.Rows L2 Dl
local macro_rules | `(tactic| walk_at "v") => `(tactic| first
  | refine we_d (i := 0) rfl (vis3 rfl) rfl ?_ | refine we_o (i := 0) rfl (vis3 rfl) rfl ?_
  | refine we_d (i := 1) rfl (vis3 rfl) rfl ?_ | refine we_o (i := 1) rfl (vis3 rfl) rfl ?_
  | refine we_d (i := 2) rfl (vis3 rfl) rfl ?_ | refine we_o (i := 2) rfl (vis3 rfl) rfl ?_
  | refine we_d (i := 3) rfl (vis3 rfl) rfl ?_ | refine we_o (i := 3) rfl (vis3 rfl) rfl ?_
  | refine we_d (i := 4) rfl (vis3 rfl) rfl ?_ | refine we_o (i := 4) rfl (vis3 rfl) rfl ?_
  | refine we_d (i := 5) rfl (vis3 rfl) rfl ?_ | refine we_o (i := 5) rfl (vis3 rfl) rfl ?_
  | refine we_d (i := 6) rfl (vis3 rfl) rfl ?_ | refine we_o (i := 6) rfl (vis3 rfl) rfl ?_
  | refine we_d (i := 7) rfl (vis3 rfl) rfl ?_ | refine we_o (i := 7) rfl (vis3 rfl) rfl ?_
  | refine we_d (i := 8) rfl (vis3 rfl) rfl ?_ | refine we_o (i := 8) rfl (vis3 rfl) rfl ?_
  | refine we_d (i := 9) rfl (vis3 rfl) rfl ?_ | refine we_o (i := 9) rfl (vis3 rfl) rfl ?_
  | refine we_d (i := 10) rfl (vis3 rfl) rfl ?_ | refine we_o (i := 10) rfl (vis3 rfl) rfl ?_
  | refine we_d (i := 11) rfl (vis3 rfl) rfl ?_ | refine we_o (i := 11) rfl (vis3 rfl) rfl ?_
  | refine we_d (i := 12) rfl (vis3 rfl) rfl ?_ | refine we_o (i := 12) rfl (vis3 rfl) rfl ?_
  | refine we_d (i := 13) rfl (vis3 rfl) rfl ?_ | refine we_o (i := 13) rfl (vis3 rfl) rfl ?_)
local macro_rules | `(tactic| walk_at "si") => `(tactic| first
  | refine ws_set (i := 0) (by assumption) rfl (loc2 rfl) (by decide) ?_
  | refine ws_set (i := 1) (by assumption) rfl (loc2 rfl) (by decide) ?_
  | refine ws_set (i := 2) (by assumption) rfl (loc2 rfl) (by decide) ?_
  | refine ws_set (i := 3) (by assumption) rfl (loc2 rfl) (by decide) ?_
  | refine ws_set (i := 4) (by assumption) rfl (loc2 rfl) (by decide) ?_
  | refine ws_set (i := 5) (by assumption) rfl (loc2 rfl) (by decide) ?_
  | refine ws_set (i := 6) (by assumption) rfl (loc2 rfl) (by decide) ?_
  | refine ws_set (i := 7) (by assumption) rfl (loc2 rfl) (by decide) ?_
  | refine ws_set (i := 8) (by assumption) rfl (loc2 rfl) (by decide) ?_
  | refine ws_set (i := 9) (by assumption) rfl (loc2 rfl) (by decide) ?_
  | refine ws_set (i := 10) (by assumption) rfl (loc2 rfl) (by decide) ?_
  | refine ws_set (i := 11) (by assumption) rfl (loc2 rfl) (by decide) ?_
  | refine ws_set (i := 12) (by assumption) rfl (loc2 rfl) (by decide) ?_
  | refine ws_set (i := 13) (by assumption) rfl (loc2 rfl) (by decide) ?_)
local macro_rules | `(tactic| walk_at "gi") => `(tactic| first
  | refine wg_name (i := 0) (by assumption) rfl (loc2 rfl) (by decide) ?_
  | refine wg_name (i := 1) (by assumption) rfl (loc2 rfl) (by decide) ?_
  | refine wg_name (i := 2) (by assumption) rfl (loc2 rfl) (by decide) ?_
  | refine wg_name (i := 3) (by assumption) rfl (loc2 rfl) (by decide) ?_
  | refine wg_name (i := 4) (by assumption) rfl (loc2 rfl) (by decide) ?_
  | refine wg_name (i := 5) (by assumption) rfl (loc2 rfl) (by decide) ?_
  | refine wg_name (i := 6) (by assumption) rfl (loc2 rfl) (by decide) ?_
  | refine wg_name (i := 7) (by assumption) rfl (loc2 rfl) (by decide) ?_
  | refine wg_name (i := 8) (by assumption) rfl (loc2 rfl) (by decide) ?_
  | refine wg_name (i := 9) (by assumption) rfl (loc2 rfl) (by decide) ?_
  | refine wg_name (i := 10) (by assumption) rfl (loc2 rfl) (by decide) ?_
  | refine wg_name (i := 11) (by assumption) rfl (loc2 rfl) (by decide) ?_
  | refine wg_name (i := 12) (by assumption) rfl (loc2 rfl) (by decide) ?_
  | refine wg_name (i := 13) (by assumption) rfl (loc2 rfl) (by decide) ?_)
local macro_rules | `(tactic| walk_at "side") => `(tactic| first | exact rfl | exact Nat.le_trans (m := 1000) (Nat.le_of_ble_eq_true rfl) sz1000 | omega | decide | assumption)
local macro_rules | `(tactic| walk_at "we") => `(tactic| first
  | (refine isName ?_; walk_at "v")
  | refine we_int ?_ | refine we_bl ?_ | refine we_non ?_ | refine we_str ?_
  | refine we_ix ?_
  | refine we_addG ?_ | refine we_sub ?_ | refine we_mulG ?_ | refine we_div ?_ | refine we_mod ?_ | refine we_pow ?_ | refine we_neg ?_
  | refine we_gt ?_ | refine we_lt ?_ | refine we_ge ?_ | refine we_le ?_
  | refine we_tup ?_ | refine we_lst ?_ | refine we_dict0 ?_
  | refine we_len (by assumption) rfl ?_ | refine we_slG ?_ | refine we_eqG (by assumption) ?_ | refine we_neG (by assumption) ?_ | refine we_not ?_ | refine we_one ?_ | refine we_and ?_ | refine we_or ?_
  | refine we_call2 (by assumption) (by assumption) (by assumption) (by decide) rfl ?_)
local macro_rules | `(tactic| walk_at "wt") => `(tactic| first
  | refine wt_gt ?_ | refine wt_lt ?_ | refine wt_ge ?_ | refine wt_le ?_ | refine wt_not ?_
  | refine wt_eqG (by assumption) ?_ | refine wt_neG (by assumption) ?_ | refine wt_bool ?_ | refine wt_val ?_)
local macro_rules | `(tactic| walk_at "ws") => `(tactic| first
  | refine ws_ret ?_ | (refine isSet ?_; walk_at "si") | refine ws_if ?_
  | refine ws_append (pe_bm PySem.F.plainAttrs_list PySem.F.slot_list_append PySem.F.type_list_append mt_append pe_m (pa_cons pe_m pa_nil)) ?_
  | refine ws_continue ?_ | refine ws_break ?_ | refine ws_pass ?_)
local macro_rules | `(tactic| walk_at "l") => `(tactic| first
  | refine And.intro (Exists.intro _ rfl) ?_
  | refine And.intro trivial ?_
  | refine Exists.intro _ (And.intro rfl ?_)
  | refine Exists.intro _ (Exists.intro _ (And.intro rfl (And.intro rfl ?_)))
  | refine And.intro (And.intro (by walk_at "side") (by walk_at "side") : CDiv _ _) ?_
  | refine And.intro (.inl (And.intro (by walk_at "side") (by walk_at "side")) : CMul _ _) ?_
  | refine And.intro (.inr (And.intro (by walk_at "side") (by walk_at "side")) : CMul _ _) ?_
  | refine And.intro (And.intro (List.cons_ne_nil _ _) (And.intro (by walk_at "side") (And.intro (by walk_at "side") (by walk_at "side")))) ?_
  | refine And.intro (by walk_at "side") ?_)
local macro_rules | `(tactic| walk_at "step") => `(tactic| first
  | (refine isWE ?_; walk_at "we")
  | (refine isWT ?_; walk_at "wt")
  | (refine isWSs ?_; first | refine wss_nil ?_ | refine wss_one ?_ | refine wss_cons ?_)
  | (refine isWS ?_; walk_at "ws")
  | (refine isWDs ?_; first | refine wds_nil ?_ | refine wds_cons ?_)
  | (refine isWW ?_; first | refine ww_and1 ?_ | refine ww_or1 ?_ | refine ww_and ?_ | refine ww_or ?_)
  | refine allB_i fun _ _ _ _ _ => ?_
  | refine asI_i (allB_i fun _ _ _ _ _ => ?_)
  | (refine isWG ?_; first | walk_at "gi" | refine wg_tup rfl ?_ rfl)
  | (refine isWGs ?_; first | refine wgs_nil ?_ | refine wgs_consN ?_)
  | (refine isWO ?_; first | refine wo_none ?_ | refine wo_some ?_)
  | (refine isWA ?_; first | refine wa_nil ?_ | refine wa_cons ?_)
  | walk_at "l")
local macro_rules | `(tactic| walk_at "go") => `(tactic| repeat (walk_at "step"))
theorem cut_len (xs : List D) (a b : Nat) : (Dl.cutD xs (some (a : Int)) (some (b : Int))).length = min b xs.length - min a xs.length ∧ (Dl.cutD xs none (some (b : Int))).length = min b xs.length ∧ (Dl.cutD xs (some (a : Int)) none).length = xs.length - min a xs.length := by
  unfold Dl.cutD
  simp only [List.length_take, List.length_drop, HT.sIx_nat, HT.sIx_none]
  omega
theorem GI.with {np nn : Nat} {m : Im} (g : GI np nn m) {p : Int} (h0 : 0 ≤ p) (h1 : p < manyE np nn) {ss : List D} (hl : ss.length = (m.page p).length) : GI np nn (m.with p ss) := by
  have hp := (g.pages h0 h1).2
  have hn : nodP m.ns = ((nn : Int) + 4) / 4 := by
    unfold nodP
    rw [g.nl]
    omega
  rw [manyE_eq] at h1
  rw [← hl] at hp
  have nl := g.nl
  have dl := g.dl
  unfold Im.with
  rw [hn]
  split
  · rename_i z
    rw [if_pos z] at hp
    exact ⟨hp, g.nl, g.dl, g.dd⟩
  · rename_i z
    rw [if_neg z] at hp
    split
    · rename_i z2
      rw [if_pos z2] at hp
      refine ⟨g.tl, ?_, g.dl, g.dd⟩
      have e1 : (p - 1) * 4 = ((4 * p.toNat - 4 : Nat) : Int) := by omega
      have e2 : p * 4 = ((4 * p.toNat : Nat) : Int) := by omega
      have e3 : 4 * p - 4 = ((4 * p.toNat - 4 : Nat) : Int) := by omega
      have e4 : 4 * p = ((4 * p.toNat : Nat) : Int) := by omega
      rw [e3, e4, (cut_len m.ns _ _).1] at hp
      show (Dl.cutD m.ns none (some ((p - 1) * 4)) ++ ss ++ Dl.cutD m.ns (some (p * 4)) none).length = nn + 1
      rw [e1, e2, List.length_append, List.length_append, (cut_len m.ns 0 _).2.1, (cut_len m.ns _ 0).2.2, hp]
      omega
    · rename_i z2
      rw [if_neg z2] at hp
      have e1 : p - 1 - ((nn : Int) + 4) / 4 = (((p - 1 - ((nn : Int) + 4) / 4).toNat : Nat) : Int) := by omega
      have e2 : p - ((nn : Int) + 4) / 4 = (((p - 1 - ((nn : Int) + 4) / 4).toNat + 1 : Nat) : Int) := by omega
      refine ⟨g.tl, g.nl, ?_, fun x hx => ?_⟩
      · show (Dl.cutD m.dt none (some (p - 1 - ((nn : Int) + 4) / 4)) ++ [PyData.tuple ss] ++ Dl.cutD m.dt (some (p - ((nn : Int) + 4) / 4)) none).length = np
        rw [e2, e1, List.length_append, List.length_append, (cut_len m.dt 0 _).2.1, (cut_len m.dt _ 0).2.2, List.length_singleton]
        omega
      · have hx' : x ∈ Dl.cutD m.dt none (some (p - 1 - ((nn : Int) + 4) / 4)) ++ [PyData.tuple ss] ++ Dl.cutD m.dt (some (p - ((nn : Int) + 4) / 4)) none := hx
        have sub : ∀ lo hi, x ∈ Dl.cutD m.dt lo hi → x ∈ m.dt := fun lo hi h => List.mem_of_mem_drop (List.mem_of_mem_take h)
        rcases List.mem_append.mp hx' with h | h
        · rcases List.mem_append.mp h with h | h
          · exact g.dd x (sub _ _ h)
          · rw [List.mem_singleton] at h
            exact ⟨ss, h, hp⟩
        · exact g.dd x (sub _ _ h)
theorem GI.put {np nn : Nat} {m : Im} (g : GI np nn m) {c : Chg} (gc : GoodC np nn c) : GI np nn (m.put c) := g.with gc.a0 gc.a1 (putF_len _ _)
theorem onF_succ {m : Im} {cs : List Chg} {k : Nat} {c : Chg} (h : cs[k]? = some c) : onF m (cs.take (k + 1)) = (onF m (cs.take k)).put c := by
  unfold onF
  rw [List.take_add_one, h, List.foldl_append]
  rfl
theorem GI.on {np nn : Nat} {m : Im} (g : GI np nn m) {cs : List Chg} (h : ∀ c ∈ cs, GoodC np nn c) : GI np nn (onF m cs) := by
  induction cs generalizing m with
  | nil => exact g
  | cons c r ih => exact ih (g.put (h c List.mem_cons_self)) fun c hc => h c (List.mem_cons_of_mem _ hc)
end K07
namespace K07
open PySem PySem.Spec PyProof.Rows L2 Dl
local macro_rules | `(tactic| walk_at "v") => `(tactic| first
  | refine we_d (i := 0) rfl (vis3 rfl) rfl ?_ | refine we_o (i := 0) rfl (vis3 rfl) rfl ?_
  | refine we_d (i := 1) rfl (vis3 rfl) rfl ?_ | refine we_o (i := 1) rfl (vis3 rfl) rfl ?_
  | refine we_d (i := 2) rfl (vis3 rfl) rfl ?_ | refine we_o (i := 2) rfl (vis3 rfl) rfl ?_
  | refine we_d (i := 3) rfl (vis3 rfl) rfl ?_ | refine we_o (i := 3) rfl (vis3 rfl) rfl ?_
  | refine we_d (i := 4) rfl (vis3 rfl) rfl ?_ | refine we_o (i := 4) rfl (vis3 rfl) rfl ?_
  | refine we_d (i := 5) rfl (vis3 rfl) rfl ?_ | refine we_o (i := 5) rfl (vis3 rfl) rfl ?_
  | refine we_d (i := 6) rfl (vis3 rfl) rfl ?_ | refine we_o (i := 6) rfl (vis3 rfl) rfl ?_
  | refine we_d (i := 7) rfl (vis3 rfl) rfl ?_ | refine we_o (i := 7) rfl (vis3 rfl) rfl ?_
  | refine we_d (i := 8) rfl (vis3 rfl) rfl ?_ | refine we_o (i := 8) rfl (vis3 rfl) rfl ?_
  | refine we_d (i := 9) rfl (vis3 rfl) rfl ?_ | refine we_o (i := 9) rfl (vis3 rfl) rfl ?_
  | refine we_d (i := 10) rfl (vis3 rfl) rfl ?_ | refine we_o (i := 10) rfl (vis3 rfl) rfl ?_
  | refine we_d (i := 11) rfl (vis3 rfl) rfl ?_ | refine we_o (i := 11) rfl (vis3 rfl) rfl ?_
  | refine we_d (i := 12) rfl (vis3 rfl) rfl ?_ | refine we_o (i := 12) rfl (vis3 rfl) rfl ?_
  | refine we_d (i := 13) rfl (vis3 rfl) rfl ?_ | refine we_o (i := 13) rfl (vis3 rfl) rfl ?_)
local macro_rules | `(tactic| walk_at "si") => `(tactic| first
  | refine ws_set (i := 0) (by assumption) rfl (loc2 rfl) (by decide) ?_
  | refine ws_set (i := 1) (by assumption) rfl (loc2 rfl) (by decide) ?_
  | refine ws_set (i := 2) (by assumption) rfl (loc2 rfl) (by decide) ?_
  | refine ws_set (i := 3) (by assumption) rfl (loc2 rfl) (by decide) ?_
  | refine ws_set (i := 4) (by assumption) rfl (loc2 rfl) (by decide) ?_
  | refine ws_set (i := 5) (by assumption) rfl (loc2 rfl) (by decide) ?_
  | refine ws_set (i := 6) (by assumption) rfl (loc2 rfl) (by decide) ?_
  | refine ws_set (i := 7) (by assumption) rfl (loc2 rfl) (by decide) ?_
  | refine ws_set (i := 8) (by assumption) rfl (loc2 rfl) (by decide) ?_
  | refine ws_set (i := 9) (by assumption) rfl (loc2 rfl) (by decide) ?_
  | refine ws_set (i := 10) (by assumption) rfl (loc2 rfl) (by decide) ?_
  | refine ws_set (i := 11) (by assumption) rfl (loc2 rfl) (by decide) ?_
  | refine ws_set (i := 12) (by assumption) rfl (loc2 rfl) (by decide) ?_
  | refine ws_set (i := 13) (by assumption) rfl (loc2 rfl) (by decide) ?_)
local macro_rules | `(tactic| walk_at "gi") => `(tactic| first
  | refine wg_name (i := 0) (by assumption) rfl (loc2 rfl) (by decide) ?_
  | refine wg_name (i := 1) (by assumption) rfl (loc2 rfl) (by decide) ?_
  | refine wg_name (i := 2) (by assumption) rfl (loc2 rfl) (by decide) ?_
  | refine wg_name (i := 3) (by assumption) rfl (loc2 rfl) (by decide) ?_
  | refine wg_name (i := 4) (by assumption) rfl (loc2 rfl) (by decide) ?_
  | refine wg_name (i := 5) (by assumption) rfl (loc2 rfl) (by decide) ?_
  | refine wg_name (i := 6) (by assumption) rfl (loc2 rfl) (by decide) ?_
  | refine wg_name (i := 7) (by assumption) rfl (loc2 rfl) (by decide) ?_
  | refine wg_name (i := 8) (by assumption) rfl (loc2 rfl) (by decide) ?_
  | refine wg_name (i := 9) (by assumption) rfl (loc2 rfl) (by decide) ?_
  | refine wg_name (i := 10) (by assumption) rfl (loc2 rfl) (by decide) ?_
  | refine wg_name (i := 11) (by assumption) rfl (loc2 rfl) (by decide) ?_
  | refine wg_name (i := 12) (by assumption) rfl (loc2 rfl) (by decide) ?_
  | refine wg_name (i := 13) (by assumption) rfl (loc2 rfl) (by decide) ?_)
local macro_rules | `(tactic| walk_at "side") => `(tactic| first | exact rfl | exact Nat.le_trans (m := 1000) (Nat.le_of_ble_eq_true rfl) sz1000 | omega | decide | assumption)
local macro_rules | `(tactic| walk_at "we") => `(tactic| first
  | (refine isName ?_; walk_at "v")
  | refine we_int ?_ | refine we_bl ?_ | refine we_non ?_ | refine we_str ?_
  | refine we_ix ?_
  | refine we_addG ?_ | refine we_sub ?_ | refine we_mulG ?_ | refine we_div ?_ | refine we_mod ?_ | refine we_pow ?_ | refine we_neg ?_
  | refine we_gt ?_ | refine we_lt ?_ | refine we_ge ?_ | refine we_le ?_
  | refine we_tup ?_ | refine we_lst ?_ | refine we_dict0 ?_
  | refine we_len (by assumption) rfl ?_ | refine we_slG ?_ | refine we_eqG (by assumption) ?_ | refine we_neG (by assumption) ?_ | refine we_not ?_ | refine we_one ?_ | refine we_and ?_ | refine we_or ?_
  | refine we_call2 (by assumption) (by assumption) (by assumption) (by decide) rfl ?_)
local macro_rules | `(tactic| walk_at "wt") => `(tactic| first
  | refine wt_gt ?_ | refine wt_lt ?_ | refine wt_ge ?_ | refine wt_le ?_ | refine wt_not ?_
  | refine wt_eqG (by assumption) ?_ | refine wt_neG (by assumption) ?_ | refine wt_bool ?_ | refine wt_val ?_)
local macro_rules | `(tactic| walk_at "ws") => `(tactic| first
  | refine ws_ret ?_ | (refine isSet ?_; walk_at "si") | refine ws_if ?_
  | refine ws_append (pe_bm PySem.F.plainAttrs_list PySem.F.slot_list_append PySem.F.type_list_append mt_append pe_m (pa_cons pe_m pa_nil)) ?_
  | refine ws_continue ?_ | refine ws_break ?_ | refine ws_pass ?_)
local macro_rules | `(tactic| walk_at "l") => `(tactic| first
  | refine And.intro (Exists.intro _ rfl) ?_
  | refine And.intro trivial ?_
  | refine Exists.intro _ (And.intro rfl ?_)
  | refine Exists.intro _ (Exists.intro _ (And.intro rfl (And.intro rfl ?_)))
  | refine And.intro (And.intro (by walk_at "side") (by walk_at "side") : CDiv _ _) ?_
  | refine And.intro (.inl (And.intro (by walk_at "side") (by walk_at "side")) : CMul _ _) ?_
  | refine And.intro (.inr (And.intro (by walk_at "side") (by walk_at "side")) : CMul _ _) ?_
  | refine And.intro (And.intro (List.cons_ne_nil _ _) (And.intro (by walk_at "side") (And.intro (by walk_at "side") (by walk_at "side")))) ?_
  | refine And.intro (by walk_at "side") ?_)
local macro_rules | `(tactic| walk_at "step") => `(tactic| first
  | (refine isWE ?_; walk_at "we")
  | (refine isWT ?_; walk_at "wt")
  | (refine isWSs ?_; first | refine wss_nil ?_ | refine wss_one ?_ | refine wss_cons ?_)
  | (refine isWS ?_; walk_at "ws")
  | (refine isWDs ?_; first | refine wds_nil ?_ | refine wds_cons ?_)
  | (refine isWW ?_; first | refine ww_and1 ?_ | refine ww_or1 ?_ | refine ww_and ?_ | refine ww_or ?_)
  | refine allB_i fun _ _ _ _ _ => ?_
  | refine asI_i (allB_i fun _ _ _ _ _ => ?_)
  | (refine isWG ?_; first | walk_at "gi" | refine wg_tup rfl ?_ rfl)
  | (refine isWGs ?_; first | refine wgs_nil ?_ | refine wgs_consN ?_)
  | (refine isWO ?_; first | refine wo_none ?_ | refine wo_some ?_)
  | (refine isWA ?_; first | refine wa_nil ?_ | refine wa_cons ?_)
  | walk_at "l")
local macro_rules | `(tactic| walk_at "go") => `(tactic| repeat (walk_at "step"))
abbrev NPut : List Str := ["image", "changes", "_", "page", "puts", "slots", "slot", "worth"]
theorem scPut : FnScope NPut ["image", "changes"] (defScope (topS 13)) := ⟨rfl, rfl, rfl, by decide +kernel, rfl, by decide +kernel, by decide +kernel⟩
local macro_rules | `(tactic| walk_at "we") => `(tactic| first
  | refine we_list (by assumption) rfl ?_
  | refine we_tupleL (by assumption) rfl ?_)
section
variable {Pg : Program} {w : World} {K : PySem.W.Frag} {mg : Str → Option Value} {base : Heap} {u4 : Value}
def sPut : SpD := fun R Q => ∃ (np nn : Nat) (m : Im) (cs : List Chg), R = [.d m.d, .d (csD cs)] ∧ (Sizes np nn ∧ GI np nn m ∧ ∀ c ∈ cs, GoodC np nn c) ∧ Q (.d (onF m cs).d) [.d (onF m cs).d, .d (csD cs)]
theorem ok_put {f : Addr} {fd : FuncData} (F : Fun K "put_on" "put_on" (topS 13) f fd) (hm : mg "put_on" = some (.ref f)) (hb : Binds K fd ["image", "changes"] []) (ml : mg "list" = none) (mt : mg "tuple" = none) (cSlo : Can Pg w K mg base 4 "slots_of" sSlO) (cWith : Can Pg w K mg base 4 "with_slots" sWith) : Can Pg w K mg base 5 "put_on" sPut := by
  refine can_def F scPut hm hb (fun A Z Z' k ⟨a, b, c, d, h1, h2, h3⟩ => ⟨a, b, c, d, h1, h2, k _ _ h3⟩) (by decide) (fun R Q h => ?_) (fun cdv A outer s H E hgd hr R Q h => ?_)
  · obtain ⟨a, b, c, d, rfl, _⟩ := h
    rfl
  · obtain ⟨np, nn, m, cs, rfl, ⟨hs, g, gc⟩, q⟩ := h
    show WSs _ [] _ [.d m.d, .d (csD cs), .no, .no, .no, .no, .no, .no] _
    have nd : NPut.Nodup := scPut.nd
    refine wss_cons ?_
    refine ws_forL (js := [2, 3, 4, 2]) PassesOwn.never rfl ?_
    walk_at "go"
    refine ⟨cs.map chgD, fun k R' => ∃ s2 s3 s4 s5 s6 s7, R' = [.d (onF m (cs.take k)).d, .d (csD cs), s2, s3, s4, s5, s6, s7], rfl, ⟨_, _, _, _, _, _, rfl⟩, fun k x R' hx h => ?_, fun R' h => ?_⟩
    · rw [List.getElem?_map] at hx
      cases hq : cs[k]? with
      | none => rw [hq] at hx; cases hx
      | some c =>
        rw [hq] at hx
        cases hx
        obtain ⟨s2, s3, s4, s5, s6, s7, rfl⟩ := h
        have g1 := gc c (List.mem_of_getElem? hq)
        have es := onF_succ (m := m) hq
        have g2 : GI np nn (onF m (cs.take k)) := g.on fun c hc => gc c (List.mem_of_mem_take hc)
        generalize onF m (cs.take k) = m1 at *
        obtain ⟨p1, p2⟩ := g2.pages g1.a0 g1.a1
        refine wg_tup rfl ?_ rfl
        walk_at "go"
        refine ⟨m1.tk, m1.ns, m1.dt, c.at_, rfl, ⟨g1.a0, by rw [g2.many]; exact g1.a1⟩, ⟨rfl, ?_⟩⟩
        rw [p1]
        walk_at "go"
        refine ws_forT (js := [6, 7]) PassesOwn.never rfl ?_
        walk_at "go"
        refine ⟨c.puts.map putD2, fun j R' => ∃ s6 s7, R' = [.d m1.d, .d (csD cs), .d (.tuple (c.leans.map .int)), .d (.int c.at_), .d (.tuple (c.puts.map putD2)), .own (.lst (putF (m1.page c.at_) (c.puts.take j))), s6, s7], rfl, ⟨_, _, rfl⟩, fun j x R' hx h => ?_, fun R' h => ?_⟩
        · obtain ⟨s6, s7, rfl⟩ := h
          rw [List.getElem?_map] at hx
          cases hqs : c.puts[j]? with
          | none => rw [hqs] at hx; cases hx
          | some pr =>
            rw [hqs] at hx
            cases hx
            have hsp := g1.sb pr.1 (List.mem_map.mpr ⟨pr, List.mem_of_getElem? hqs, rfl⟩)
            have e4 : putF (m1.page c.at_) (c.puts.take (j + 1)) = (putF (m1.page c.at_) (c.puts.take j)).set pr.1.toNat (.int pr.2) := by
              unfold putF
              rw [List.take_add_one, hqs, List.foldl_append]
              rfl
            walk_at "go"
            refine ws_lput (pg_sub pe_m pe_m set_list) ?_
            walk_at "go"
            refine ⟨_, pr.1.toNat, rfl, ?_, ?_⟩
            · rw [putF_len, g2.plen g1.a0 g1.a1]
              exact (if_pos hsp.1).trans (if_pos hsp.2)
            · exact ⟨_, _, by rw [e4]; rfl⟩
        · obtain ⟨s6, s7, rfl⟩ := h
          rw [List.length_map, List.take_length]
          walk_at "go"
          have hpl := page_is hs g1.a0 g1.a1
          have hs' := hs
          unfold Sizes at hs'
          refine ⟨m1.tk, m1.ns, m1.dt, c.at_, putF (m1.page c.at_) c.puts, rfl, ⟨⟨g1.a0, by rw [g2.many]; exact g1.a1⟩, by rw [g2.nl]; omega, by rw [g2.dl]; omega, by rw [putF_len, g2.plen g1.a0 g1.a1]; omega⟩, ⟨rfl, ?_⟩⟩
          rw [with_d]
          walk_at "go"
          exact ⟨_, _, _, _, _, _, by rw [es]; rfl⟩
    · obtain ⟨s2, s3, s4, s5, s6, s7, rfl⟩ := h
      rw [List.length_map, List.take_length]
      walk_at "go"
      exact q
end
end K07
namespace K07
open PySem PySem.Spec PyProof.Rows L2 Dl
local macro_rules | `(tactic| walk_at "v") => `(tactic| first
  | refine we_d (i := 0) rfl (vis3 rfl) rfl ?_ | refine we_o (i := 0) rfl (vis3 rfl) rfl ?_
  | refine we_d (i := 1) rfl (vis3 rfl) rfl ?_ | refine we_o (i := 1) rfl (vis3 rfl) rfl ?_
  | refine we_d (i := 2) rfl (vis3 rfl) rfl ?_ | refine we_o (i := 2) rfl (vis3 rfl) rfl ?_
  | refine we_d (i := 3) rfl (vis3 rfl) rfl ?_ | refine we_o (i := 3) rfl (vis3 rfl) rfl ?_
  | refine we_d (i := 4) rfl (vis3 rfl) rfl ?_ | refine we_o (i := 4) rfl (vis3 rfl) rfl ?_
  | refine we_d (i := 5) rfl (vis3 rfl) rfl ?_ | refine we_o (i := 5) rfl (vis3 rfl) rfl ?_
  | refine we_d (i := 6) rfl (vis3 rfl) rfl ?_ | refine we_o (i := 6) rfl (vis3 rfl) rfl ?_
  | refine we_d (i := 7) rfl (vis3 rfl) rfl ?_ | refine we_o (i := 7) rfl (vis3 rfl) rfl ?_
  | refine we_d (i := 8) rfl (vis3 rfl) rfl ?_ | refine we_o (i := 8) rfl (vis3 rfl) rfl ?_
  | refine we_d (i := 9) rfl (vis3 rfl) rfl ?_ | refine we_o (i := 9) rfl (vis3 rfl) rfl ?_
  | refine we_d (i := 10) rfl (vis3 rfl) rfl ?_ | refine we_o (i := 10) rfl (vis3 rfl) rfl ?_
  | refine we_d (i := 11) rfl (vis3 rfl) rfl ?_ | refine we_o (i := 11) rfl (vis3 rfl) rfl ?_
  | refine we_d (i := 12) rfl (vis3 rfl) rfl ?_ | refine we_o (i := 12) rfl (vis3 rfl) rfl ?_
  | refine we_d (i := 13) rfl (vis3 rfl) rfl ?_ | refine we_o (i := 13) rfl (vis3 rfl) rfl ?_)
local macro_rules | `(tactic| walk_at "si") => `(tactic| first
  | refine ws_set (i := 0) (by assumption) rfl (loc2 rfl) (by decide) ?_
  | refine ws_set (i := 1) (by assumption) rfl (loc2 rfl) (by decide) ?_
  | refine ws_set (i := 2) (by assumption) rfl (loc2 rfl) (by decide) ?_
  | refine ws_set (i := 3) (by assumption) rfl (loc2 rfl) (by decide) ?_
  | refine ws_set (i := 4) (by assumption) rfl (loc2 rfl) (by decide) ?_
  | refine ws_set (i := 5) (by assumption) rfl (loc2 rfl) (by decide) ?_
  | refine ws_set (i := 6) (by assumption) rfl (loc2 rfl) (by decide) ?_
  | refine ws_set (i := 7) (by assumption) rfl (loc2 rfl) (by decide) ?_
  | refine ws_set (i := 8) (by assumption) rfl (loc2 rfl) (by decide) ?_
  | refine ws_set (i := 9) (by assumption) rfl (loc2 rfl) (by decide) ?_
  | refine ws_set (i := 10) (by assumption) rfl (loc2 rfl) (by decide) ?_
  | refine ws_set (i := 11) (by assumption) rfl (loc2 rfl) (by decide) ?_
  | refine ws_set (i := 12) (by assumption) rfl (loc2 rfl) (by decide) ?_
  | refine ws_set (i := 13) (by assumption) rfl (loc2 rfl) (by decide) ?_)
local macro_rules | `(tactic| walk_at "gi") => `(tactic| first
  | refine wg_name (i := 0) (by assumption) rfl (loc2 rfl) (by decide) ?_
  | refine wg_name (i := 1) (by assumption) rfl (loc2 rfl) (by decide) ?_
  | refine wg_name (i := 2) (by assumption) rfl (loc2 rfl) (by decide) ?_
  | refine wg_name (i := 3) (by assumption) rfl (loc2 rfl) (by decide) ?_
  | refine wg_name (i := 4) (by assumption) rfl (loc2 rfl) (by decide) ?_
  | refine wg_name (i := 5) (by assumption) rfl (loc2 rfl) (by decide) ?_
  | refine wg_name (i := 6) (by assumption) rfl (loc2 rfl) (by decide) ?_
  | refine wg_name (i := 7) (by assumption) rfl (loc2 rfl) (by decide) ?_
  | refine wg_name (i := 8) (by assumption) rfl (loc2 rfl) (by decide) ?_
  | refine wg_name (i := 9) (by assumption) rfl (loc2 rfl) (by decide) ?_
  | refine wg_name (i := 10) (by assumption) rfl (loc2 rfl) (by decide) ?_
  | refine wg_name (i := 11) (by assumption) rfl (loc2 rfl) (by decide) ?_
  | refine wg_name (i := 12) (by assumption) rfl (loc2 rfl) (by decide) ?_
  | refine wg_name (i := 13) (by assumption) rfl (loc2 rfl) (by decide) ?_)
local macro_rules | `(tactic| walk_at "side") => `(tactic| first | exact rfl | exact Nat.le_trans (m := 1000) (Nat.le_of_ble_eq_true rfl) sz1000 | omega | decide | assumption)
local macro_rules | `(tactic| walk_at "we") => `(tactic| first
  | (refine isName ?_; walk_at "v")
  | refine we_int ?_ | refine we_bl ?_ | refine we_non ?_ | refine we_str ?_
  | refine we_ix ?_
  | refine we_addG ?_ | refine we_sub ?_ | refine we_mulG ?_ | refine we_div ?_ | refine we_mod ?_ | refine we_pow ?_ | refine we_neg ?_
  | refine we_gt ?_ | refine we_lt ?_ | refine we_ge ?_ | refine we_le ?_
  | refine we_tup ?_ | refine we_lst ?_ | refine we_dict0 ?_
  | refine we_len (by assumption) rfl ?_ | refine we_slG ?_ | refine we_eqG (by assumption) ?_ | refine we_neG (by assumption) ?_ | refine we_not ?_ | refine we_one ?_ | refine we_and ?_ | refine we_or ?_
  | refine we_call2 (by assumption) (by assumption) (by assumption) (by decide) rfl ?_)
local macro_rules | `(tactic| walk_at "wt") => `(tactic| first
  | refine wt_gt ?_ | refine wt_lt ?_ | refine wt_ge ?_ | refine wt_le ?_ | refine wt_not ?_
  | refine wt_eqG (by assumption) ?_ | refine wt_neG (by assumption) ?_ | refine wt_bool ?_ | refine wt_val ?_)
local macro_rules | `(tactic| walk_at "ws") => `(tactic| first
  | refine ws_ret ?_ | (refine isSet ?_; walk_at "si") | refine ws_if ?_
  | refine ws_append (pe_bm PySem.F.plainAttrs_list PySem.F.slot_list_append PySem.F.type_list_append mt_append pe_m (pa_cons pe_m pa_nil)) ?_
  | refine ws_continue ?_ | refine ws_break ?_ | refine ws_pass ?_)
local macro_rules | `(tactic| walk_at "l") => `(tactic| first
  | refine And.intro (Exists.intro _ rfl) ?_
  | refine And.intro trivial ?_
  | refine Exists.intro _ (And.intro rfl ?_)
  | refine Exists.intro _ (Exists.intro _ (And.intro rfl (And.intro rfl ?_)))
  | refine And.intro (And.intro (by walk_at "side") (by walk_at "side") : CDiv _ _) ?_
  | refine And.intro (.inl (And.intro (by walk_at "side") (by walk_at "side")) : CMul _ _) ?_
  | refine And.intro (.inr (And.intro (by walk_at "side") (by walk_at "side")) : CMul _ _) ?_
  | refine And.intro (And.intro (List.cons_ne_nil _ _) (And.intro (by walk_at "side") (And.intro (by walk_at "side") (by walk_at "side")))) ?_
  | refine And.intro (by walk_at "side") ?_)
local macro_rules | `(tactic| walk_at "step") => `(tactic| first
  | (refine isWE ?_; walk_at "we")
  | (refine isWT ?_; walk_at "wt")
  | (refine isWSs ?_; first | refine wss_nil ?_ | refine wss_one ?_ | refine wss_cons ?_)
  | (refine isWS ?_; walk_at "ws")
  | (refine isWDs ?_; first | refine wds_nil ?_ | refine wds_cons ?_)
  | (refine isWW ?_; first | refine ww_and1 ?_ | refine ww_or1 ?_ | refine ww_and ?_ | refine ww_or ?_)
  | refine allB_i fun _ _ _ _ _ => ?_
  | refine asI_i (allB_i fun _ _ _ _ _ => ?_)
  | (refine isWG ?_; first | walk_at "gi" | refine wg_tup rfl ?_ rfl)
  | (refine isWGs ?_; first | refine wgs_nil ?_ | refine wgs_consN ?_)
  | (refine isWO ?_; first | refine wo_none ?_ | refine wo_some ?_)
  | (refine isWA ?_; first | refine wa_nil ?_ | refine wa_cons ?_)
  | walk_at "l")
local macro_rules | `(tactic| walk_at "go") => `(tactic| repeat (walk_at "step"))
set_option maxHeartbeats 2000000
theorem pgOn_succ {cs : List Chg} {p : Int} {sl : List D} {i : Nat} {c : Chg} (h : cs[i]? = some c) (pgOn : List Chg → Int → List D → List D) (hp : ∀ cs p sl, pgOn cs p sl = cs.foldl (fun s c => if c.at_ = p then putF s c.puts else s) sl) : pgOn (cs.take (i + 1)) p sl = if c.at_ = p then putF (pgOn (cs.take i) p sl) c.puts else pgOn (cs.take i) p sl := by
  rw [hp, hp, List.take_add_one, h, List.foldl_append]
  rfl
abbrev NDue : List Str := ["_law_image_here", "_law_some", "_law_found", "_law_at", "_law_slots_here", "_law_number", "_law_where", "_law_puts", "_law_leans", "_law_spot", "_law_worth", "_law_many_here", "_law_own"]
theorem scDue : FnScope NDue ["_law_image_here", "_law_some"] (defScope (topS 24)) := ⟨rfl, rfl, rfl, by decide +kernel, rfl, by decide +kernel, by decide +kernel⟩
/-- one page with all changes that are of it -/
def pgOn (cs : List Chg) (p : Int) (sl : List D) : List D := cs.foldl (fun s c => if c.at_ = p then putF s c.puts else s) sl
theorem pgOn_len (p : Int) : ∀ (cs : List Chg) (sl : List D), (pgOn cs p sl).length = sl.length
  | [], _ => rfl
  | c :: r, sl => by
    show (pgOn r p (if c.at_ = p then putF sl c.puts else sl)).length = _
    rw [pgOn_len p r]
    split
    · exact putF_len _ _
    · rfl
def foundF (m : Im) (cs : List Chg) (k : Nat) : List (List D) := (List.range k).map fun i : Nat => pgOn cs (i : Int) (m.page (i : Int))
def dueF (nn np : Nat) (m : Im) (cs : List Chg) : D :=
  let F := foundF m cs (manyE np nn).toNat
  .tuple [.tuple (F.getD 0 []), .tuple ((F.drop 1).take ((nn + 4) / 4)).flatten, .tuple ((F.drop (1 + (nn + 4) / 4)).map .tuple)]
local macro_rules | `(tactic| walk_at "we") => `(tactic| first
  | refine we_list (by assumption) rfl ?_
  | refine we_tupleL (by assumption) rfl ?_)
section
variable {Pg : Program} {w : World} {K : PySem.W.Frag} {mg : Str → Option Value} {base : Heap} {u4 : Value}
def sDue : SpD := fun R Q => ∃ (np nn : Nat) (m : Im) (cs : List Chg), R = [.d m.d, .d (csD cs)] ∧ (Sizes np nn ∧ GI np nn m ∧ ∀ c ∈ cs, GoodC np nn c) ∧ Q (.d (dueF nn np m cs)) R
theorem ok_due {f : Addr} {fd : FuncData} (F : Fun K "_law_due" "_law_due" (topS 24) f fd) (hm : mg "_law_due" = some (.ref f)) (hb : Binds K fd ["_law_image_here", "_law_some"] []) (ml : mg "list" = none) (mt : mg "tuple" = none) (mr : mg "range" = none) (mn : mg "len" = none) (cMany : Can Pg w K mg base 1 "_law_many" sMany) (cSlots : Can Pg w K mg base 1 "_law_slots" sSlots) : Can Pg w K mg base 2 "_law_due" sDue := by
  refine can_def F scDue hm hb (fun A Z Z' k ⟨a, b, c, d, h1, h2, h3⟩ => ⟨a, b, c, d, h1, h2, k _ _ h3⟩) (by decide) (fun R Q h => ?_) (fun cdv A outer s H E hgd hr R Q h => ?_)
  · obtain ⟨a, b, c, d, rfl, _⟩ := h
    rfl
  · obtain ⟨np, nn, m, cs, rfl, ⟨hs, g, gc⟩, q⟩ := h
    show WSs _ [] _ [.d m.d, .d (csD cs), .no, .no, .no, .no, .no, .no, .no, .no, .no, .no, .no] _
    have nd : NDue.Nodup := scDue.nd
    have hM := manyE_eq np nn
    have hs' := hs
    unfold Sizes at hs'
    walk_at "go"
    refine ws_forR (js := [3]) PassesOwn.never rfl mr rfl ?_
    walk_at "go"
    refine ⟨m.tk, m.ns, m.dt, rfl, ⟨rfl, ?_⟩⟩
    rw [g.many]
    walk_at "go"
    refine ⟨fun k R' => ∃ s3 s4 s5 s6 s7 s8 s9 s10, R' = [.d m.d, .d (csD cs), .own (.lst ((foundF m cs k).map .tuple)), s3, s4, s5, s6, s7, s8, s9, s10, .no, .no], ⟨_, _, _, _, _, _, _, _, rfl⟩, fun k R' hlt h => ?_, fun R' h => ?_⟩
    · obtain ⟨s3, s4, s5, s6, s7, s8, s9, s10, rfl⟩ := h
      have hk0 : (0 : Int) ≤ (k : Int) := by omega
      obtain ⟨p1, p2⟩ := g.pages hk0 hlt
      walk_at "gi"
      walk_at "go"
      refine ⟨m.tk, m.ns, m.dt, _, rfl, ⟨hk0, by rw [g.many]; exact hlt⟩, ⟨rfl, ?_⟩⟩
      rw [p1]
      walk_at "go"
      refine ws_forL (js := [5, 6, 7, 8]) PassesOwn.never rfl ?_
      walk_at "go"
      refine ⟨cs.map chgD, fun i R' => ∃ s5 s6 s7 s8 s9 s10, R' = [.d m.d, .d (csD cs), .own (.lst ((foundF m cs k).map .tuple)), .d (.int k), .own (.lst (pgOn (cs.take i) k (m.page k))), s5, s6, s7, s8, s9, s10, .no, .no], rfl, ⟨_, _, _, _, _, _, rfl⟩, fun i x R' hx h => ?_, fun R' h => ?_⟩
      · obtain ⟨s5, s6, s7, s8, s9, s10, rfl⟩ := h
        rw [List.getElem?_map] at hx
        cases hq : cs[i]? with
        | none => rw [hq] at hx; cases hx
        | some c =>
          rw [hq] at hx
          cases hx
          have g1 := gc c (List.mem_of_getElem? hq)
          have es := pgOn_succ (p := k) (sl := m.page k) hq pgOn (fun _ _ _ => rfl)
          have el : (pgOn (cs.take i) k (m.page k)).length = (pageL np nn k).length := by rw [pgOn_len, g.plen hk0 hlt]
          generalize pgOn (cs.take i) k (m.page k) = sl at *
          refine wg_tup rfl ?_ rfl
          walk_at "go"
          have e0 : (if c.at_ = (k : Int) then putF sl (c.puts.take 0) else sl) = sl := by
            rw [List.take_zero]
            split <;> rfl
          refine ws_forT (js := [9, 10]) PassesOwn.never rfl ?_
          walk_at "go"
          refine ⟨c.puts.map putD2, fun j R' => ∃ s9 s10, R' = [.d m.d, .d (csD cs), .own (.lst ((foundF m cs k).map .tuple)), .d (.int k), .own (.lst (if c.at_ = k then putF sl (c.puts.take j) else sl)), .d (.int c.n), .d (.int c.at_), .d (.tuple (c.puts.map putD2)), .d (.tuple (c.leans.map .int)), s9, s10, .no, .no], rfl, ⟨s9, s10, by rw [e0]; rfl⟩, fun j x R' hx h => ?_, fun R' h => ?_⟩
          · obtain ⟨s9, s10, rfl⟩ := h
            rw [List.getElem?_map] at hx
            cases hqs : c.puts[j]? with
            | none => rw [hqs] at hx; cases hx
            | some pr =>
              rw [hqs] at hx
              cases hx
              have hsp := g1.sb pr.1 (List.mem_map.mpr ⟨pr, List.mem_of_getElem? hqs, rfl⟩)
              have e4 : putF sl (c.puts.take (j + 1)) = (putF sl (c.puts.take j)).set pr.1.toNat (.int pr.2) := by
                unfold putF
                rw [List.take_add_one, hqs, List.foldl_append]
                rfl
              walk_at "go"
              refine ⟨fun z => ?_, fun z => ?_⟩
              · have z1 : c.at_ = (k : Int) := by simpa using z
                rw [if_pos z1]
                walk_at "go"
                refine ws_lput (pg_sub pe_m pe_m set_list) ?_
                walk_at "go"
                refine ⟨_, pr.1.toNat, rfl, ?_, ?_⟩
                · rw [putF_len, el, ← z1]
                  exact (if_pos hsp.1).trans (if_pos hsp.2)
                · exact ⟨_, _, by rw [if_pos z1, e4]; rfl⟩
              · have z1 : ¬ c.at_ = (k : Int) := by simpa using z
                rw [if_neg z1]
                walk_at "go"
                exact ⟨_, _, by rw [if_neg z1]; rfl⟩
          · obtain ⟨s9, s10, rfl⟩ := h
            rw [List.length_map, List.take_length, ← es]
            exact ⟨_, _, _, _, _, _, rfl⟩
      · obtain ⟨s5, s6, s7, s8, s9, s10, rfl⟩ := h
        rw [List.length_map, List.take_length]
        walk_at "go"
        have ef : foundF m cs (k + 1) = foundF m cs k ++ [pgOn cs k (m.page k)] := by
          unfold foundF
          rw [List.range_succ, List.map_append]
          rfl
        refine ⟨?_, ?_⟩
        · unfold foundF
          rw [List.length_map, List.length_map, List.length_range]
          exact Nat.lt_of_le_of_lt (show k ≤ 10000 by omega) (by decide)
        · exact ⟨_, _, _, _, _, _, _, _, by rw [ef, List.map_append]; rfl⟩
    · obtain ⟨s3, s4, s5, s6, s7, s8, s9, s10, rfl⟩ := h
      have hF : (foundF m cs (manyE np nn).toNat).length = 1 + (nn + 4) / 4 + np := by
        unfold foundF
        rw [List.length_map, List.length_range]
        omega
      have hw : ∀ x ∈ foundF m cs (manyE np nn).toNat, x.length ≤ 5 := fun x hx => by
        obtain ⟨i, hi, rfl⟩ := List.mem_map.mp hx
        have hi' := List.mem_range.mp hi
        rw [pgOn_len, g.plen (by omega) (by omega)]
        exact (page_is hs (by omega) (by omega)).2.2
      have q1 : ∀ x, x = dueF nn np m cs → Q (.d x) [.d m.d, .d (csD cs)] := fun x e => by
        rw [e]
        exact q
      unfold dueF at q1
      generalize foundF m cs (manyE np nn).toNat = F at *
      have nd4 : ((m.ns.length : Int) + 3) / 4 = (((nn + 4) / 4 : Nat) : Int) := by
        rw [g.nl]
        omega
      have ec : Dl.cutD (F.map PyData.tuple) (some 1) (some (1 + ((m.ns.length : Int) + 3) / 4)) = ((F.drop 1).take ((nn + 4) / 4)).map PyData.tuple := by
        rw [nd4, show (1 : Int) + (((nn + 4) / 4 : Nat) : Int) = ((1 + (nn + 4) / 4 : Nat) : Int) by omega]
        unfold Dl.cutD
        rw [show (some (1 : Int)) = some ((1 : Nat) : Int) from rfl, HT.sIx_nat, HT.sIx_nat, List.length_map, hF, List.map_take, List.map_drop, Nat.min_eq_left (by omega), Nat.min_eq_left (by omega)]
        congr 1
        omega
      have ec2 : Dl.cutD (F.map PyData.tuple) (some (1 + ((m.ns.length : Int) + 3) / 4)) none = (F.drop (1 + (nn + 4) / 4)).map PyData.tuple := by
        rw [nd4, show (1 : Int) + (((nn + 4) / 4 : Nat) : Int) = ((1 + (nn + 4) / 4 : Nat) : Int) by omega]
        unfold Dl.cutD
        rw [HT.sIx_nat, HT.sIx_none, List.length_map, hF, List.map_drop, Nat.min_eq_left (by omega), List.take_of_length_le (by rw [List.length_drop, List.length_map, hF]; omega)]
      walk_at "go"
      refine ws_forL (js := [4]) PassesOwn.never rfl ?_
      walk_at "go"
      refine ⟨((F.drop 1).take ((nn + 4) / 4)).map PyData.tuple, fun i R' => ∃ s4, R' = [.d m.d, .d (csD cs), .own (.lst (F.map .tuple)), s3, s4, s5, s6, s7, s8, s9, s10, .d (.int (((m.ns.length : Int) + 3) / 4)), .d (.tuple (((F.drop 1).take ((nn + 4) / 4)).take i).flatten)], congrArg PyData.list ec, ⟨_, rfl⟩, fun i x R' hx h => ?_, fun R' h => ?_⟩
      · obtain ⟨s4, rfl⟩ := h
        rw [List.getElem?_map] at hx
        have hfl : ∀ i, (((F.drop 1).take ((nn + 4) / 4)).take i).flatten.length ≤ 5 * i := fun i => by
          have key : ∀ (G : List (List D)), (∀ x ∈ G, x.length ≤ 5) → ∀ i, (G.take i).flatten.length ≤ 5 * i := by
            intro G
            induction G with
            | nil => intro _ i; simp
            | cons y r ih =>
              intro hy i
              cases i with
              | zero => simp
              | succ i =>
                rw [List.take_succ_cons, List.flatten_cons, List.length_append]
                have h1 := hy y List.mem_cons_self
                have h2 := ih (fun x hx => hy x (List.mem_cons_of_mem _ hx)) i
                omega
          exact key _ (fun x hx => hw x (List.mem_of_mem_drop (List.mem_of_mem_take hx))) i
        cases hq : ((F.drop 1).take ((nn + 4) / 4))[i]? with
        | none => rw [hq] at hx; cases hx
        | some y =>
          rw [hq] at hx
          cases hx
          have e5 : (((F.drop 1).take ((nn + 4) / 4)).take (i + 1)).flatten = (((F.drop 1).take ((nn + 4) / 4)).take i).flatten ++ y := by
            rw [List.take_add_one, hq, List.flatten_append]
            simp
          have h5 := hfl i
          have h6 := hw y (List.mem_of_mem_drop (List.mem_of_mem_take (List.mem_of_getElem? hq)))
          have hi : i < ((F.drop 1).take ((nn + 4) / 4)).length := (List.getElem?_eq_some_iff.mp hq).1
          rw [List.length_take, List.length_drop, hF] at hi
          walk_at "go"
          refine ⟨szle (by omega), ?_⟩
          exact ⟨_, by rw [e5]; rfl⟩
      · obtain ⟨s4, rfl⟩ := h
        rw [List.length_map, List.take_length]
        walk_at "go"
        refine ⟨F.map .tuple, .tuple (F.getD 0 []), rfl, ?_, ?_⟩
        · cases F with
          | nil =>
            rw [List.length_nil] at hF
            omega
          | cons y r => exact atI_of (by decide) rfl
        · walk_at "go"
          exact q1 _ (by rw [ec2])
end
end K07
namespace K07
open PySem PySem.Spec PyProof.Rows L2 Dl
local macro_rules | `(tactic| walk_at "v") => `(tactic| first
  | refine we_d (i := 0) rfl (vis3 rfl) rfl ?_ | refine we_o (i := 0) rfl (vis3 rfl) rfl ?_
  | refine we_d (i := 1) rfl (vis3 rfl) rfl ?_ | refine we_o (i := 1) rfl (vis3 rfl) rfl ?_
  | refine we_d (i := 2) rfl (vis3 rfl) rfl ?_ | refine we_o (i := 2) rfl (vis3 rfl) rfl ?_
  | refine we_d (i := 3) rfl (vis3 rfl) rfl ?_ | refine we_o (i := 3) rfl (vis3 rfl) rfl ?_
  | refine we_d (i := 4) rfl (vis3 rfl) rfl ?_ | refine we_o (i := 4) rfl (vis3 rfl) rfl ?_
  | refine we_d (i := 5) rfl (vis3 rfl) rfl ?_ | refine we_o (i := 5) rfl (vis3 rfl) rfl ?_
  | refine we_d (i := 6) rfl (vis3 rfl) rfl ?_ | refine we_o (i := 6) rfl (vis3 rfl) rfl ?_
  | refine we_d (i := 7) rfl (vis3 rfl) rfl ?_ | refine we_o (i := 7) rfl (vis3 rfl) rfl ?_
  | refine we_d (i := 8) rfl (vis3 rfl) rfl ?_ | refine we_o (i := 8) rfl (vis3 rfl) rfl ?_
  | refine we_d (i := 9) rfl (vis3 rfl) rfl ?_ | refine we_o (i := 9) rfl (vis3 rfl) rfl ?_
  | refine we_d (i := 10) rfl (vis3 rfl) rfl ?_ | refine we_o (i := 10) rfl (vis3 rfl) rfl ?_
  | refine we_d (i := 11) rfl (vis3 rfl) rfl ?_ | refine we_o (i := 11) rfl (vis3 rfl) rfl ?_
  | refine we_d (i := 12) rfl (vis3 rfl) rfl ?_ | refine we_o (i := 12) rfl (vis3 rfl) rfl ?_
  | refine we_d (i := 13) rfl (vis3 rfl) rfl ?_ | refine we_o (i := 13) rfl (vis3 rfl) rfl ?_)
local macro_rules | `(tactic| walk_at "si") => `(tactic| first
  | refine ws_set (i := 0) (by assumption) rfl (loc2 rfl) (by decide) ?_
  | refine ws_set (i := 1) (by assumption) rfl (loc2 rfl) (by decide) ?_
  | refine ws_set (i := 2) (by assumption) rfl (loc2 rfl) (by decide) ?_
  | refine ws_set (i := 3) (by assumption) rfl (loc2 rfl) (by decide) ?_
  | refine ws_set (i := 4) (by assumption) rfl (loc2 rfl) (by decide) ?_
  | refine ws_set (i := 5) (by assumption) rfl (loc2 rfl) (by decide) ?_
  | refine ws_set (i := 6) (by assumption) rfl (loc2 rfl) (by decide) ?_
  | refine ws_set (i := 7) (by assumption) rfl (loc2 rfl) (by decide) ?_
  | refine ws_set (i := 8) (by assumption) rfl (loc2 rfl) (by decide) ?_
  | refine ws_set (i := 9) (by assumption) rfl (loc2 rfl) (by decide) ?_
  | refine ws_set (i := 10) (by assumption) rfl (loc2 rfl) (by decide) ?_
  | refine ws_set (i := 11) (by assumption) rfl (loc2 rfl) (by decide) ?_
  | refine ws_set (i := 12) (by assumption) rfl (loc2 rfl) (by decide) ?_
  | refine ws_set (i := 13) (by assumption) rfl (loc2 rfl) (by decide) ?_)
local macro_rules | `(tactic| walk_at "gi") => `(tactic| first
  | refine wg_name (i := 0) (by assumption) rfl (loc2 rfl) (by decide) ?_
  | refine wg_name (i := 1) (by assumption) rfl (loc2 rfl) (by decide) ?_
  | refine wg_name (i := 2) (by assumption) rfl (loc2 rfl) (by decide) ?_
  | refine wg_name (i := 3) (by assumption) rfl (loc2 rfl) (by decide) ?_
  | refine wg_name (i := 4) (by assumption) rfl (loc2 rfl) (by decide) ?_
  | refine wg_name (i := 5) (by assumption) rfl (loc2 rfl) (by decide) ?_
  | refine wg_name (i := 6) (by assumption) rfl (loc2 rfl) (by decide) ?_
  | refine wg_name (i := 7) (by assumption) rfl (loc2 rfl) (by decide) ?_
  | refine wg_name (i := 8) (by assumption) rfl (loc2 rfl) (by decide) ?_
  | refine wg_name (i := 9) (by assumption) rfl (loc2 rfl) (by decide) ?_
  | refine wg_name (i := 10) (by assumption) rfl (loc2 rfl) (by decide) ?_
  | refine wg_name (i := 11) (by assumption) rfl (loc2 rfl) (by decide) ?_
  | refine wg_name (i := 12) (by assumption) rfl (loc2 rfl) (by decide) ?_
  | refine wg_name (i := 13) (by assumption) rfl (loc2 rfl) (by decide) ?_)
local macro_rules | `(tactic| walk_at "side") => `(tactic| first | exact rfl | exact Nat.le_trans (m := 1000) (Nat.le_of_ble_eq_true rfl) sz1000 | omega | decide | assumption)
local macro_rules | `(tactic| walk_at "we") => `(tactic| first
  | (refine isName ?_; walk_at "v")
  | refine we_int ?_ | refine we_bl ?_ | refine we_non ?_ | refine we_str ?_
  | refine we_ix ?_
  | refine we_addG ?_ | refine we_sub ?_ | refine we_mulG ?_ | refine we_div ?_ | refine we_mod ?_ | refine we_pow ?_ | refine we_neg ?_
  | refine we_gt ?_ | refine we_lt ?_ | refine we_ge ?_ | refine we_le ?_
  | refine we_tup ?_ | refine we_lst ?_ | refine we_dict0 ?_
  | refine we_len (by assumption) rfl ?_ | refine we_slG ?_ | refine we_eqG (by assumption) ?_ | refine we_neG (by assumption) ?_ | refine we_not ?_ | refine we_one ?_ | refine we_and ?_ | refine we_or ?_
  | refine we_call2 (by assumption) (by assumption) (by assumption) (by decide) rfl ?_)
local macro_rules | `(tactic| walk_at "wt") => `(tactic| first
  | refine wt_gt ?_ | refine wt_lt ?_ | refine wt_ge ?_ | refine wt_le ?_ | refine wt_not ?_
  | refine wt_eqG (by assumption) ?_ | refine wt_neG (by assumption) ?_ | refine wt_bool ?_ | refine wt_val ?_)
local macro_rules | `(tactic| walk_at "ws") => `(tactic| first
  | refine ws_ret ?_ | (refine isSet ?_; walk_at "si") | refine ws_if ?_
  | refine ws_append (pe_bm PySem.F.plainAttrs_list PySem.F.slot_list_append PySem.F.type_list_append mt_append pe_m (pa_cons pe_m pa_nil)) ?_
  | refine ws_continue ?_ | refine ws_break ?_ | refine ws_pass ?_)
local macro_rules | `(tactic| walk_at "l") => `(tactic| first
  | refine And.intro (Exists.intro _ rfl) ?_
  | refine And.intro trivial ?_
  | refine Exists.intro _ (And.intro rfl ?_)
  | refine Exists.intro _ (Exists.intro _ (And.intro rfl (And.intro rfl ?_)))
  | refine And.intro (And.intro (by walk_at "side") (by walk_at "side") : CDiv _ _) ?_
  | refine And.intro (.inl (And.intro (by walk_at "side") (by walk_at "side")) : CMul _ _) ?_
  | refine And.intro (.inr (And.intro (by walk_at "side") (by walk_at "side")) : CMul _ _) ?_
  | refine And.intro (And.intro (List.cons_ne_nil _ _) (And.intro (by walk_at "side") (And.intro (by walk_at "side") (by walk_at "side")))) ?_
  | refine And.intro (by walk_at "side") ?_)
local macro_rules | `(tactic| walk_at "step") => `(tactic| first
  | (refine isWE ?_; walk_at "we")
  | (refine isWT ?_; walk_at "wt")
  | (refine isWSs ?_; first | refine wss_nil ?_ | refine wss_one ?_ | refine wss_cons ?_)
  | (refine isWS ?_; walk_at "ws")
  | (refine isWDs ?_; first | refine wds_nil ?_ | refine wds_cons ?_)
  | (refine isWW ?_; first | refine ww_and1 ?_ | refine ww_or1 ?_ | refine ww_and ?_ | refine ww_or ?_)
  | refine allB_i fun _ _ _ _ _ => ?_
  | refine asI_i (allB_i fun _ _ _ _ _ => ?_)
  | (refine isWG ?_; first | walk_at "gi" | refine wg_tup rfl ?_ rfl)
  | (refine isWGs ?_; first | refine wgs_nil ?_ | refine wgs_consN ?_)
  | (refine isWO ?_; first | refine wo_none ?_ | refine wo_some ?_)
  | (refine isWA ?_; first | refine wa_nil ?_ | refine wa_cons ?_)
  | walk_at "l")
local macro_rules | `(tactic| walk_at "go") => `(tactic| repeat (walk_at "step"))
/-! the mathematics: pages and their rejoining -/
theorem cut_nat (xs : List D) (a b : Nat) : Dl.cutD xs (some (a : Int)) (some (b : Int)) = (xs.drop a).take (b - a) := by
  unfold Dl.cutD
  rw [HT.sIx_nat, HT.sIx_nat]
  by_cases h : a ≤ xs.length
  · rw [Nat.min_eq_left h]
    by_cases h2 : b ≤ xs.length
    · rw [Nat.min_eq_left h2]
    · rw [Nat.min_eq_right (by omega), List.take_of_length_le (by rw [List.length_drop]; omega), List.take_of_length_le (by rw [List.length_drop]; omega)]
  · have h1 : min a xs.length = xs.length := Nat.min_eq_right (by omega)
    rw [h1, List.drop_length, List.drop_of_length_le (show xs.length ≤ a by omega), List.take_nil, List.take_nil]
theorem flat_cut (xs : List D) : ∀ k : Nat, ((List.range k).map fun i => (xs.drop (4 * i)).take 4).flatten = xs.take (4 * k)
  | 0 => by simp
  | k + 1 => by
    rw [List.range_succ, List.map_append, List.flatten_append, flat_cut xs k, show 4 * (k + 1) = 4 * k + 4 by omega, List.take_add]
    simp
theorem node_page {np nn : Nat} {m : Im} (g : GI np nn m) {i : Nat} (h : i < (nn + 4) / 4) : m.page ((1 + i : Nat) : Int) = (m.ns.drop (4 * i)).take 4 := by
  unfold Im.page slotsF nodP
  rw [if_neg (by omega), g.nl, if_pos (by omega)]
  show Dl.cutD m.ns _ _ = _
  rw [show (4 * ((1 + i : Nat) : Int) - 4) = ((4 * i : Nat) : Int) by omega, show (4 * ((1 + i : Nat) : Int)) = ((4 * i + 4 : Nat) : Int) by omega, cut_nat]
  congr 1
  omega
theorem data_page {np nn : Nat} {m : Im} (g : GI np nn m) {i : Nat} (h : i < np) : m.dt[i]? = some (.tuple (m.page ((1 + (nn + 4) / 4 + i : Nat) : Int))) := by
  have hlt : i < m.dt.length := by rw [g.dl]; exact h
  unfold Im.page slotsF nodP
  rw [if_neg (by omega), g.nl, if_neg (by omega), show (((1 + (nn + 4) / 4 + i : Nat) : Int) - 1 - (((nn + 1 : Nat) : Int) + 3) / 4).toNat = i by omega, List.getD_eq_getElem?_getD, List.getElem?_eq_getElem hlt]
  obtain ⟨ds, e, _⟩ := g.dd _ (List.getElem_mem hlt)
  rw [show (some m.dt[i]).getD PyData.none = m.dt[i] from rfl, e]
/-- an image is its pages -/
theorem rejoin {np nn : Nat} {m : Im} (g : GI np nn m) : m.d = dueF nn np m [] := by
  have hM : (manyE np nn).toNat = 1 + (nn + 4) / 4 + np := by
    rw [manyE_eq]
    omega
  have hf : foundF m [] (manyE np nn).toNat = (List.range (1 + (nn + 4) / 4 + np)).map fun i : Nat => m.page (i : Int) := by
    unfold foundF
    rw [hM]
    rfl
  unfold dueF Im.d imgD
  rw [hf]
  have e1 : ((List.range (1 + (nn + 4) / 4 + np)).map fun i : Nat => m.page (i : Int)).getD 0 [] = m.tk := by
    rw [List.getD_eq_getElem?_getD, List.getElem?_map, List.getElem?_range (by omega)]
    rfl
  have e2 : ((((List.range (1 + (nn + 4) / 4 + np)).map fun i : Nat => m.page (i : Int)).drop 1).take ((nn + 4) / 4)) = (List.range ((nn + 4) / 4)).map fun i => (m.ns.drop (4 * i)).take 4 := by
    apply List.ext_getElem?
    intro i
    by_cases h : i < (nn + 4) / 4
    · rw [List.getElem?_take_of_lt h, List.getElem?_drop, List.getElem?_map, List.getElem?_map, List.getElem?_range h, List.getElem?_range (by omega)]
      show some (m.page ((1 + i : Nat) : Int)) = some _
      rw [node_page g h]
    · rw [List.getElem?_eq_none (by rw [List.length_take]; omega), List.getElem?_eq_none (by rw [List.length_map, List.length_range]; omega)]
  have e3 : ((((List.range (1 + (nn + 4) / 4 + np)).map fun i : Nat => m.page (i : Int)).drop (1 + (nn + 4) / 4)).map PyData.tuple) = m.dt := by
    apply List.ext_getElem?
    intro i
    by_cases h : i < np
    · rw [List.getElem?_map, List.getElem?_drop, List.getElem?_map, List.getElem?_range (by omega), data_page g h]
      rfl
    · rw [List.getElem?_eq_none (by rw [List.length_map, List.length_drop, List.length_map, List.length_range]; omega), List.getElem?_eq_none (by rw [g.dl]; omega)]
  show _ = PyData.tuple [.tuple _, .tuple _, .tuple _]
  rw [e1, e2, e3, flat_cut, List.take_of_length_le (by rw [g.nl]; omega)]
end K07
namespace K07
open PySem PySem.Spec PyProof.Rows L2 Dl
local macro_rules | `(tactic| walk_at "v") => `(tactic| first
  | refine we_d (i := 0) rfl (vis3 rfl) rfl ?_ | refine we_o (i := 0) rfl (vis3 rfl) rfl ?_
  | refine we_d (i := 1) rfl (vis3 rfl) rfl ?_ | refine we_o (i := 1) rfl (vis3 rfl) rfl ?_
  | refine we_d (i := 2) rfl (vis3 rfl) rfl ?_ | refine we_o (i := 2) rfl (vis3 rfl) rfl ?_
  | refine we_d (i := 3) rfl (vis3 rfl) rfl ?_ | refine we_o (i := 3) rfl (vis3 rfl) rfl ?_
  | refine we_d (i := 4) rfl (vis3 rfl) rfl ?_ | refine we_o (i := 4) rfl (vis3 rfl) rfl ?_
  | refine we_d (i := 5) rfl (vis3 rfl) rfl ?_ | refine we_o (i := 5) rfl (vis3 rfl) rfl ?_
  | refine we_d (i := 6) rfl (vis3 rfl) rfl ?_ | refine we_o (i := 6) rfl (vis3 rfl) rfl ?_
  | refine we_d (i := 7) rfl (vis3 rfl) rfl ?_ | refine we_o (i := 7) rfl (vis3 rfl) rfl ?_
  | refine we_d (i := 8) rfl (vis3 rfl) rfl ?_ | refine we_o (i := 8) rfl (vis3 rfl) rfl ?_
  | refine we_d (i := 9) rfl (vis3 rfl) rfl ?_ | refine we_o (i := 9) rfl (vis3 rfl) rfl ?_
  | refine we_d (i := 10) rfl (vis3 rfl) rfl ?_ | refine we_o (i := 10) rfl (vis3 rfl) rfl ?_
  | refine we_d (i := 11) rfl (vis3 rfl) rfl ?_ | refine we_o (i := 11) rfl (vis3 rfl) rfl ?_
  | refine we_d (i := 12) rfl (vis3 rfl) rfl ?_ | refine we_o (i := 12) rfl (vis3 rfl) rfl ?_
  | refine we_d (i := 13) rfl (vis3 rfl) rfl ?_ | refine we_o (i := 13) rfl (vis3 rfl) rfl ?_)
local macro_rules | `(tactic| walk_at "si") => `(tactic| first
  | refine ws_set (i := 0) (by assumption) rfl (loc2 rfl) (by decide) ?_
  | refine ws_set (i := 1) (by assumption) rfl (loc2 rfl) (by decide) ?_
  | refine ws_set (i := 2) (by assumption) rfl (loc2 rfl) (by decide) ?_
  | refine ws_set (i := 3) (by assumption) rfl (loc2 rfl) (by decide) ?_
  | refine ws_set (i := 4) (by assumption) rfl (loc2 rfl) (by decide) ?_
  | refine ws_set (i := 5) (by assumption) rfl (loc2 rfl) (by decide) ?_
  | refine ws_set (i := 6) (by assumption) rfl (loc2 rfl) (by decide) ?_
  | refine ws_set (i := 7) (by assumption) rfl (loc2 rfl) (by decide) ?_
  | refine ws_set (i := 8) (by assumption) rfl (loc2 rfl) (by decide) ?_
  | refine ws_set (i := 9) (by assumption) rfl (loc2 rfl) (by decide) ?_
  | refine ws_set (i := 10) (by assumption) rfl (loc2 rfl) (by decide) ?_
  | refine ws_set (i := 11) (by assumption) rfl (loc2 rfl) (by decide) ?_
  | refine ws_set (i := 12) (by assumption) rfl (loc2 rfl) (by decide) ?_
  | refine ws_set (i := 13) (by assumption) rfl (loc2 rfl) (by decide) ?_)
local macro_rules | `(tactic| walk_at "gi") => `(tactic| first
  | refine wg_name (i := 0) (by assumption) rfl (loc2 rfl) (by decide) ?_
  | refine wg_name (i := 1) (by assumption) rfl (loc2 rfl) (by decide) ?_
  | refine wg_name (i := 2) (by assumption) rfl (loc2 rfl) (by decide) ?_
  | refine wg_name (i := 3) (by assumption) rfl (loc2 rfl) (by decide) ?_
  | refine wg_name (i := 4) (by assumption) rfl (loc2 rfl) (by decide) ?_
  | refine wg_name (i := 5) (by assumption) rfl (loc2 rfl) (by decide) ?_
  | refine wg_name (i := 6) (by assumption) rfl (loc2 rfl) (by decide) ?_
  | refine wg_name (i := 7) (by assumption) rfl (loc2 rfl) (by decide) ?_
  | refine wg_name (i := 8) (by assumption) rfl (loc2 rfl) (by decide) ?_
  | refine wg_name (i := 9) (by assumption) rfl (loc2 rfl) (by decide) ?_
  | refine wg_name (i := 10) (by assumption) rfl (loc2 rfl) (by decide) ?_
  | refine wg_name (i := 11) (by assumption) rfl (loc2 rfl) (by decide) ?_
  | refine wg_name (i := 12) (by assumption) rfl (loc2 rfl) (by decide) ?_
  | refine wg_name (i := 13) (by assumption) rfl (loc2 rfl) (by decide) ?_)
local macro_rules | `(tactic| walk_at "side") => `(tactic| first | exact rfl | exact Nat.le_trans (m := 1000) (Nat.le_of_ble_eq_true rfl) sz1000 | omega | decide | assumption)
local macro_rules | `(tactic| walk_at "we") => `(tactic| first
  | (refine isName ?_; walk_at "v")
  | refine we_int ?_ | refine we_bl ?_ | refine we_non ?_ | refine we_str ?_
  | refine we_ix ?_
  | refine we_addG ?_ | refine we_sub ?_ | refine we_mulG ?_ | refine we_div ?_ | refine we_mod ?_ | refine we_pow ?_ | refine we_neg ?_
  | refine we_gt ?_ | refine we_lt ?_ | refine we_ge ?_ | refine we_le ?_
  | refine we_tup ?_ | refine we_lst ?_ | refine we_dict0 ?_
  | refine we_len (by assumption) rfl ?_ | refine we_slG ?_ | refine we_eqG (by assumption) ?_ | refine we_neG (by assumption) ?_ | refine we_not ?_ | refine we_one ?_ | refine we_and ?_ | refine we_or ?_
  | refine we_call2 (by assumption) (by assumption) (by assumption) (by decide) rfl ?_)
local macro_rules | `(tactic| walk_at "wt") => `(tactic| first
  | refine wt_gt ?_ | refine wt_lt ?_ | refine wt_ge ?_ | refine wt_le ?_ | refine wt_not ?_
  | refine wt_eqG (by assumption) ?_ | refine wt_neG (by assumption) ?_ | refine wt_bool ?_ | refine wt_val ?_)
local macro_rules | `(tactic| walk_at "ws") => `(tactic| first
  | refine ws_ret ?_ | (refine isSet ?_; walk_at "si") | refine ws_if ?_
  | refine ws_append (pe_bm PySem.F.plainAttrs_list PySem.F.slot_list_append PySem.F.type_list_append mt_append pe_m (pa_cons pe_m pa_nil)) ?_
  | refine ws_continue ?_ | refine ws_break ?_ | refine ws_pass ?_)
local macro_rules | `(tactic| walk_at "l") => `(tactic| first
  | refine And.intro (Exists.intro _ rfl) ?_
  | refine And.intro trivial ?_
  | refine Exists.intro _ (And.intro rfl ?_)
  | refine Exists.intro _ (Exists.intro _ (And.intro rfl (And.intro rfl ?_)))
  | refine And.intro (And.intro (by walk_at "side") (by walk_at "side") : CDiv _ _) ?_
  | refine And.intro (.inl (And.intro (by walk_at "side") (by walk_at "side")) : CMul _ _) ?_
  | refine And.intro (.inr (And.intro (by walk_at "side") (by walk_at "side")) : CMul _ _) ?_
  | refine And.intro (And.intro (List.cons_ne_nil _ _) (And.intro (by walk_at "side") (And.intro (by walk_at "side") (by walk_at "side")))) ?_
  | refine And.intro (by walk_at "side") ?_)
local macro_rules | `(tactic| walk_at "step") => `(tactic| first
  | (refine isWE ?_; walk_at "we")
  | (refine isWT ?_; walk_at "wt")
  | (refine isWSs ?_; first | refine wss_nil ?_ | refine wss_one ?_ | refine wss_cons ?_)
  | (refine isWS ?_; walk_at "ws")
  | (refine isWDs ?_; first | refine wds_nil ?_ | refine wds_cons ?_)
  | (refine isWW ?_; first | refine ww_and1 ?_ | refine ww_or1 ?_ | refine ww_and ?_ | refine ww_or ?_)
  | refine allB_i fun _ _ _ _ _ => ?_
  | refine asI_i (allB_i fun _ _ _ _ _ => ?_)
  | (refine isWG ?_; first | walk_at "gi" | refine wg_tup rfl ?_ rfl)
  | (refine isWGs ?_; first | refine wgs_nil ?_ | refine wgs_consN ?_)
  | (refine isWO ?_; first | refine wo_none ?_ | refine wo_some ?_)
  | (refine isWA ?_; first | refine wa_nil ?_ | refine wa_cons ?_)
  | walk_at "l")
local macro_rules | `(tactic| walk_at "go") => `(tactic| repeat (walk_at "step"))
theorem cut_pre (xs : List D) (b : Nat) : Dl.cutD xs none (some (b : Int)) = xs.take b := by
  have h := cut_nat xs 0 b
  rw [show (some (((0 : Nat) : Int))) = some (0 : Int) from rfl] at h
  unfold Dl.cutD at h ⊢
  rw [HT.sIx_nat, HT.sIx_none, Nat.sub_zero, List.drop_zero]
  by_cases h2 : b ≤ xs.length
  · rw [Nat.min_eq_left h2]
  · rw [Nat.min_eq_right (by omega), List.take_length, List.take_of_length_le (by omega)]
theorem cut_post (xs : List D) (a : Nat) : Dl.cutD xs (some (a : Int)) none = xs.drop a := by
  unfold Dl.cutD
  rw [HT.sIx_nat, HT.sIx_none]
  by_cases h : a ≤ xs.length
  · rw [Nat.min_eq_left h, List.take_of_length_le (by rw [List.length_drop]; omega)]
  · rw [Nat.min_eq_right (by omega), List.drop_length, List.drop_of_length_le (by omega), List.take_nil]
/-- a run of places set anew -/
theorem put_run (xs ss : List D) (a b i : Nat) (hb : a ≤ b) (hl : ss.length = min b xs.length - a) (ha : a ≤ xs.length) : (xs.take a ++ ss ++ xs.drop b)[i]? = if a ≤ i ∧ i < b then ss[i - a]? else xs[i]? := by
  by_cases h1 : i < a
  · rw [if_neg (by omega), List.append_assoc, List.getElem?_append_left (by rw [List.length_take]; omega), List.getElem?_take_of_lt h1]
  · by_cases h2 : i < a + ss.length
    · rw [if_pos (by omega), List.getElem?_append_left (by rw [List.length_append, List.length_take]; omega), List.getElem?_append_right (by rw [List.length_take]; omega), List.length_take, Nat.min_eq_left ha]
    · rw [List.getElem?_append_right (by rw [List.length_append, List.length_take]; omega), List.length_append, List.length_take, Nat.min_eq_left ha, List.getElem?_drop]
      by_cases h3 : i < b
      · rw [if_pos (by omega), List.getElem?_eq_none (show ss.length ≤ i - a by omega), List.getElem?_eq_none (by omega)]
      · rw [if_neg (by omega)]
        by_cases h4 : b ≤ xs.length
        · rw [show b + (i - (a + ss.length)) = i by omega]
        · rw [List.getElem?_eq_none (by omega), List.getElem?_eq_none (by omega)]
end K07
namespace K07
open PySem PySem.Spec PyProof.Rows L2 Dl
local macro_rules | `(tactic| walk_at "v") => `(tactic| first
  | refine we_d (i := 0) rfl (vis3 rfl) rfl ?_ | refine we_o (i := 0) rfl (vis3 rfl) rfl ?_
  | refine we_d (i := 1) rfl (vis3 rfl) rfl ?_ | refine we_o (i := 1) rfl (vis3 rfl) rfl ?_
  | refine we_d (i := 2) rfl (vis3 rfl) rfl ?_ | refine we_o (i := 2) rfl (vis3 rfl) rfl ?_
  | refine we_d (i := 3) rfl (vis3 rfl) rfl ?_ | refine we_o (i := 3) rfl (vis3 rfl) rfl ?_
  | refine we_d (i := 4) rfl (vis3 rfl) rfl ?_ | refine we_o (i := 4) rfl (vis3 rfl) rfl ?_
  | refine we_d (i := 5) rfl (vis3 rfl) rfl ?_ | refine we_o (i := 5) rfl (vis3 rfl) rfl ?_
  | refine we_d (i := 6) rfl (vis3 rfl) rfl ?_ | refine we_o (i := 6) rfl (vis3 rfl) rfl ?_
  | refine we_d (i := 7) rfl (vis3 rfl) rfl ?_ | refine we_o (i := 7) rfl (vis3 rfl) rfl ?_
  | refine we_d (i := 8) rfl (vis3 rfl) rfl ?_ | refine we_o (i := 8) rfl (vis3 rfl) rfl ?_
  | refine we_d (i := 9) rfl (vis3 rfl) rfl ?_ | refine we_o (i := 9) rfl (vis3 rfl) rfl ?_
  | refine we_d (i := 10) rfl (vis3 rfl) rfl ?_ | refine we_o (i := 10) rfl (vis3 rfl) rfl ?_
  | refine we_d (i := 11) rfl (vis3 rfl) rfl ?_ | refine we_o (i := 11) rfl (vis3 rfl) rfl ?_
  | refine we_d (i := 12) rfl (vis3 rfl) rfl ?_ | refine we_o (i := 12) rfl (vis3 rfl) rfl ?_
  | refine we_d (i := 13) rfl (vis3 rfl) rfl ?_ | refine we_o (i := 13) rfl (vis3 rfl) rfl ?_)
local macro_rules | `(tactic| walk_at "si") => `(tactic| first
  | refine ws_set (i := 0) (by assumption) rfl (loc2 rfl) (by decide) ?_
  | refine ws_set (i := 1) (by assumption) rfl (loc2 rfl) (by decide) ?_
  | refine ws_set (i := 2) (by assumption) rfl (loc2 rfl) (by decide) ?_
  | refine ws_set (i := 3) (by assumption) rfl (loc2 rfl) (by decide) ?_
  | refine ws_set (i := 4) (by assumption) rfl (loc2 rfl) (by decide) ?_
  | refine ws_set (i := 5) (by assumption) rfl (loc2 rfl) (by decide) ?_
  | refine ws_set (i := 6) (by assumption) rfl (loc2 rfl) (by decide) ?_
  | refine ws_set (i := 7) (by assumption) rfl (loc2 rfl) (by decide) ?_
  | refine ws_set (i := 8) (by assumption) rfl (loc2 rfl) (by decide) ?_
  | refine ws_set (i := 9) (by assumption) rfl (loc2 rfl) (by decide) ?_
  | refine ws_set (i := 10) (by assumption) rfl (loc2 rfl) (by decide) ?_
  | refine ws_set (i := 11) (by assumption) rfl (loc2 rfl) (by decide) ?_
  | refine ws_set (i := 12) (by assumption) rfl (loc2 rfl) (by decide) ?_
  | refine ws_set (i := 13) (by assumption) rfl (loc2 rfl) (by decide) ?_)
local macro_rules | `(tactic| walk_at "gi") => `(tactic| first
  | refine wg_name (i := 0) (by assumption) rfl (loc2 rfl) (by decide) ?_
  | refine wg_name (i := 1) (by assumption) rfl (loc2 rfl) (by decide) ?_
  | refine wg_name (i := 2) (by assumption) rfl (loc2 rfl) (by decide) ?_
  | refine wg_name (i := 3) (by assumption) rfl (loc2 rfl) (by decide) ?_
  | refine wg_name (i := 4) (by assumption) rfl (loc2 rfl) (by decide) ?_
  | refine wg_name (i := 5) (by assumption) rfl (loc2 rfl) (by decide) ?_
  | refine wg_name (i := 6) (by assumption) rfl (loc2 rfl) (by decide) ?_
  | refine wg_name (i := 7) (by assumption) rfl (loc2 rfl) (by decide) ?_
  | refine wg_name (i := 8) (by assumption) rfl (loc2 rfl) (by decide) ?_
  | refine wg_name (i := 9) (by assumption) rfl (loc2 rfl) (by decide) ?_
  | refine wg_name (i := 10) (by assumption) rfl (loc2 rfl) (by decide) ?_
  | refine wg_name (i := 11) (by assumption) rfl (loc2 rfl) (by decide) ?_
  | refine wg_name (i := 12) (by assumption) rfl (loc2 rfl) (by decide) ?_
  | refine wg_name (i := 13) (by assumption) rfl (loc2 rfl) (by decide) ?_)
local macro_rules | `(tactic| walk_at "side") => `(tactic| first | exact rfl | exact Nat.le_trans (m := 1000) (Nat.le_of_ble_eq_true rfl) sz1000 | omega | decide | assumption)
local macro_rules | `(tactic| walk_at "we") => `(tactic| first
  | (refine isName ?_; walk_at "v")
  | refine we_int ?_ | refine we_bl ?_ | refine we_non ?_ | refine we_str ?_
  | refine we_ix ?_
  | refine we_addG ?_ | refine we_sub ?_ | refine we_mulG ?_ | refine we_div ?_ | refine we_mod ?_ | refine we_pow ?_ | refine we_neg ?_
  | refine we_gt ?_ | refine we_lt ?_ | refine we_ge ?_ | refine we_le ?_
  | refine we_tup ?_ | refine we_lst ?_ | refine we_dict0 ?_
  | refine we_len (by assumption) rfl ?_ | refine we_slG ?_ | refine we_eqG (by assumption) ?_ | refine we_neG (by assumption) ?_ | refine we_not ?_ | refine we_one ?_ | refine we_and ?_ | refine we_or ?_
  | refine we_call2 (by assumption) (by assumption) (by assumption) (by decide) rfl ?_)
local macro_rules | `(tactic| walk_at "wt") => `(tactic| first
  | refine wt_gt ?_ | refine wt_lt ?_ | refine wt_ge ?_ | refine wt_le ?_ | refine wt_not ?_
  | refine wt_eqG (by assumption) ?_ | refine wt_neG (by assumption) ?_ | refine wt_bool ?_ | refine wt_val ?_)
local macro_rules | `(tactic| walk_at "ws") => `(tactic| first
  | refine ws_ret ?_ | (refine isSet ?_; walk_at "si") | refine ws_if ?_
  | refine ws_append (pe_bm PySem.F.plainAttrs_list PySem.F.slot_list_append PySem.F.type_list_append mt_append pe_m (pa_cons pe_m pa_nil)) ?_
  | refine ws_continue ?_ | refine ws_break ?_ | refine ws_pass ?_)
local macro_rules | `(tactic| walk_at "l") => `(tactic| first
  | refine And.intro (Exists.intro _ rfl) ?_
  | refine And.intro trivial ?_
  | refine Exists.intro _ (And.intro rfl ?_)
  | refine Exists.intro _ (Exists.intro _ (And.intro rfl (And.intro rfl ?_)))
  | refine And.intro (And.intro (by walk_at "side") (by walk_at "side") : CDiv _ _) ?_
  | refine And.intro (.inl (And.intro (by walk_at "side") (by walk_at "side")) : CMul _ _) ?_
  | refine And.intro (.inr (And.intro (by walk_at "side") (by walk_at "side")) : CMul _ _) ?_
  | refine And.intro (And.intro (List.cons_ne_nil _ _) (And.intro (by walk_at "side") (And.intro (by walk_at "side") (by walk_at "side")))) ?_
  | refine And.intro (by walk_at "side") ?_)
local macro_rules | `(tactic| walk_at "step") => `(tactic| first
  | (refine isWE ?_; walk_at "we")
  | (refine isWT ?_; walk_at "wt")
  | (refine isWSs ?_; first | refine wss_nil ?_ | refine wss_one ?_ | refine wss_cons ?_)
  | (refine isWS ?_; walk_at "ws")
  | (refine isWDs ?_; first | refine wds_nil ?_ | refine wds_cons ?_)
  | (refine isWW ?_; first | refine ww_and1 ?_ | refine ww_or1 ?_ | refine ww_and ?_ | refine ww_or ?_)
  | refine allB_i fun _ _ _ _ _ => ?_
  | refine asI_i (allB_i fun _ _ _ _ _ => ?_)
  | (refine isWG ?_; first | walk_at "gi" | refine wg_tup rfl ?_ rfl)
  | (refine isWGs ?_; first | refine wgs_nil ?_ | refine wgs_consN ?_)
  | (refine isWO ?_; first | refine wo_none ?_ | refine wo_some ?_)
  | (refine isWA ?_; first | refine wa_nil ?_ | refine wa_cons ?_)
  | walk_at "l")
local macro_rules | `(tactic| walk_at "go") => `(tactic| repeat (walk_at "step"))
theorem page_cases {np nn : Nat} {p : Int} (h0 : 0 ≤ p) (h1 : p < manyE np nn) : p = 0 ∨ (∃ i : Nat, i < (nn + 4) / 4 ∧ p = ((1 + i : Nat) : Int)) ∨ ∃ i : Nat, i < np ∧ p = ((1 + (nn + 4) / 4 + i : Nat) : Int) := by
  rw [manyE_eq] at h1
  by_cases a : p = 0
  · exact .inl a
  · by_cases b : p ≤ ((nn : Int) + 4) / 4
    · exact .inr (.inl ⟨p.toNat - 1, by omega, by omega⟩)
    · exact .inr (.inr ⟨p.toNat - 1 - (nn + 4) / 4, by omega, by omega⟩)
theorem data_inj {a b : List D} {xs ys : List D} {i : Nat} (h1 : xs[i]? = some (.tuple a)) (h2 : ys[i]? = some (.tuple b)) (h : xs[i]? = ys[i]?) : a = b := by
  rw [h1, h2] at h
  exact PyData.tuple.inj (Option.some.inj h)
theorem with_page {np nn : Nat} {m : Im} (g : GI np nn m) {q : Int} (q0 : 0 ≤ q) (q1 : q < manyE np nn) {ss : List D} (hl : ss.length = (m.page q).length) {p : Int} (h0 : 0 ≤ p) (h1 : p < manyE np nn) : (m.with q ss).page p = if p = q then ss else m.page p := by
  have g' := g.with q0 q1 hl
  have zero : ∀ m : Im, m.page 0 = m.tk := fun _ => rfl
  have nl := g.nl
  have dl := g.dl
  rcases page_cases q0 q1 with rfl | ⟨j, hj, rfl⟩ | ⟨j, hj, rfl⟩
  · have em : m.with 0 ss = ⟨ss, m.ns, m.dt⟩ := if_pos rfl
    rcases page_cases h0 h1 with rfl | ⟨i, hi, rfl⟩ | ⟨i, hi, rfl⟩
    · rw [if_pos rfl, zero, em]
    · rw [if_neg (by omega), node_page g' hi, node_page g hi, em]
    · rw [if_neg (by omega)]
      exact data_inj (data_page g' hi) (data_page g hi) (by rw [em])
  · have em : m.with ((1 + j : Nat) : Int) ss = ⟨m.tk, m.ns.take (4 * j) ++ ss ++ m.ns.drop (4 * j + 4), m.dt⟩ := by
      unfold Im.with nodP
      rw [if_neg (by omega), nl, if_pos (by omega), show (((1 + j : Nat) : Int) - 1) * 4 = ((4 * j : Nat) : Int) by omega, show ((1 + j : Nat) : Int) * 4 = ((4 * j + 4 : Nat) : Int) by omega, cut_pre, cut_post]
    rw [node_page g hj, List.length_take, List.length_drop] at hl
    rcases page_cases h0 h1 with rfl | ⟨i, hi, rfl⟩ | ⟨i, hi, rfl⟩
    · rw [if_neg (by omega), zero, em, zero]
    · rw [node_page g' hi, node_page g hi, em]
      apply List.ext_getElem?
      intro t
      show ((((m.ns.take (4 * j) ++ ss ++ m.ns.drop (4 * j + 4))).drop (4 * i)).take 4)[t]? = _
      by_cases ht : t < 4
      · rw [List.getElem?_take_of_lt ht, List.getElem?_drop, put_run m.ns ss (4 * j) (4 * j + 4) _ (by omega) (by omega) (by omega)]
        by_cases e : i = j
        · subst e
          rw [if_pos (by omega), if_pos rfl, show 4 * i + t - 4 * i = t by omega]
        · rw [if_neg (by omega), if_neg (by omega), List.getElem?_take_of_lt ht, List.getElem?_drop]
      · rw [List.getElem?_eq_none (by rw [List.length_take]; omega)]
        split
        · rw [List.getElem?_eq_none (by omega)]
        · rw [List.getElem?_eq_none (by rw [List.length_take]; omega)]
    · rw [if_neg (by omega)]
      exact data_inj (data_page g' hi) (data_page g hi) (by rw [em])
  · have em : m.with ((1 + (nn + 4) / 4 + j : Nat) : Int) ss = ⟨m.tk, m.ns, m.dt.take j ++ [PyData.tuple ss] ++ m.dt.drop (j + 1)⟩ := by
      unfold Im.with nodP
      rw [if_neg (by omega), nl, if_neg (by omega), show ((1 + (nn + 4) / 4 + j : Nat) : Int) - 1 - (((nn + 1 : Nat) : Int) + 3) / 4 = ((j : Nat) : Int) by omega, show ((1 + (nn + 4) / 4 + j : Nat) : Int) - (((nn + 1 : Nat) : Int) + 3) / 4 = ((j + 1 : Nat) : Int) by omega, cut_pre, cut_post]
    rcases page_cases h0 h1 with rfl | ⟨i, hi, rfl⟩ | ⟨i, hi, rfl⟩
    · rw [if_neg (by omega), zero, em, zero]
    · rw [if_neg (by omega), node_page g' hi, node_page g hi, em]
    · have h2 := data_page g' hi
      rw [em] at h2
      have h3 : (m.dt.take j ++ [PyData.tuple ss] ++ m.dt.drop (j + 1))[i]? = _ := h2
      rw [put_run m.dt [PyData.tuple ss] j (j + 1) i (by omega) (by rw [List.length_singleton]; omega) (by omega)] at h3
      rw [em]
      by_cases e : i = j
      · subst e
        rw [if_pos rfl]
        rw [if_pos (by omega), Nat.sub_self] at h3
        exact (PyData.tuple.inj (Option.some.inj h3)).symm
      · rw [if_neg (by omega)]
        rw [if_neg (by omega), data_page g hi] at h3
        exact (PyData.tuple.inj (Option.some.inj h3)).symm
theorem on_page {np nn : Nat} : ∀ (cs : List Chg) (m : Im), GI np nn m → (∀ c ∈ cs, GoodC np nn c) → ∀ p : Int, 0 ≤ p → p < manyE np nn → (onF m cs).page p = pgOn cs p (m.page p)
  | [], m, _, _, p, _, _ => rfl
  | c :: r, m, g, gc, p, h0, h1 => by
    have g1 := gc c List.mem_cons_self
    have e := with_page g g1.a0 g1.a1 (ss := putF (m.page c.at_) c.puts) (putF_len _ _) h0 h1
    have ih := on_page r (m.put c) (g.put g1) (fun d hd => gc d (List.mem_cons_of_mem _ hd)) p h0 h1
    show (onF (m.put c) r).page p = pgOn r p (if c.at_ = p then putF (m.page p) c.puts else m.page p)
    rw [ih, show (m.put c).page p = _ from e]
    by_cases z : p = c.at_
    · subst z
      rw [if_pos rfl]
    · rw [if_neg z, if_neg (fun y => z y.symm)]
/-- what is put on is what is due -/
theorem on_due {np nn : Nat} {m : Im} (g : GI np nn m) {cs : List Chg} (gc : ∀ c ∈ cs, GoodC np nn c) : (onF m cs).d = dueF nn np m cs := by
  rw [rejoin (g.on gc)]
  have e : foundF (onF m cs) [] (manyE np nn).toNat = foundF m cs (manyE np nn).toNat := by
    unfold foundF
    apply List.map_congr_left
    intro i hi
    have := List.mem_range.mp hi
    exact on_page cs m g gc (i : Int) (by omega) (by omega)
  unfold dueF
  rw [e]
end K07
namespace K07
open PySem PySem.Spec PyProof.Rows L2 Dl
local macro_rules | `(tactic| walk_at "v") => `(tactic| first
  | refine we_d (i := 0) rfl (vis3 rfl) rfl ?_ | refine we_o (i := 0) rfl (vis3 rfl) rfl ?_
  | refine we_d (i := 1) rfl (vis3 rfl) rfl ?_ | refine we_o (i := 1) rfl (vis3 rfl) rfl ?_
  | refine we_d (i := 2) rfl (vis3 rfl) rfl ?_ | refine we_o (i := 2) rfl (vis3 rfl) rfl ?_
  | refine we_d (i := 3) rfl (vis3 rfl) rfl ?_ | refine we_o (i := 3) rfl (vis3 rfl) rfl ?_
  | refine we_d (i := 4) rfl (vis3 rfl) rfl ?_ | refine we_o (i := 4) rfl (vis3 rfl) rfl ?_
  | refine we_d (i := 5) rfl (vis3 rfl) rfl ?_ | refine we_o (i := 5) rfl (vis3 rfl) rfl ?_
  | refine we_d (i := 6) rfl (vis3 rfl) rfl ?_ | refine we_o (i := 6) rfl (vis3 rfl) rfl ?_
  | refine we_d (i := 7) rfl (vis3 rfl) rfl ?_ | refine we_o (i := 7) rfl (vis3 rfl) rfl ?_
  | refine we_d (i := 8) rfl (vis3 rfl) rfl ?_ | refine we_o (i := 8) rfl (vis3 rfl) rfl ?_
  | refine we_d (i := 9) rfl (vis3 rfl) rfl ?_ | refine we_o (i := 9) rfl (vis3 rfl) rfl ?_
  | refine we_d (i := 10) rfl (vis3 rfl) rfl ?_ | refine we_o (i := 10) rfl (vis3 rfl) rfl ?_
  | refine we_d (i := 11) rfl (vis3 rfl) rfl ?_ | refine we_o (i := 11) rfl (vis3 rfl) rfl ?_
  | refine we_d (i := 12) rfl (vis3 rfl) rfl ?_ | refine we_o (i := 12) rfl (vis3 rfl) rfl ?_
  | refine we_d (i := 13) rfl (vis3 rfl) rfl ?_ | refine we_o (i := 13) rfl (vis3 rfl) rfl ?_)
local macro_rules | `(tactic| walk_at "si") => `(tactic| first
  | refine ws_set (i := 0) (by assumption) rfl (loc2 rfl) (by decide) ?_
  | refine ws_set (i := 1) (by assumption) rfl (loc2 rfl) (by decide) ?_
  | refine ws_set (i := 2) (by assumption) rfl (loc2 rfl) (by decide) ?_
  | refine ws_set (i := 3) (by assumption) rfl (loc2 rfl) (by decide) ?_
  | refine ws_set (i := 4) (by assumption) rfl (loc2 rfl) (by decide) ?_
  | refine ws_set (i := 5) (by assumption) rfl (loc2 rfl) (by decide) ?_
  | refine ws_set (i := 6) (by assumption) rfl (loc2 rfl) (by decide) ?_
  | refine ws_set (i := 7) (by assumption) rfl (loc2 rfl) (by decide) ?_
  | refine ws_set (i := 8) (by assumption) rfl (loc2 rfl) (by decide) ?_
  | refine ws_set (i := 9) (by assumption) rfl (loc2 rfl) (by decide) ?_
  | refine ws_set (i := 10) (by assumption) rfl (loc2 rfl) (by decide) ?_
  | refine ws_set (i := 11) (by assumption) rfl (loc2 rfl) (by decide) ?_
  | refine ws_set (i := 12) (by assumption) rfl (loc2 rfl) (by decide) ?_
  | refine ws_set (i := 13) (by assumption) rfl (loc2 rfl) (by decide) ?_)
local macro_rules | `(tactic| walk_at "gi") => `(tactic| first
  | refine wg_name (i := 0) (by assumption) rfl (loc2 rfl) (by decide) ?_
  | refine wg_name (i := 1) (by assumption) rfl (loc2 rfl) (by decide) ?_
  | refine wg_name (i := 2) (by assumption) rfl (loc2 rfl) (by decide) ?_
  | refine wg_name (i := 3) (by assumption) rfl (loc2 rfl) (by decide) ?_
  | refine wg_name (i := 4) (by assumption) rfl (loc2 rfl) (by decide) ?_
  | refine wg_name (i := 5) (by assumption) rfl (loc2 rfl) (by decide) ?_
  | refine wg_name (i := 6) (by assumption) rfl (loc2 rfl) (by decide) ?_
  | refine wg_name (i := 7) (by assumption) rfl (loc2 rfl) (by decide) ?_
  | refine wg_name (i := 8) (by assumption) rfl (loc2 rfl) (by decide) ?_
  | refine wg_name (i := 9) (by assumption) rfl (loc2 rfl) (by decide) ?_
  | refine wg_name (i := 10) (by assumption) rfl (loc2 rfl) (by decide) ?_
  | refine wg_name (i := 11) (by assumption) rfl (loc2 rfl) (by decide) ?_
  | refine wg_name (i := 12) (by assumption) rfl (loc2 rfl) (by decide) ?_
  | refine wg_name (i := 13) (by assumption) rfl (loc2 rfl) (by decide) ?_)
local macro_rules | `(tactic| walk_at "side") => `(tactic| first | exact rfl | exact Nat.le_trans (m := 1000) (Nat.le_of_ble_eq_true rfl) sz1000 | omega | decide | assumption)
local macro_rules | `(tactic| walk_at "we") => `(tactic| first
  | (refine isName ?_; walk_at "v")
  | refine we_int ?_ | refine we_bl ?_ | refine we_non ?_ | refine we_str ?_
  | refine we_ix ?_
  | refine we_addG ?_ | refine we_sub ?_ | refine we_mulG ?_ | refine we_div ?_ | refine we_mod ?_ | refine we_pow ?_ | refine we_neg ?_
  | refine we_gt ?_ | refine we_lt ?_ | refine we_ge ?_ | refine we_le ?_
  | refine we_tup ?_ | refine we_lst ?_ | refine we_dict0 ?_
  | refine we_len (by assumption) rfl ?_ | refine we_slG ?_ | refine we_eqG (by assumption) ?_ | refine we_neG (by assumption) ?_ | refine we_not ?_ | refine we_one ?_ | refine we_and ?_ | refine we_or ?_
  | refine we_call2 (by assumption) (by assumption) (by assumption) (by decide) rfl ?_)
local macro_rules | `(tactic| walk_at "wt") => `(tactic| first
  | refine wt_gt ?_ | refine wt_lt ?_ | refine wt_ge ?_ | refine wt_le ?_ | refine wt_not ?_
  | refine wt_eqG (by assumption) ?_ | refine wt_neG (by assumption) ?_ | refine wt_bool ?_ | refine wt_val ?_)
local macro_rules | `(tactic| walk_at "ws") => `(tactic| first
  | refine ws_ret ?_ | (refine isSet ?_; walk_at "si") | refine ws_if ?_
  | refine ws_append (pe_bm PySem.F.plainAttrs_list PySem.F.slot_list_append PySem.F.type_list_append mt_append pe_m (pa_cons pe_m pa_nil)) ?_
  | refine ws_continue ?_ | refine ws_break ?_ | refine ws_pass ?_)
local macro_rules | `(tactic| walk_at "l") => `(tactic| first
  | refine And.intro (Exists.intro _ rfl) ?_
  | refine And.intro trivial ?_
  | refine Exists.intro _ (And.intro rfl ?_)
  | refine Exists.intro _ (Exists.intro _ (And.intro rfl (And.intro rfl ?_)))
  | refine And.intro (And.intro (by walk_at "side") (by walk_at "side") : CDiv _ _) ?_
  | refine And.intro (.inl (And.intro (by walk_at "side") (by walk_at "side")) : CMul _ _) ?_
  | refine And.intro (.inr (And.intro (by walk_at "side") (by walk_at "side")) : CMul _ _) ?_
  | refine And.intro (And.intro (List.cons_ne_nil _ _) (And.intro (by walk_at "side") (And.intro (by walk_at "side") (by walk_at "side")))) ?_
  | refine And.intro (by walk_at "side") ?_)
local macro_rules | `(tactic| walk_at "step") => `(tactic| first
  | (refine isWE ?_; walk_at "we")
  | (refine isWT ?_; walk_at "wt")
  | (refine isWSs ?_; first | refine wss_nil ?_ | refine wss_one ?_ | refine wss_cons ?_)
  | (refine isWS ?_; walk_at "ws")
  | (refine isWDs ?_; first | refine wds_nil ?_ | refine wds_cons ?_)
  | (refine isWW ?_; first | refine ww_and1 ?_ | refine ww_or1 ?_ | refine ww_and ?_ | refine ww_or ?_)
  | refine allB_i fun _ _ _ _ _ => ?_
  | refine asI_i (allB_i fun _ _ _ _ _ => ?_)
  | (refine isWG ?_; first | walk_at "gi" | refine wg_tup rfl ?_ rfl)
  | (refine isWGs ?_; first | refine wgs_nil ?_ | refine wgs_consN ?_)
  | (refine isWO ?_; first | refine wo_none ?_ | refine wo_some ?_)
  | (refine isWA ?_; first | refine wa_nil ?_ | refine wa_cons ?_)
  | walk_at "l")
local macro_rules | `(tactic| walk_at "go") => `(tactic| repeat (walk_at "step"))
def L (y : D) : Prop := y.canLay0 = true ∧ y.depth ≤ 3
theorem cAll : ∀ xs : List D, (∀ x ∈ xs, x.canLay0 = true) → PyData.canLayAll0 xs = true
  | [], _ => rfl
  | x :: r, h => by
    show (x.canLay0 && PyData.canLayAll0 r) = true
    rw [h x List.mem_cons_self, cAll r fun y hy => h y (List.mem_cons_of_mem _ hy)]
    rfl
theorem dpAll (k : Nat) (xs : List D) (h : ∀ x ∈ xs, x.depth ≤ k) : PyData.depthAll xs ≤ k := by
  have := pAll id k xs h
  rwa [List.map_id] at this
theorem tupL {k : Nat} {xs : List D} (h : ∀ x ∈ xs, x.canLay0 = true ∧ x.depth ≤ k) : (PyData.tuple xs).canLay0 = true ∧ (PyData.tuple xs).depth ≤ k + 1 :=
  ⟨cAll xs fun x hx => (h x hx).1, Nat.succ_le_succ (dpAll k xs fun x hx => (h x hx).2)⟩
structure LI (m : Im) : Prop where
  t : ∀ x ∈ m.tk, L x
  n : ∀ x ∈ m.ns, L x
  d : ∀ x ∈ m.dt, ∃ ds : List D, x = .tuple ds ∧ ∀ y ∈ ds, L y
theorem LI.page {np nn : Nat} {m : Im} (l : LI m) (g : GI np nn m) {p : Int} (h0 : 0 ≤ p) (h1 : p < manyE np nn) : ∀ y ∈ m.page p, L y := by
  intro y hy
  rcases page_cases h0 h1 with rfl | ⟨i, hi, rfl⟩ | ⟨i, hi, rfl⟩
  · exact l.t y hy
  · rw [node_page g hi] at hy
    exact l.n y (List.mem_of_mem_drop (List.mem_of_mem_take hy))
  · obtain ⟨ds, e, h⟩ := l.d _ (List.mem_of_getElem? (data_page g hi))
    rw [PyData.tuple.inj e] at hy
    exact h y hy
theorem LI.with {m : Im} (l : LI m) (p : Int) {ss : List D} (h : ∀ y ∈ ss, L y) : LI (m.with p ss) := by
  have sub : ∀ (xs : List D) lo hi x, x ∈ Dl.cutD xs lo hi → x ∈ xs := fun xs lo hi x h => List.mem_of_mem_drop (List.mem_of_mem_take h)
  unfold Im.with
  split
  · exact ⟨h, l.n, l.d⟩
  · split
    · refine ⟨l.t, fun x hx => ?_, l.d⟩
      rcases List.mem_append.mp (show x ∈ _ ++ ss ++ _ from hx) with hx | hx
      · rcases List.mem_append.mp hx with hx | hx
        · exact l.n x (sub _ _ _ x hx)
        · exact h x hx
      · exact l.n x (sub _ _ _ x hx)
    · refine ⟨l.t, l.n, fun x hx => ?_⟩
      rcases List.mem_append.mp (show x ∈ _ ++ [PyData.tuple ss] ++ _ from hx) with hx | hx
      · rcases List.mem_append.mp hx with hx | hx
        · exact l.d x (sub _ _ _ x hx)
        · rw [List.mem_singleton] at hx
          exact ⟨ss, hx, h⟩
      · exact l.d x (sub _ _ _ x hx)
theorem putF_L : ∀ (ps : List (Int × Int)) (sl : List D), (∀ y ∈ sl, L y) → ∀ y ∈ putF sl ps, L y
  | [], _, h => h
  | p :: r, sl, h => putF_L r (sl.set p.1.toNat (.int p.2)) fun y hy => by
    rcases List.mem_or_eq_of_mem_set hy with hy | rfl
    · exact h y hy
    · exact ⟨rfl, Nat.zero_le _⟩
theorem LI.on {np nn : Nat} : ∀ (cs : List Chg) (m : Im), LI m → GI np nn m → (∀ c ∈ cs, GoodC np nn c) → LI (onF m cs)
  | [], _, l, _, _ => l
  | c :: r, m, l, g, gc => by
    have g1 := gc c List.mem_cons_self
    exact LI.on r (m.put c) (l.with _ (putF_L _ _ (l.page g g1.a0 g1.a1))) (g.put g1) fun d hd => gc d (List.mem_cons_of_mem _ hd)
theorem li_E (np nn : Nat) : LI (imE np nn) := by
  refine ⟨fun x hx => ?_, fun x hx => ?_, fun x hx => ?_⟩
  · rw [List.eq_of_mem_replicate hx]
    exact ⟨rfl, Nat.zero_le _⟩
  · rcases List.mem_cons.mp (show x ∈ PyData.tuple [.str "folder", .int 1, .tuple []] :: List.replicate nn .none from hx) with rfl | hx
    · exact ⟨by decide +kernel, by decide +kernel⟩
    · rw [List.eq_of_mem_replicate hx]
      exact ⟨rfl, Nat.zero_le _⟩
  · rw [List.eq_of_mem_replicate hx]
    exact ⟨_, rfl, fun y hy => by rw [List.eq_of_mem_replicate hy]; exact ⟨rfl, Nat.zero_le _⟩⟩
theorem LI.shaped {m : Im} (l : LI m) : SeqAt.shaped m.d = true := by
  have h : m.d.canLay0 = true ∧ m.d.depth ≤ 6 := tupL (k := 5) fun x hx => by
    rcases List.mem_cons.mp hx with rfl | hx
    · exact ⟨(tupL l.t).1, Nat.le_trans (tupL l.t).2 (by decide)⟩
    rcases List.mem_cons.mp hx with rfl | hx
    · exact ⟨(tupL l.n).1, Nat.le_trans (tupL l.n).2 (by decide)⟩
    rcases List.mem_cons.mp hx with rfl | hx
    · have := tupL (k := 4) (xs := m.dt) fun x hx => by
        obtain ⟨ds, rfl, hd⟩ := l.d x hx
        exact tupL hd
      exact this
    · cases hx
  show (m.d.canLay0 && decide (m.d.depth ≤ 64)) = true
  rw [h.1, decide_eq_true (Nat.le_trans h.2 (by decide))]
  rfl
theorem gEq_same {R2 : DS} {x y : SV} {d : D} {k : Bool → Prop} (h1 : vD R2 x = some d) (h2 : vD R2 y = some d) (h : SeqAt.shaped d = true) (q : k true) : gEq R2 x y k :=
  ⟨d, d, h1, h2, h, h, by rw [show PyData.eqv d d = true from SeqAt.eqv_refl d (SeqAt.canLay_of_shaped h)]; exact q⟩
end K07
namespace K07
open PySem PySem.Spec PyProof.Rows L2 Dl
local macro_rules | `(tactic| walk_at "v") => `(tactic| first
  | refine we_d (i := 0) rfl (vis3 rfl) rfl ?_ | refine we_o (i := 0) rfl (vis3 rfl) rfl ?_
  | refine we_d (i := 1) rfl (vis3 rfl) rfl ?_ | refine we_o (i := 1) rfl (vis3 rfl) rfl ?_
  | refine we_d (i := 2) rfl (vis3 rfl) rfl ?_ | refine we_o (i := 2) rfl (vis3 rfl) rfl ?_
  | refine we_d (i := 3) rfl (vis3 rfl) rfl ?_ | refine we_o (i := 3) rfl (vis3 rfl) rfl ?_
  | refine we_d (i := 4) rfl (vis3 rfl) rfl ?_ | refine we_o (i := 4) rfl (vis3 rfl) rfl ?_
  | refine we_d (i := 5) rfl (vis3 rfl) rfl ?_ | refine we_o (i := 5) rfl (vis3 rfl) rfl ?_
  | refine we_d (i := 6) rfl (vis3 rfl) rfl ?_ | refine we_o (i := 6) rfl (vis3 rfl) rfl ?_
  | refine we_d (i := 7) rfl (vis3 rfl) rfl ?_ | refine we_o (i := 7) rfl (vis3 rfl) rfl ?_
  | refine we_d (i := 8) rfl (vis3 rfl) rfl ?_ | refine we_o (i := 8) rfl (vis3 rfl) rfl ?_
  | refine we_d (i := 9) rfl (vis3 rfl) rfl ?_ | refine we_o (i := 9) rfl (vis3 rfl) rfl ?_
  | refine we_d (i := 10) rfl (vis3 rfl) rfl ?_ | refine we_o (i := 10) rfl (vis3 rfl) rfl ?_
  | refine we_d (i := 11) rfl (vis3 rfl) rfl ?_ | refine we_o (i := 11) rfl (vis3 rfl) rfl ?_
  | refine we_d (i := 12) rfl (vis3 rfl) rfl ?_ | refine we_o (i := 12) rfl (vis3 rfl) rfl ?_
  | refine we_d (i := 13) rfl (vis3 rfl) rfl ?_ | refine we_o (i := 13) rfl (vis3 rfl) rfl ?_)
local macro_rules | `(tactic| walk_at "si") => `(tactic| first
  | refine ws_set (i := 0) (by assumption) rfl (loc2 rfl) (by decide) ?_
  | refine ws_set (i := 1) (by assumption) rfl (loc2 rfl) (by decide) ?_
  | refine ws_set (i := 2) (by assumption) rfl (loc2 rfl) (by decide) ?_
  | refine ws_set (i := 3) (by assumption) rfl (loc2 rfl) (by decide) ?_
  | refine ws_set (i := 4) (by assumption) rfl (loc2 rfl) (by decide) ?_
  | refine ws_set (i := 5) (by assumption) rfl (loc2 rfl) (by decide) ?_
  | refine ws_set (i := 6) (by assumption) rfl (loc2 rfl) (by decide) ?_
  | refine ws_set (i := 7) (by assumption) rfl (loc2 rfl) (by decide) ?_
  | refine ws_set (i := 8) (by assumption) rfl (loc2 rfl) (by decide) ?_
  | refine ws_set (i := 9) (by assumption) rfl (loc2 rfl) (by decide) ?_
  | refine ws_set (i := 10) (by assumption) rfl (loc2 rfl) (by decide) ?_
  | refine ws_set (i := 11) (by assumption) rfl (loc2 rfl) (by decide) ?_
  | refine ws_set (i := 12) (by assumption) rfl (loc2 rfl) (by decide) ?_
  | refine ws_set (i := 13) (by assumption) rfl (loc2 rfl) (by decide) ?_)
local macro_rules | `(tactic| walk_at "gi") => `(tactic| first
  | refine wg_name (i := 0) (by assumption) rfl (loc2 rfl) (by decide) ?_
  | refine wg_name (i := 1) (by assumption) rfl (loc2 rfl) (by decide) ?_
  | refine wg_name (i := 2) (by assumption) rfl (loc2 rfl) (by decide) ?_
  | refine wg_name (i := 3) (by assumption) rfl (loc2 rfl) (by decide) ?_
  | refine wg_name (i := 4) (by assumption) rfl (loc2 rfl) (by decide) ?_
  | refine wg_name (i := 5) (by assumption) rfl (loc2 rfl) (by decide) ?_
  | refine wg_name (i := 6) (by assumption) rfl (loc2 rfl) (by decide) ?_
  | refine wg_name (i := 7) (by assumption) rfl (loc2 rfl) (by decide) ?_
  | refine wg_name (i := 8) (by assumption) rfl (loc2 rfl) (by decide) ?_
  | refine wg_name (i := 9) (by assumption) rfl (loc2 rfl) (by decide) ?_
  | refine wg_name (i := 10) (by assumption) rfl (loc2 rfl) (by decide) ?_
  | refine wg_name (i := 11) (by assumption) rfl (loc2 rfl) (by decide) ?_
  | refine wg_name (i := 12) (by assumption) rfl (loc2 rfl) (by decide) ?_
  | refine wg_name (i := 13) (by assumption) rfl (loc2 rfl) (by decide) ?_)
local macro_rules | `(tactic| walk_at "side") => `(tactic| first | exact rfl | exact Nat.le_trans (m := 1000) (Nat.le_of_ble_eq_true rfl) sz1000 | omega | decide | assumption)
local macro_rules | `(tactic| walk_at "we") => `(tactic| first
  | (refine isName ?_; walk_at "v")
  | refine we_int ?_ | refine we_bl ?_ | refine we_non ?_ | refine we_str ?_
  | refine we_ix ?_
  | refine we_addG ?_ | refine we_sub ?_ | refine we_mulG ?_ | refine we_div ?_ | refine we_mod ?_ | refine we_pow ?_ | refine we_neg ?_
  | refine we_gt ?_ | refine we_lt ?_ | refine we_ge ?_ | refine we_le ?_
  | refine we_tup ?_ | refine we_lst ?_ | refine we_dict0 ?_
  | refine we_len (by assumption) rfl ?_ | refine we_slG ?_ | refine we_eqG (by assumption) ?_ | refine we_neG (by assumption) ?_ | refine we_not ?_ | refine we_one ?_ | refine we_and ?_ | refine we_or ?_
  | refine we_call2 (by assumption) (by assumption) (by assumption) (by decide) rfl ?_)
local macro_rules | `(tactic| walk_at "wt") => `(tactic| first
  | refine wt_gt ?_ | refine wt_lt ?_ | refine wt_ge ?_ | refine wt_le ?_ | refine wt_not ?_
  | refine wt_eqG (by assumption) ?_ | refine wt_neG (by assumption) ?_ | refine wt_bool ?_ | refine wt_val ?_)
local macro_rules | `(tactic| walk_at "ws") => `(tactic| first
  | refine ws_ret ?_ | (refine isSet ?_; walk_at "si") | refine ws_if ?_
  | refine ws_append (pe_bm PySem.F.plainAttrs_list PySem.F.slot_list_append PySem.F.type_list_append mt_append pe_m (pa_cons pe_m pa_nil)) ?_
  | refine ws_continue ?_ | refine ws_break ?_ | refine ws_pass ?_)
local macro_rules | `(tactic| walk_at "l") => `(tactic| first
  | refine And.intro (Exists.intro _ rfl) ?_
  | refine And.intro trivial ?_
  | refine Exists.intro _ (And.intro rfl ?_)
  | refine Exists.intro _ (Exists.intro _ (And.intro rfl (And.intro rfl ?_)))
  | refine And.intro (And.intro (by walk_at "side") (by walk_at "side") : CDiv _ _) ?_
  | refine And.intro (.inl (And.intro (by walk_at "side") (by walk_at "side")) : CMul _ _) ?_
  | refine And.intro (.inr (And.intro (by walk_at "side") (by walk_at "side")) : CMul _ _) ?_
  | refine And.intro (And.intro (List.cons_ne_nil _ _) (And.intro (by walk_at "side") (And.intro (by walk_at "side") (by walk_at "side")))) ?_
  | refine And.intro (by walk_at "side") ?_)
local macro_rules | `(tactic| walk_at "step") => `(tactic| first
  | (refine isWE ?_; walk_at "we")
  | (refine isWT ?_; walk_at "wt")
  | (refine isWSs ?_; first | refine wss_nil ?_ | refine wss_one ?_ | refine wss_cons ?_)
  | (refine isWS ?_; walk_at "ws")
  | (refine isWDs ?_; first | refine wds_nil ?_ | refine wds_cons ?_)
  | (refine isWW ?_; first | refine ww_and1 ?_ | refine ww_or1 ?_ | refine ww_and ?_ | refine ww_or ?_)
  | refine allB_i fun _ _ _ _ _ => ?_
  | refine asI_i (allB_i fun _ _ _ _ _ => ?_)
  | (refine isWG ?_; first | walk_at "gi" | refine wg_tup rfl ?_ rfl)
  | (refine isWGs ?_; first | refine wgs_nil ?_ | refine wgs_consN ?_)
  | (refine isWO ?_; first | refine wo_none ?_ | refine wo_some ?_)
  | (refine isWA ?_; first | refine wa_nil ?_ | refine wa_cons ?_)
  | walk_at "l")
local macro_rules | `(tactic| walk_at "go") => `(tactic| repeat (walk_at "step"))
set_option maxHeartbeats 2000000
abbrev NLaw : List Str := ["_law_script", "_law_k", "_law_pool_here", "_law_image_here", "_law_some", "_law_kept", "_law_due_here", "_law_cut"]
theorem scLaw : FnScope NLaw ["_law_script"] (defScope (topS 25)) := ⟨rfl, rfl, rfl, by decide +kernel, rfl, by decide +kernel, by decide +kernel⟩
section
variable {X : Cx} {P : List Nat} {R : DS} {a b : Expr} {pos : Pos} {Q : SV → DS → Prop}
theorem we_min2 {p : Pos} (hc : X.calm = true) (hm : X.mg "min" = none) (hg : Gl X "min") (h : WE X P a R fun x R1 => asI x fun i => WE X P b R1 fun y R2 => asI y fun j => Q (.d (.int (if j < i then j else i))) R2)
    (he : starEach [a, b] X.env = (false, eval a X.env) :: starEach [b] X.env := by rfl) (he2 : starEach [b] X.env = (false, eval b X.env) :: starEach [] X.env := by rfl) (hpl : (backTo pos (starEach [b] X.env)).any (·.1) = false := by rfl) : WE X P (.Call (.Name "min" p) [a, b] [] pos) R Q :=
  .of (pe_callB (call_min2 hc) hg hm (by decide +kernel) (pa_cons pe_m (pa_cons pe_m pa_nil he2) he) (by decide) (by decide) he hpl) fun F σ Hd H w => h.use w fun Hd1 R1 x v H1 e1 w1 r1 q1 => by
    obtain ⟨i, rfl, q1⟩ := q1.elim
    cases (show Dp _ _ v (.int i) from r1)
    exact q1.use w1 fun Hd2 R2 y u H2 e2 w2 r2 q2 => by
      obtain ⟨j, rfl, q⟩ := q2.elim
      cases (show Dp _ _ u (.int j) from r2)
      exact ⟨i, j, rfl, .same (e1.trans e2) (.here w2 (show Rp _ _ _ _ _ _ (.d (.int (if j < i then j else i))) _ from .int _) q)⟩
end
theorem eqG_str {R2 : DS} {k : Bool → Prop} (x : Str) (q : k true) : eqG R2 (.d (.str x)) (.d (.str x)) k := by
  show k (decide (x = x))
  rw [decide_eq_true rfl]
  exact q
section
variable {Pg : Program} {w : World} {K : PySem.W.Frag} {mg : Str → Option Value} {base : Heap} {k : Nat} {x qual : Str} {st : Stmt} {f : Addr} {fd : FuncData} {N ps : List Str} {S : SpD}
/-- as can_def, of the def that the row calls -/
theorem fn_def (Fu : Fun K x qual st f fd) (Sc : FnScope N ps (defScope st)) (hN : ps.length ≤ N.length) (hlen : ∀ R Q, S R Q → R.length = ps.length)
    (body : ∀ (cdv : Value) (A : Around) (outer : List Env) (s : Shared) (H : Hp) (E : XK), A.guards = some [] → Room k (A.deeper (envOfC qual (defScope st) s.heap.objs.size f cdv)) → ∀ R Q, S R Q →
      WSs (cxOf CX0 Pg w K mg base N qual (defScope st) f cdv A outer s H E).nox (ownIx R) (defBody st) (R ++ List.replicate (N.length - R.length) .no) (bodyEnds R.length Q)) : FnG Pg w K mg base CX0 (k + 1) f fd ps (liftS K S) := by
  refine fnG_of Fu Sc (fun vs H Q E h => ?_) (fun cdv A outer s H vs Q E hgd hr h => ?_)
  · obtain ⟨F, Hd, R, w, q⟩ := h
    have := w.len
    rw [List.length_map] at this
    rw [← this]
    exact hlen R _ q
  · have g := def_run (X := (cxOf CX0 Pg w K mg base N qual (defScope st) f cdv A outer s H E).nox) (N := N) (st := st) (fun R Q h => by rw [hlen R Q h]; exact hN) (body cdv A outer s H E hgd hr) (vs := vs) (H := H) (Q := Q) h
    exact TSsm.of (PSs.nox pss_m) g
end
local macro_rules | `(tactic| walk_at "we") => `(tactic| first
  | refine we_max2 rfl (by assumption) rfl ?_
  | refine we_min2 rfl (by assumption) rfl ?_
  | refine we_repr (by assumption) (by assumption) (by assumption) rfl ?_)
theorem sh_sing {d : D} (s : d.showable = true) (h : d.hasDict = false) (p : d.depth ≤ 2) (l : d.shown.length ≤ 2000) : Shows d 2 2000 := ⟨s, h, p, l⟩
theorem sh_im {np nn : Nat} (hs : Sizes np nn) : Shows (imgE np nn) 4 200000 := by
  obtain ⟨⟨_, h2⟩, _, h4⟩ := hs
  have b : Shows (.bool false) 2 2000 := sh_sing rfl rfl (by decide) (by decide +kernel)
  have o : Shows .none 1 1990 := ⟨rfl, rfl, by decide, by decide +kernel⟩
  have f : Shows (.tuple [.str "folder", .int 1, .tuple []]) 2 2000 := sh_sing (by decide +kernel) (by decide +kernel) (by decide +kernel) (by decide +kernel)
  refine (sh_tup0 3 50000 3 _ (Nat.le_refl _) fun x hx => ?_).up (Nat.le_refl _) (by decide)
  rcases List.mem_cons.mp hx with rfl | hx
  · exact (sh_tup0 2 2000 5 _ (by unfold tkE; rw [List.length_replicate]; omega) fun x hx => by rw [List.eq_of_mem_replicate hx]; exact b).up (by decide) (by decide)
  rcases List.mem_cons.mp hx with rfl | hx
  · refine (sh_tup0 2 2000 8 _ (by unfold nsE; rw [List.length_cons, List.length_replicate]; omega) fun x hx => ?_).up (by decide) (by decide)
    rcases List.mem_cons.mp hx with rfl | hx
    · exact f
    · rw [List.eq_of_mem_replicate hx]
      exact o.up (by decide) (by decide)
  rcases List.mem_cons.mp hx with rfl | hx
  · refine (sh_tup0 2 9969 5 _ (by unfold dtE; rw [List.length_replicate]; omega) fun x hx => ?_).up (by decide) (by decide)
    rw [List.eq_of_mem_replicate hx]
    exact (sh_tup0 1 1990 5 _ (by rw [List.length_replicate]; omega) fun y hy => by rw [List.eq_of_mem_replicate hy]; exact o).up (by decide) (by decide)
  · cases hx
theorem sh_both {np nn : Nat} {cs : List Chg} (hs : Sizes np nn) (g : GoodCs np nn cs) : Shows (.list [imgE np nn, csD cs]) 5 10000010 := by
  have h := sh_lst id 4 5000000 2 [imgE np nn, csD cs] (Nat.le_refl _) fun x hx => by
    rcases List.mem_cons.mp hx with rfl | hx
    · exact (sh_im hs).up (by decide) (by decide)
    rcases List.mem_cons.mp hx with rfl | hx
    · exact sh_cs g
    · cases hx
  exact h.up (by decide) (by decide)
section
variable {Pg : Program} {w : World} {K : PySem.W.Frag} {mg : Str → Option Value} {base : Heap}
def sLaw : SpD := fun R Q => ∃ ns : List Int, R = [.d (.list (ns.map .int))] ∧ ns.length ≤ 63 ∧ ∀ R', Q (.d (.bool true)) R'
theorem ok_law {f : Addr} {fd : FuncData} (F : Fun K "law" "law" (topS 25) f fd) (ml : mg "len" = none) (mr : mg "range" = none) (mx : mg "max" = none) (mn : mg "min" = none) (mp : mg "repr" = none)
    (cPut : Can Pg w K mg base 5 "put_on" sPut) (cPool : Can Pg w K mg base 1 "_law_pool" sPool) (cDraw : Can Pg w K mg base 1 "_law_draw" sDraw) (cImage : Can Pg w K mg base 2 "_law_image" sImage) (cChg : Can Pg w K mg base 2 "_law_changes" sChg) (cDue : Can Pg w K mg base 2 "_law_due" sDue) : FnG Pg w K mg base CX0 6 f fd ["_law_script"] (liftS K sLaw) := by
  refine fn_def F scLaw (by decide) (fun R Q h => ?_) (fun cdv A outer s H E hgd hr R Q h => ?_)
  · obtain ⟨a, rfl, _⟩ := h
    rfl
  · obtain ⟨ns, rfl, hn, q⟩ := h
    show WSs _ [] _ [.d (.list (ns.map .int)), .no, .no, .no, .no, .no, .no, .no] _
    have nd : NLaw.Nodup := scLaw.nd
    have hu100 : (A.deeper (envOfC "law" (defScope (topS 25)) s.heap.objs.size f cdv)).units + 100 < cLine := by have := hr.un; omega
    walk_at "go"
    refine ws_forR (js := [1]) PassesOwn.never rfl mr rfl ?_
    walk_at "go"
    rw [List.length_map]
    generalize hT : (if (if (ns.length : Int) < 20 then (ns.length : Int) else 20) > 1 then (if (ns.length : Int) < 20 then (ns.length : Int) else 20) else 1) = T
    have hT1 : 0 ≤ T ∧ T ≤ 20 := by
      subst hT
      split <;> split <;> omega
    refine ⟨fun i R' => ∃ s1 s2 s3 s4 s5 s6 s7, R' = [.d (.list (ns.map .int)), s1, s2, s3, s4, s5, s6, s7], ⟨_, _, _, _, _, _, _, rfl⟩, fun i R' hlt h => ?_, fun R' h => ?_⟩
    · obtain ⟨s1, s2, s3, s4, s5, s6, s7, rfl⟩ := h
      walk_at "gi"
      walk_at "go"
      refine ⟨ns, _, rfl, ⟨by omega, by omega⟩, fun a1 b1 hp1 => ⟨rfl, ?_⟩⟩
      walk_at "go"
      refine ⟨_, _, rfl, hp1, fun np nn a2 b2 g1 g2 hp2 => ⟨rfl, ?_⟩⟩
      have hs : Sizes np nn := ⟨g1, g2⟩
      have sM := fun (cs : List Chg) (gc : GoodCs np nn cs) => sh_both hs gc
      have gi := gi_E np nn
      walk_at "go"
      refine ⟨_, _, np, nn, rfl, ⟨hp2, hs⟩, fun a3 b3 cs hp3 gc => ⟨rfl, ?_⟩⟩
      have sh := sM cs gc
      refine wss_fz 4 (ds := cs.map chgD) rfl (by decide) ?_
      show WSs _ [] _ [.d (.list (ns.map .int)), .d (.int i), pool a3 b3, .d (imE np nn).d, .d (csD cs), s5, s6, s7] _
      walk_at "go"
      refine ⟨sh.s, sh.h, Nat.le_trans sh.p (by decide), Nat.le_trans sh.l (by decide), ?_⟩
      walk_at "go"
      refine ⟨np, nn, imE np nn, cs, rfl, ⟨hs, gi, gc.all⟩, ⟨rfl, ?_⟩⟩
      have due := fun {m : Im} (g : GI np nn m) {cs : List Chg} (h : ∀ c ∈ cs, GoodC np nn c) => on_due g h
      rw [← due gi gc.all]
      have hcl := gc.len
      walk_at "go"
      refine ⟨_, _, _, rfl, ⟨by omega, by rw [List.length_map]; omega⟩, hp3, fun r4 a4 b4 hr4 hp4 => ⟨rfl, ?_⟩⟩
      have lE := li_E np nn
      have sA : SeqAt.shaped (onF (imE np nn) cs).d = true := (lE.on cs _ gi gc.all).shaped
      walk_at "go"
      refine ⟨np, nn, imE np nn, cs, rfl, ⟨hs, gi, gc.all⟩, ⟨rfl, ?_⟩⟩
      walk_at "go"
      refine gEq_same (d := (onF (imE np nn) cs).d) ?_ ?_ sA ?_
      · rfl
      · rfl
      refine ⟨fun _ => ?_, fun z => Bool.noConfusion z⟩
      have hr4' : r4 = ((r4.toNat : Nat) : Int) := by omega
      have ec1 : Dl.cutD (cs.map chgD) none (some r4) = (cs.take r4.toNat).map chgD := by rw [hr4', cut_pre, List.map_take, ← hr4']
      have ec2 : Dl.cutD (cs.map chgD) (some r4) none = (cs.drop r4.toNat).map chgD := by rw [hr4', cut_post, List.map_drop, ← hr4']
      have gt : ∀ c ∈ cs.take r4.toNat, GoodC np nn c := fun c hc => gc.all c (List.mem_of_mem_take hc)
      have gd : ∀ c ∈ cs.drop r4.toNat, GoodC np nn c := fun c hc => gc.all c (List.mem_of_mem_drop hc)
      have eo : onF (onF (imE np nn) (cs.take r4.toNat)) (cs.drop r4.toNat) = onF (imE np nn) cs := by
        unfold onF
        rw [← List.foldl_append, List.take_append_drop]
      have g2 := gi.on gt
      walk_at "go"
      rw [ec1]
      walk_at "go"
      refine ⟨np, nn, imE np nn, _, rfl, ⟨hs, gi, gt⟩, ⟨rfl, ?_⟩⟩
      walk_at "go"
      rw [ec2]
      walk_at "go"
      refine ⟨np, nn, onF (imE np nn) (cs.take r4.toNat), _, rfl, ⟨hs, g2, gd⟩, ⟨rfl, ?_⟩⟩
      rw [eo]
      walk_at "go"
      refine gEq_same (d := (onF (imE np nn) cs).d) ?_ ?_ sA ?_
      · rfl
      · rfl
      refine ⟨fun z => Bool.noConfusion z, fun _ => ?_⟩
      walk_at "go"
      refine ⟨np, nn, imE np nn, [], rfl, ⟨hs, gi, fun c hc => by cases hc⟩, ⟨rfl, ?_⟩⟩
      walk_at "go"
      refine gEq_same (d := (imE np nn).d) ?_ ?_ lE.shaped ?_
      · rfl
      · rfl
      refine ⟨fun _ => ?_, fun z => Bool.noConfusion z⟩
      walk_at "go"
      refine ⟨sh.s, sh.h, Nat.le_trans sh.p (by decide), Nat.le_trans sh.l (by decide), ?_⟩
      walk_at "go"
      refine eqG_str (PyData.list [imgE np nn, csD cs]).shown ?_
      refine ⟨fun z => Bool.noConfusion z, fun _ => ?_⟩
      walk_at "go"
      exact ⟨_, _, _, _, _, _, _, rfl⟩
    · obtain ⟨s1, s2, s3, s4, s5, s6, s7, rfl⟩ := h
      walk_at "go"
      exact q _
end
end K07
namespace K07
open PySem PySem.Spec PyProof.Rows L2 Dl
local macro_rules | `(tactic| walk_at "v") => `(tactic| first
  | refine we_d (i := 0) rfl (vis3 rfl) rfl ?_ | refine we_o (i := 0) rfl (vis3 rfl) rfl ?_
  | refine we_d (i := 1) rfl (vis3 rfl) rfl ?_ | refine we_o (i := 1) rfl (vis3 rfl) rfl ?_
  | refine we_d (i := 2) rfl (vis3 rfl) rfl ?_ | refine we_o (i := 2) rfl (vis3 rfl) rfl ?_
  | refine we_d (i := 3) rfl (vis3 rfl) rfl ?_ | refine we_o (i := 3) rfl (vis3 rfl) rfl ?_
  | refine we_d (i := 4) rfl (vis3 rfl) rfl ?_ | refine we_o (i := 4) rfl (vis3 rfl) rfl ?_
  | refine we_d (i := 5) rfl (vis3 rfl) rfl ?_ | refine we_o (i := 5) rfl (vis3 rfl) rfl ?_
  | refine we_d (i := 6) rfl (vis3 rfl) rfl ?_ | refine we_o (i := 6) rfl (vis3 rfl) rfl ?_
  | refine we_d (i := 7) rfl (vis3 rfl) rfl ?_ | refine we_o (i := 7) rfl (vis3 rfl) rfl ?_
  | refine we_d (i := 8) rfl (vis3 rfl) rfl ?_ | refine we_o (i := 8) rfl (vis3 rfl) rfl ?_
  | refine we_d (i := 9) rfl (vis3 rfl) rfl ?_ | refine we_o (i := 9) rfl (vis3 rfl) rfl ?_
  | refine we_d (i := 10) rfl (vis3 rfl) rfl ?_ | refine we_o (i := 10) rfl (vis3 rfl) rfl ?_
  | refine we_d (i := 11) rfl (vis3 rfl) rfl ?_ | refine we_o (i := 11) rfl (vis3 rfl) rfl ?_
  | refine we_d (i := 12) rfl (vis3 rfl) rfl ?_ | refine we_o (i := 12) rfl (vis3 rfl) rfl ?_
  | refine we_d (i := 13) rfl (vis3 rfl) rfl ?_ | refine we_o (i := 13) rfl (vis3 rfl) rfl ?_)
local macro_rules | `(tactic| walk_at "si") => `(tactic| first
  | refine ws_set (i := 0) (by assumption) rfl (loc2 rfl) (by decide) ?_
  | refine ws_set (i := 1) (by assumption) rfl (loc2 rfl) (by decide) ?_
  | refine ws_set (i := 2) (by assumption) rfl (loc2 rfl) (by decide) ?_
  | refine ws_set (i := 3) (by assumption) rfl (loc2 rfl) (by decide) ?_
  | refine ws_set (i := 4) (by assumption) rfl (loc2 rfl) (by decide) ?_
  | refine ws_set (i := 5) (by assumption) rfl (loc2 rfl) (by decide) ?_
  | refine ws_set (i := 6) (by assumption) rfl (loc2 rfl) (by decide) ?_
  | refine ws_set (i := 7) (by assumption) rfl (loc2 rfl) (by decide) ?_
  | refine ws_set (i := 8) (by assumption) rfl (loc2 rfl) (by decide) ?_
  | refine ws_set (i := 9) (by assumption) rfl (loc2 rfl) (by decide) ?_
  | refine ws_set (i := 10) (by assumption) rfl (loc2 rfl) (by decide) ?_
  | refine ws_set (i := 11) (by assumption) rfl (loc2 rfl) (by decide) ?_
  | refine ws_set (i := 12) (by assumption) rfl (loc2 rfl) (by decide) ?_
  | refine ws_set (i := 13) (by assumption) rfl (loc2 rfl) (by decide) ?_)
local macro_rules | `(tactic| walk_at "gi") => `(tactic| first
  | refine wg_name (i := 0) (by assumption) rfl (loc2 rfl) (by decide) ?_
  | refine wg_name (i := 1) (by assumption) rfl (loc2 rfl) (by decide) ?_
  | refine wg_name (i := 2) (by assumption) rfl (loc2 rfl) (by decide) ?_
  | refine wg_name (i := 3) (by assumption) rfl (loc2 rfl) (by decide) ?_
  | refine wg_name (i := 4) (by assumption) rfl (loc2 rfl) (by decide) ?_
  | refine wg_name (i := 5) (by assumption) rfl (loc2 rfl) (by decide) ?_
  | refine wg_name (i := 6) (by assumption) rfl (loc2 rfl) (by decide) ?_
  | refine wg_name (i := 7) (by assumption) rfl (loc2 rfl) (by decide) ?_
  | refine wg_name (i := 8) (by assumption) rfl (loc2 rfl) (by decide) ?_
  | refine wg_name (i := 9) (by assumption) rfl (loc2 rfl) (by decide) ?_
  | refine wg_name (i := 10) (by assumption) rfl (loc2 rfl) (by decide) ?_
  | refine wg_name (i := 11) (by assumption) rfl (loc2 rfl) (by decide) ?_
  | refine wg_name (i := 12) (by assumption) rfl (loc2 rfl) (by decide) ?_
  | refine wg_name (i := 13) (by assumption) rfl (loc2 rfl) (by decide) ?_)
local macro_rules | `(tactic| walk_at "side") => `(tactic| first | exact rfl | exact Nat.le_trans (m := 1000) (Nat.le_of_ble_eq_true rfl) sz1000 | omega | decide | assumption)
local macro_rules | `(tactic| walk_at "we") => `(tactic| first
  | (refine isName ?_; walk_at "v")
  | refine we_int ?_ | refine we_bl ?_ | refine we_non ?_ | refine we_str ?_
  | refine we_ix ?_
  | refine we_addG ?_ | refine we_sub ?_ | refine we_mulG ?_ | refine we_div ?_ | refine we_mod ?_ | refine we_pow ?_ | refine we_neg ?_
  | refine we_gt ?_ | refine we_lt ?_ | refine we_ge ?_ | refine we_le ?_
  | refine we_tup ?_ | refine we_lst ?_ | refine we_dict0 ?_
  | refine we_len (by assumption) rfl ?_ | refine we_slG ?_ | refine we_eqG (by assumption) ?_ | refine we_neG (by assumption) ?_ | refine we_not ?_ | refine we_one ?_ | refine we_and ?_ | refine we_or ?_
  | refine we_call2 (by assumption) (by assumption) (by assumption) (by decide) rfl ?_)
local macro_rules | `(tactic| walk_at "wt") => `(tactic| first
  | refine wt_gt ?_ | refine wt_lt ?_ | refine wt_ge ?_ | refine wt_le ?_ | refine wt_not ?_
  | refine wt_eqG (by assumption) ?_ | refine wt_neG (by assumption) ?_ | refine wt_bool ?_ | refine wt_val ?_)
local macro_rules | `(tactic| walk_at "ws") => `(tactic| first
  | refine ws_ret ?_ | (refine isSet ?_; walk_at "si") | refine ws_if ?_
  | refine ws_append (pe_bm PySem.F.plainAttrs_list PySem.F.slot_list_append PySem.F.type_list_append mt_append pe_m (pa_cons pe_m pa_nil)) ?_
  | refine ws_continue ?_ | refine ws_break ?_ | refine ws_pass ?_)
local macro_rules | `(tactic| walk_at "l") => `(tactic| first
  | refine And.intro (Exists.intro _ rfl) ?_
  | refine And.intro trivial ?_
  | refine Exists.intro _ (And.intro rfl ?_)
  | refine Exists.intro _ (Exists.intro _ (And.intro rfl (And.intro rfl ?_)))
  | refine And.intro (And.intro (by walk_at "side") (by walk_at "side") : CDiv _ _) ?_
  | refine And.intro (.inl (And.intro (by walk_at "side") (by walk_at "side")) : CMul _ _) ?_
  | refine And.intro (.inr (And.intro (by walk_at "side") (by walk_at "side")) : CMul _ _) ?_
  | refine And.intro (And.intro (List.cons_ne_nil _ _) (And.intro (by walk_at "side") (And.intro (by walk_at "side") (by walk_at "side")))) ?_
  | refine And.intro (by walk_at "side") ?_)
local macro_rules | `(tactic| walk_at "step") => `(tactic| first
  | (refine isWE ?_; walk_at "we")
  | (refine isWT ?_; walk_at "wt")
  | (refine isWSs ?_; first | refine wss_nil ?_ | refine wss_one ?_ | refine wss_cons ?_)
  | (refine isWS ?_; walk_at "ws")
  | (refine isWDs ?_; first | refine wds_nil ?_ | refine wds_cons ?_)
  | (refine isWW ?_; first | refine ww_and1 ?_ | refine ww_or1 ?_ | refine ww_and ?_ | refine ww_or ?_)
  | refine allB_i fun _ _ _ _ _ => ?_
  | refine asI_i (allB_i fun _ _ _ _ _ => ?_)
  | (refine isWG ?_; first | walk_at "gi" | refine wg_tup rfl ?_ rfl)
  | (refine isWGs ?_; first | refine wgs_nil ?_ | refine wgs_consN ?_)
  | (refine isWO ?_; first | refine wo_none ?_ | refine wo_some ?_)
  | (refine isWA ?_; first | refine wa_nil ?_ | refine wa_cons ?_)
  | walk_at "l")
local macro_rules | `(tactic| walk_at "go") => `(tactic| repeat (walk_at "step"))
theorem all_mk {w : World} {K : PySem.W.Frag} {h : Heap} {mg : Str → Option Value} {fa : Addr} (X : K.In h) (G : h.Ns mainGlobals mg) (hfa : mg "law" = some (.ref fa))
    {f4 f5 f6 f7 f8 f9 f10 f11 f13 f15 f16 f17 f18 f19 f20 f24 f25 : Addr} {od4 an4 od5 an5 od6 an6 od7 an7 od8 an8 od9 an9 od10 an10 od11 an11 od13 an13 od15 an15 od16 an16 od17 an17 od18 an18 od19 an19 od20 an20 od24 an24 od25 an25 : Option Addr} {sl4 sl5 sl6 sl7 sl8 sl9 sl10 sl11 sl13 sl15 sl16 sl17 sl18 sl19 sl20 sl24 sl25 : Array (Option Value)} {oc4 kV4 dc4 pm4 cd4 ct4 oc5 kV5 dc5 pm5 cd5 ct5 oc6 kV6 dc6 pm6 cd6 ct6 oc7 kV7 dc7 pm7 cd7 ct7 oc8 kV8 dc8 pm8 cd8 ct8 oc9 kV9 dc9 pm9 cd9 ct9 oc10 kV10 dc10 pm10 cd10 ct10 oc11 kV11 dc11 pm11 cd11 ct11 oc13 kV13 dc13 pm13 cd13 ct13 oc15 kV15 dc15 pm15 cd15 ct15 oc16 kV16 dc16 pm16 cd16 ct16 oc17 kV17 dc17 pm17 cd17 ct17 oc18 kV18 dc18 pm18 cd18 ct18 oc19 kV19 dc19 pm19 cd19 ct19 oc20 kV20 dc20 pm20 cd20 ct20 oc24 kV24 dc24 pm24 cd24 ct24 oc25 kV25 dc25 pm25 cd25 ct25 u4 : Value}
    (a4 : PySem.W.nsIn K mainGlobals "is_whole" = some (some (.ref f4))) (l4 : K.lookup f4 = some ⟨oc4, od4, .func (PySem.W.fnOf "is_whole" "is_whole" (defArgs (topS 4)) (defBody (topS 4)) (defScope (topS 4)) .none kV4 dc4 pm4 an4 cd4 ct4), sl4⟩) (c4 : PySem.W.codeIn K cd4 "is_whole" = true) (k4 : PySem.W.keepIn K (.ref f4) = true)
    (a5 : PySem.W.nsIn K mainGlobals "is_within" = some (some (.ref f5))) (l5 : K.lookup f5 = some ⟨oc5, od5, .func (PySem.W.fnOf "is_within" "is_within" (defArgs (topS 5)) (defBody (topS 5)) (defScope (topS 5)) .none kV5 dc5 pm5 an5 cd5 ct5), sl5⟩) (c5 : PySem.W.codeIn K cd5 "is_within" = true) (k5 : PySem.W.keepIn K (.ref f5) = true)
    (a6 : PySem.W.nsIn K mainGlobals "disk_pages" = some (some (.ref f6))) (l6 : K.lookup f6 = some ⟨oc6, od6, .func (PySem.W.fnOf "disk_pages" "disk_pages" (defArgs (topS 6)) (defBody (topS 6)) (defScope (topS 6)) .none kV6 dc6 pm6 an6 cd6 ct6), sl6⟩) (c6 : PySem.W.codeIn K cd6 "disk_pages" = true) (k6 : PySem.W.keepIn K (.ref f6) = true)
    (a7 : PySem.W.nsIn K mainGlobals "slots_of" = some (some (.ref f7))) (l7 : K.lookup f7 = some ⟨oc7, od7, .func (PySem.W.fnOf "slots_of" "slots_of" (defArgs (topS 7)) (defBody (topS 7)) (defScope (topS 7)) .none kV7 dc7 pm7 an7 cd7 ct7), sl7⟩) (c7 : PySem.W.codeIn K cd7 "slots_of" = true) (k7 : PySem.W.keepIn K (.ref f7) = true)
    (a8 : PySem.W.nsIn K mainGlobals "with_slots" = some (some (.ref f8))) (l8 : K.lookup f8 = some ⟨oc8, od8, .func (PySem.W.fnOf "with_slots" "with_slots" (defArgs (topS 8)) (defBody (topS 8)) (defScope (topS 8)) .none kV8 dc8 pm8 an8 cd8 ct8), sl8⟩) (c8 : PySem.W.codeIn K cd8 "with_slots" = true) (k8 : PySem.W.keepIn K (.ref f8) = true)
    (a9 : PySem.W.nsIn K mainGlobals "_first_data_page" = some (some (.ref f9))) (l9 : K.lookup f9 = some ⟨oc9, od9, .func (PySem.W.fnOf "_first_data_page" "_first_data_page" (defArgs (topS 9)) (defBody (topS 9)) (defScope (topS 9)) .none kV9 dc9 pm9 an9 cd9 ct9), sl9⟩) (c9 : PySem.W.codeIn K cd9 "_first_data_page" = true) (k9 : PySem.W.keepIn K (.ref f9) = true)
    (a10 : PySem.W.nsIn K mainGlobals "_first_node" = some (some (.ref f10))) (l10 : K.lookup f10 = some ⟨oc10, od10, .func (PySem.W.fnOf "_first_node" "_first_node" (defArgs (topS 10)) (defBody (topS 10)) (defScope (topS 10)) .none kV10 dc10 pm10 an10 cd10 ct10), sl10⟩) (c10 : PySem.W.codeIn K cd10 "_first_node" = true) (k10 : PySem.W.keepIn K (.ref f10) = true)
    (a11 : PySem.W.nsIn K mainGlobals "_check_page" = some (some (.ref f11))) (l11 : K.lookup f11 = some ⟨oc11, od11, .func (PySem.W.fnOf "_check_page" "_check_page" (defArgs (topS 11)) (defBody (topS 11)) (defScope (topS 11)) .none kV11 dc11 pm11 an11 cd11 ct11), sl11⟩) (c11 : PySem.W.codeIn K cd11 "_check_page" = true) (k11 : PySem.W.keepIn K (.ref f11) = true)
    (a13 : PySem.W.nsIn K mainGlobals "put_on" = some (some (.ref f13))) (l13 : K.lookup f13 = some ⟨oc13, od13, .func (PySem.W.fnOf "put_on" "put_on" (defArgs (topS 13)) (defBody (topS 13)) (defScope (topS 13)) .none kV13 dc13 pm13 an13 cd13 ct13), sl13⟩) (c13 : PySem.W.codeIn K cd13 "put_on" = true) (k13 : PySem.W.keepIn K (.ref f13) = true)
    (a15 : PySem.W.nsIn K mainGlobals "_law_pool" = some (some (.ref f15))) (l15 : K.lookup f15 = some ⟨oc15, od15, .func (PySem.W.fnOf "_law_pool" "_law_pool" (defArgs (topS 15)) (defBody (topS 15)) (defScope (topS 15)) .none kV15 dc15 pm15 an15 cd15 ct15), sl15⟩) (c15 : PySem.W.codeIn K cd15 "_law_pool" = true) (k15 : PySem.W.keepIn K (.ref f15) = true)
    (a16 : PySem.W.nsIn K mainGlobals "_law_draw" = some (some (.ref f16))) (l16 : K.lookup f16 = some ⟨oc16, od16, .func (PySem.W.fnOf "_law_draw" "_law_draw" (defArgs (topS 16)) (defBody (topS 16)) (defScope (topS 16)) .none kV16 dc16 pm16 an16 cd16 ct16), sl16⟩) (c16 : PySem.W.codeIn K cd16 "_law_draw" = true) (k16 : PySem.W.keepIn K (.ref f16) = true)
    (a17 : PySem.W.nsIn K mainGlobals "_law_image" = some (some (.ref f17))) (l17 : K.lookup f17 = some ⟨oc17, od17, .func (PySem.W.fnOf "_law_image" "_law_image" (defArgs (topS 17)) (defBody (topS 17)) (defScope (topS 17)) .none kV17 dc17 pm17 an17 cd17 ct17), sl17⟩) (c17 : PySem.W.codeIn K cd17 "_law_image" = true) (k17 : PySem.W.keepIn K (.ref f17) = true)
    (a18 : PySem.W.nsIn K mainGlobals "_law_many" = some (some (.ref f18))) (l18 : K.lookup f18 = some ⟨oc18, od18, .func (PySem.W.fnOf "_law_many" "_law_many" (defArgs (topS 18)) (defBody (topS 18)) (defScope (topS 18)) .none kV18 dc18 pm18 an18 cd18 ct18), sl18⟩) (c18 : PySem.W.codeIn K cd18 "_law_many" = true) (k18 : PySem.W.keepIn K (.ref f18) = true)
    (a19 : PySem.W.nsIn K mainGlobals "_law_slots" = some (some (.ref f19))) (l19 : K.lookup f19 = some ⟨oc19, od19, .func (PySem.W.fnOf "_law_slots" "_law_slots" (defArgs (topS 19)) (defBody (topS 19)) (defScope (topS 19)) .none kV19 dc19 pm19 an19 cd19 ct19), sl19⟩) (c19 : PySem.W.codeIn K cd19 "_law_slots" = true) (k19 : PySem.W.keepIn K (.ref f19) = true)
    (a20 : PySem.W.nsIn K mainGlobals "_law_changes" = some (some (.ref f20))) (l20 : K.lookup f20 = some ⟨oc20, od20, .func (PySem.W.fnOf "_law_changes" "_law_changes" (defArgs (topS 20)) (defBody (topS 20)) (defScope (topS 20)) .none kV20 dc20 pm20 an20 cd20 ct20), sl20⟩) (c20 : PySem.W.codeIn K cd20 "_law_changes" = true) (k20 : PySem.W.keepIn K (.ref f20) = true)
    (a24 : PySem.W.nsIn K mainGlobals "_law_due" = some (some (.ref f24))) (l24 : K.lookup f24 = some ⟨oc24, od24, .func (PySem.W.fnOf "_law_due" "_law_due" (defArgs (topS 24)) (defBody (topS 24)) (defScope (topS 24)) .none kV24 dc24 pm24 an24 cd24 ct24), sl24⟩) (c24 : PySem.W.codeIn K cd24 "_law_due" = true) (k24 : PySem.W.keepIn K (.ref f24) = true)
    (a25 : PySem.W.nsIn K mainGlobals "law" = some (some (.ref f25))) (l25 : K.lookup f25 = some ⟨oc25, od25, .func (PySem.W.fnOf "law" "law" (defArgs (topS 25)) (defBody (topS 25)) (defScope (topS 25)) .none kV25 dc25 pm25 an25 cd25 ct25), sl25⟩) (c25 : PySem.W.codeIn K cd25 "law" = true) (k25 : PySem.W.keepIn K (.ref f25) = true)
    (g4 : PySem.W.nsIn K mainGlobals "NODES_OF_A_PAGE" = some (some u4)) (r4 : L2.RelV (.int 4) u4)    (z_len : PySem.W.nsIn K mainGlobals "len" = some none)    (z_max : PySem.W.nsIn K mainGlobals "max" = some none)    (z_min : PySem.W.nsIn K mainGlobals "min" = some none)    (z_int : PySem.W.nsIn K mainGlobals "int" = some none)    (z_bool : PySem.W.nsIn K mainGlobals "bool" = some none)    (z_range : PySem.W.nsIn K mainGlobals "range" = some none)    (z_tuple : PySem.W.nsIn K mainGlobals "tuple" = some none)    (z_list : PySem.W.nsIn K mainGlobals "list" = some none)    (z_isinstance : PySem.W.nsIn K mainGlobals "isinstance" = some none)    (z_repr : PySem.W.nsIn K mainGlobals "repr" = some none) :
    ∃ fd : FuncData, (∀ (s : Shared) (v : Value), BindsTo s fd ⟨[v], []⟩ [("_law_script", v)]) ∧ ∀ base : Heap, K.In base → base.Ns mainGlobals mg → FnG PySem.Challenge.rw_writeorders_k07_changes_put_on.prog w K mg base CX0 6 fa fd ["_law_script"] (liftS K sLaw) := by
  have e := hfa.symm.trans (PySem.W.mg_of X G a25)
  cases e
  have m4 := PySem.W.mg_of X G g4
  have F4 := fun_mk (st := topS 4) l4 c4 k4
  have b4 := F4.binds (ps := ["thing"]) fun _ _ _ _ _ _ us hl => match us, hl with | [_], _ => rfl
  have m4' := PySem.W.mg_of X G a4
  have F5 := fun_mk (st := topS 5) l5 c5 k5
  have b5 := F5.binds (ps := ["thing", "least", "most"]) fun _ _ _ _ _ _ us hl => match us, hl with | [_, _, _], _ => rfl
  have m5 := PySem.W.mg_of X G a5
  have F6 := fun_mk (st := topS 6) l6 c6 k6
  have b6 := F6.binds (ps := ["image"]) fun _ _ _ _ _ _ us hl => match us, hl with | [_], _ => rfl
  have m6 := PySem.W.mg_of X G a6
  have F7 := fun_mk (st := topS 7) l7 c7 k7
  have b7 := F7.binds (ps := ["image", "page"]) fun _ _ _ _ _ _ us hl => match us, hl with | [_, _], _ => rfl
  have m7 := PySem.W.mg_of X G a7
  have F8 := fun_mk (st := topS 8) l8 c8 k8
  have b8 := F8.binds (ps := ["image", "page", "slots"]) fun _ _ _ _ _ _ us hl => match us, hl with | [_, _, _], _ => rfl
  have m8 := PySem.W.mg_of X G a8
  have F9 := fun_mk (st := topS 9) l9 c9 k9
  have b9 := F9.binds (ps := ["image"]) fun _ _ _ _ _ _ us hl => match us, hl with | [_], _ => rfl
  have m9 := PySem.W.mg_of X G a9
  have F10 := fun_mk (st := topS 10) l10 c10 k10
  have b10 := F10.binds (ps := ["page"]) fun _ _ _ _ _ _ us hl => match us, hl with | [_], _ => rfl
  have m10 := PySem.W.mg_of X G a10
  have F11 := fun_mk (st := topS 11) l11 c11 k11
  have b11 := F11.binds (ps := ["image", "page"]) fun _ _ _ _ _ _ us hl => match us, hl with | [_, _], _ => rfl
  have m11 := PySem.W.mg_of X G a11
  have F13 := fun_mk (st := topS 13) l13 c13 k13
  have b13 := F13.binds (ps := ["image", "changes"]) fun _ _ _ _ _ _ us hl => match us, hl with | [_, _], _ => rfl
  have m13 := PySem.W.mg_of X G a13
  have F15 := fun_mk (st := topS 15) l15 c15 k15
  have b15 := F15.binds (ps := ["_law_script", "_law_k"]) fun _ _ _ _ _ _ us hl => match us, hl with | [_, _], _ => rfl
  have m15 := PySem.W.mg_of X G a15
  have F16 := fun_mk (st := topS 16) l16 c16 k16
  have b16 := F16.binds (ps := ["_law_pool_here", "_law_many_here"]) fun _ _ _ _ _ _ us hl => match us, hl with | [_, _], _ => rfl
  have m16 := PySem.W.mg_of X G a16
  have F17 := fun_mk (st := topS 17) l17 c17 k17
  have b17 := F17.binds (ps := ["_law_pool_here"]) fun _ _ _ _ _ _ us hl => match us, hl with | [_], _ => rfl
  have m17 := PySem.W.mg_of X G a17
  have F18 := fun_mk (st := topS 18) l18 c18 k18
  have b18 := F18.binds (ps := ["_law_image_here"]) fun _ _ _ _ _ _ us hl => match us, hl with | [_], _ => rfl
  have m18 := PySem.W.mg_of X G a18
  have F19 := fun_mk (st := topS 19) l19 c19 k19
  have b19 := F19.binds (ps := ["_law_image_here", "_law_at"]) fun _ _ _ _ _ _ us hl => match us, hl with | [_, _], _ => rfl
  have m19 := PySem.W.mg_of X G a19
  have F20 := fun_mk (st := topS 20) l20 c20 k20
  have b20 := F20.binds (ps := ["_law_pool_here", "_law_image_here"]) fun _ _ _ _ _ _ us hl => match us, hl with | [_, _], _ => rfl
  have m20 := PySem.W.mg_of X G a20
  have F24 := fun_mk (st := topS 24) l24 c24 k24
  have b24 := F24.binds (ps := ["_law_image_here", "_law_some"]) fun _ _ _ _ _ _ us hl => match us, hl with | [_, _], _ => rfl
  have m24 := PySem.W.mg_of X G a24
  have F25 := fun_mk (st := topS 25) l25 c25 k25
  have n_len := PySem.W.mg_none_of X G z_len
  have n_max := PySem.W.mg_none_of X G z_max
  have n_min := PySem.W.mg_none_of X G z_min
  have n_int := PySem.W.mg_none_of X G z_int
  have n_bool := PySem.W.mg_none_of X G z_bool
  have n_range := PySem.W.mg_none_of X G z_range
  have n_tuple := PySem.W.mg_none_of X G z_tuple
  have n_list := PySem.W.mg_none_of X G z_list
  have n_isinstance := PySem.W.mg_none_of X G z_isinstance
  have n_repr := PySem.W.mg_none_of X G z_repr
  refine ⟨PySem.W.fnOf "law" "law" (defArgs (topS 25)) (defBody (topS 25)) (defScope (topS 25)) .none kV25 dc25 pm25 an25 cd25 ct25, fun s v => .of_eq rfl, fun base _ _ => ?_⟩
  have cFirst := ok_first (Pg := PySem.Challenge.rw_writeorders_k07_changes_put_on.prog) (w := w) (base := base) F9 m9 b9 n_len m4 r4
  have cNode := ok_node (Pg := PySem.Challenge.rw_writeorders_k07_changes_put_on.prog) (w := w) (base := base) F10 m10 b10 m4 r4
  have cPages := ok_pages F6 m6 b6 n_len cFirst
  have cWhole := ok_whole (Pg := PySem.Challenge.rw_writeorders_k07_changes_put_on.prog) (w := w) (base := base) F4 m4' b4 n_isinstance n_int n_bool
  have cWithin := ok_within F5 m5 b5 cWhole
  have cCheck := ok_check F11 m11 b11 cWithin cPages
  have cSlo := ok_slo F7 m7 b7 cCheck cFirst cNode
  have cWith := ok_with F8 m8 b8 cCheck cFirst cNode
  have cPut := ok_put F13 m13 b13 n_list n_tuple cSlo cWith
  have cPool := ok_pool (Pg := PySem.Challenge.rw_writeorders_k07_changes_put_on.prog) (w := w) (base := base) F15 m15 b15 n_len n_max n_int
  have cDraw := ok_draw (Pg := PySem.Challenge.rw_writeorders_k07_changes_put_on.prog) (w := w) (base := base) F16 m16 b16
  have cImage := ok_image F17 m17 b17 cDraw
  have cMany := ok_many (Pg := PySem.Challenge.rw_writeorders_k07_changes_put_on.prog) (w := w) (base := base) F18 m18 b18 n_len
  have cSlots := ok_slots (Pg := PySem.Challenge.rw_writeorders_k07_changes_put_on.prog) (w := w) (base := base) F19 m19 b19 n_len
  have cChg := ok_chg F20 m20 b20 n_len n_range n_tuple cDraw cMany cSlots
  have cDue := ok_due F24 m24 b24 n_list n_tuple n_range n_len cMany cSlots
  exact ok_law F25 n_len n_range n_max n_min n_repr cPut cPool cDraw cImage cChg cDue
end K07
open PySem PySem.W PyProof.Rows
set_option maxHeartbeats 0 in
theorem PySem.Challenge.cw_writeorders_k07_changes_put_on_holds : PySem.Challenge.rw_writeorders_k07_changes_put_on.Holds := by
  w_on; o_law; k_head; (case hw => w_witness2)
  k_fill
  refine Dl.walk_G (l := PySem.Challenge.rw_writeorders_k07_changes_put_on) (n := 63) (k := 6) (x := "_law_script") (sp := fun K => Dl.liftS K K07.sLaw) rfl (by decide) rfl ⟨rfl, by decide, by decide⟩ (fun w h Y => PySem.W.kIn_of Y) ?F (fun K H a ns hl hO hS => Dl.law_data hO hS ⟨ns, rfl, hl, fun _ => rfl⟩ fun A Z Z' k ⟨a, h1, h2, h3⟩ => ⟨a, h1, h2, fun R' => k _ _ (h3 R')⟩)
  case F =>
    intro w mg fa h KX G hmg
    refine' K07.all_mk KX G hmg ?a4 ?l4 ?c4 ?k4 ?a5 ?l5 ?c5 ?k5 ?a6 ?l6 ?c6 ?k6 ?a7 ?l7 ?c7 ?k7 ?a8 ?l8 ?c8 ?k8 ?a9 ?l9 ?c9 ?k9 ?a10 ?l10 ?c10 ?k10 ?a11 ?l11 ?c11 ?k11 ?a13 ?l13 ?c13 ?k13 ?a15 ?l15 ?c15 ?k15 ?a16 ?l16 ?c16 ?k16 ?a17 ?l17 ?c17 ?k17 ?a18 ?l18 ?c18 ?k18 ?a19 ?l19 ?c19 ?k19 ?a20 ?l20 ?c20 ?k20 ?a24 ?l24 ?c24 ?k24 ?a25 ?l25 ?c25 ?k25 ?g4 ?r4 ?z_len ?z_max ?z_min ?z_int ?z_bool ?z_range ?z_tuple ?z_list ?z_isinstance ?z_repr
    (case a4 => k_is); (case l4 => k_is); (case c4 => k_is); (case k4 => k_is)
    (case a5 => k_is); (case l5 => k_is); (case c5 => k_is); (case k5 => k_is)
    (case a6 => k_is); (case l6 => k_is); (case c6 => k_is); (case k6 => k_is)
    (case a7 => k_is); (case l7 => k_is); (case c7 => k_is); (case k7 => k_is)
    (case a8 => k_is); (case l8 => k_is); (case c8 => k_is); (case k8 => k_is)
    (case a9 => k_is); (case l9 => k_is); (case c9 => k_is); (case k9 => k_is)
    (case a10 => k_is); (case l10 => k_is); (case c10 => k_is); (case k10 => k_is)
    (case a11 => k_is); (case l11 => k_is); (case c11 => k_is); (case k11 => k_is)
    (case a13 => k_is); (case l13 => k_is); (case c13 => k_is); (case k13 => k_is)
    (case a15 => k_is); (case l15 => k_is); (case c15 => k_is); (case k15 => k_is)
    (case a16 => k_is); (case l16 => k_is); (case c16 => k_is); (case k16 => k_is)
    (case a17 => k_is); (case l17 => k_is); (case c17 => k_is); (case k17 => k_is)
    (case a18 => k_is); (case l18 => k_is); (case c18 => k_is); (case k18 => k_is)
    (case a19 => k_is); (case l19 => k_is); (case c19 => k_is); (case k19 => k_is)
    (case a20 => k_is); (case l20 => k_is); (case c20 => k_is); (case k20 => k_is)
    (case a24 => k_is); (case l24 => k_is); (case c24 => k_is); (case k24 => k_is)
    (case a25 => k_is); (case l25 => k_is); (case c25 => k_is); (case k25 => k_is)
    (case g4 => k_is); (case r4 => exact ⟨_, rfl⟩)
    (case z_len => k_is); (case z_max => k_is); (case z_min => k_is); (case z_int => k_is); (case z_bool => k_is); (case z_range => k_is); (case z_tuple => k_is); (case z_list => k_is); (case z_isinstance => k_is); (case z_repr => k_is)
